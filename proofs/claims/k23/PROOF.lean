import PyProof.Rows.All
import Wide.All
import OpenK.AllK
import Wide.FinOn
import HandS.ForMost
import HandS.TupAny
import HandS.TupMul
import HandS.IsInst
import HandS.SortInts
import HandS.Wide
import HandS.Style
import HandS.Flow
import HandS.Deep
import HandS.SetFor
import HandS.Conv
import HandS.SortRule
import HandS.RaiseMore
import HandS.Zip
import KE.GoesMore
import KE.GoesEnum
import HandS.Strs
import HandS.NoneIn
import HandS.List
import HandS.SortOrd
import HandS.Text
import HandS.FStr
import KE.KDictZip
import PyProof.TupleOfGen
import HandS.DictEq
import HandS.ForExc
import HandS.ExcInit
import HandS.ExcField
import HandS.ExcIs
import HandS.TryMany
import KE.KExcIs
import KE.KIsAll
import KE.KCallOwn
import HandS.SlotsOwn
import HandS.MakeKwOnly
import HandS.More
import HandS.CallLocal
import HandS.HeadHook3
import HandS.TryOnly
import KE.KExcPX
import KE.KIndexOf
import HandS.GenBody
import PyProof.GenComp
import HandS.GenYield
import HandS.GenList
import KE.LtData
import PySem.Challenge.RW_shoeparty_k23_whole_orders
set_option Elab.async false
set_option linter.all false
set_option maxRecDepth 100000
namespace DL
open PySem PySem.Spec PyProof.Rows L2
def keyD : Key → PyData
  | .inl i => .int i
  | .inr s => .str s
/-- a dict of ints under plain keys -/
def DctR (kvs : List (PyData × PyData)) (ks : List (Key × V)) : Prop :=
  ∃ ps : List (Key × Int), ks = ps.map (fun p => (p.1, V.int p.2)) ∧ kvs = ps.map (fun p => (keyD p.1, PyData.int p.2))
/-- a thing with a life of its own, named by its address -/
def refD (a : Addr) : PyData := .dict [(.none, .int (((2 : Nat) ^ 2000 + a : Nat) : Int))]
/-- a tuple of ints whose dict is known to be none -/
def clnD (ns : List Int) : PyData := .dict [(.none, .tuple (.int (((2 : Nat) ^ 2000 : Nat) : Int) :: ns.map .int))]
theorem rdS {F H : Hp} (e : Same F H) {a : Addr} {u : HO} (h : Rd F a u) : Rd H a u := h.imp (e _ _) fun ⟨o, q⟩ => ⟨o, e _ _ q⟩
theorem sqtR {K : PySem.W.Frag} {H : Hp} {a : Addr} {xs : List V} (h : Rd H a (.tup xs)) : SqT K H a xs := .inl h
mutual
def Rp (K : PySem.W.Frag) (F : Hp) : PyData → V → Prop
  | .none, v => v = .non
  | .bool b, v => v = .bl b
  | .int i, v => v = .int i
  | .str s, v => v = .str s
  | .list ds, v => ∃ a xs, v = .ref a ∧ F a = some (.lst xs) ∧ Rps K F ds xs
  | .tuple ds, v => ∃ a xs, v = .ref a ∧ Rd F a (.tup xs) ∧ Rps K F ds xs
  | .dict kvs, v => (∃ a ks, v = .ref a ∧ F a = some (.dK ks) ∧ DctR kvs ks) ∨ (∃ a : Addr, PyData.dict kvs = refD a ∧ v = .ref a) ∨ ∃ (a : Addr) (ns : List Int) (o : Obj), PyData.dict kvs = clnD ns ∧ v = .ref a ∧ F a = some (.frz o (.tup (ns.map V.int))) ∧ o.cls = .type "tuple" ∧ o.dict = none
def Rps (K : PySem.W.Frag) (F : Hp) : List PyData → List V → Prop
  | [], vs => vs = []
  | d :: ds, vs => ∃ v r, vs = v :: r ∧ Rp K F d v ∧ Rps K F ds r
end
section
variable {K : PySem.W.Frag} {F F' H H' : Hp}
mutual
theorem Rp.mono (e : Same F F') : ∀ (d : PyData) (v : V), Rp K F d v → Rp K F' d v
  | .none, _, h => by simpa only [Rp] using h
  | .bool _, _, h => by simpa only [Rp] using h
  | .int _, _, h => by simpa only [Rp] using h
  | .str _, _, h => by simpa only [Rp] using h
  | .list ds, _, h => by
    simp only [Rp] at h ⊢
    obtain ⟨a, xs, rfl, h1, h2⟩ := h
    exact ⟨a, xs, rfl, e _ _ h1, Rps.mono e ds xs h2⟩
  | .tuple ds, _, h => by
    simp only [Rp] at h ⊢
    obtain ⟨a, xs, rfl, h1, h2⟩ := h
    exact ⟨a, xs, rfl, rdS e h1, Rps.mono e ds xs h2⟩
  | .dict kvs, _, h => by
    simp only [Rp] at h ⊢
    rcases h with ⟨a, ks, rfl, h1, h2⟩ | h | ⟨a, ns, o, e1, rfl, h1, h2⟩
    · exact .inl ⟨a, ks, rfl, e _ _ h1, h2⟩
    · exact .inr (.inl h)
    · exact .inr (.inr ⟨a, ns, o, e1, rfl, e _ _ h1, h2⟩)
theorem Rps.mono (e : Same F F') : ∀ (ds : List PyData) (vs : List V), Rps K F ds vs → Rps K F' ds vs
  | [], _, h => by simpa only [Rps] using h
  | d :: ds, _, h => by
    simp only [Rps] at h ⊢
    obtain ⟨v, r, rfl, h1, h2⟩ := h
    exact ⟨v, r, rfl, Rp.mono e d v h1, Rps.mono e ds r h2⟩
end
theorem refD_inj {a b : Addr} (h : refD a = refD b) : a = b := by
  unfold refD at h
  injection h with h
  injection h with h
  injection h with _ h
  injection h with h
  exact Nat.add_left_cancel (Int.ofNat.inj h)
theorem keyD_ne {k : Key} : keyD k ≠ .none := by cases k <;> nofun
theorem ref_no {kvs : List (PyData × PyData)} {ks : List (Key × V)} {a : Addr} (h : DctR kvs ks) (e : PyData.dict kvs = refD a) : False := by
  obtain ⟨ps, _, e2⟩ := h
  unfold refD at e
  injection e with e
  rw [e2] at e
  cases ps with
  | nil => cases e
  | cons q ps =>
    rw [List.map_cons] at e
    injection e with e _
    injection e with e _
    exact absurd e keyD_ne
theorem Rp.ref {a : Addr} {v : V} (h : Rp K F (refD a) v) : v = .ref a := by
  have h : Rp K F (.dict [(.none, .int (((2 : Nat) ^ 2000 + a : Nat) : Int))]) v := h
  simp only [Rp] at h
  rcases h with ⟨_, _, _, _, q⟩ | ⟨b, e, rfl⟩ | ⟨_, _, _, e, _⟩
  · exact (ref_no (a := a) q rfl).elim
  · rw [refD_inj (show refD a = refD b from e)]
  · unfold clnD at e
    injection e with e
    injection e with e
    injection e with _ e
    cases e
theorem rps_nil : Rps K F [] [] := by simp [Rps]
theorem rps_cons {d : PyData} {ds : List PyData} {v : V} {vs : List V} (h1 : Rp K F d v) (h2 : Rps K F ds vs) : Rps K F (d :: ds) (v :: vs) := by
  simp only [Rps]; exact ⟨v, vs, rfl, h1, h2⟩
theorem Rps.length : ∀ {ds : List PyData} {vs : List V}, Rps K F ds vs → ds.length = vs.length
  | [], _, h => by simp only [Rps] at h; subst h; rfl
  | d :: ds, _, h => by
    simp only [Rps] at h
    obtain ⟨v, r, rfl, _, h2⟩ := h
    simp [Rps.length h2]
theorem Rps.get : ∀ {ds : List PyData} {vs : List V} {i : Nat} {d : PyData}, Rps K F ds vs → ds[i]? = some d → ∃ v, vs[i]? = some v ∧ Rp K F d v
  | [], _, i, d, _, e => by simp at e
  | d :: ds, _, 0, d', h, e => by
    simp only [Rps] at h
    obtain ⟨v, r, rfl, h1, _⟩ := h
    simp at e; subst e
    exact ⟨v, rfl, h1⟩
  | d :: ds, _, i + 1, d', h, e => by
    simp only [Rps] at h
    obtain ⟨v, r, rfl, _, h2⟩ := h
    obtain ⟨w, e1, e2⟩ := Rps.get (i := i) h2 (by simpa using e)
    exact ⟨w, by simpa using e1, e2⟩
theorem Rps.append : ∀ {ds es : List PyData} {vs us : List V}, Rps K F ds vs → Rps K F es us → Rps K F (ds ++ es) (vs ++ us)
  | [], _, _, _, h, h' => by simp only [Rps] at h; subst h; exact h'
  | d :: ds, es, _, us, h, h' => by
    simp only [Rps] at h
    obtain ⟨v, r, rfl, h1, h2⟩ := h
    exact rps_cons h1 (Rps.append h2 h')
theorem Rps.take : ∀ (n : Nat) {ds : List PyData} {vs : List V}, Rps K F ds vs → Rps K F (ds.take n) (vs.take n)
  | 0, _, _, _ => by simp [Rps]
  | n + 1, [], _, h => by simp only [Rps] at h; subst h; simp [Rps]
  | n + 1, d :: ds, _, h => by
    simp only [Rps] at h
    obtain ⟨v, r, rfl, h1, h2⟩ := h
    exact rps_cons h1 (Rps.take n h2)
theorem Rps.drop : ∀ (n : Nat) {ds : List PyData} {vs : List V}, Rps K F ds vs → Rps K F (ds.drop n) (vs.drop n)
  | 0, _, _, h => h
  | n + 1, [], _, h => by simp only [Rps] at h; subst h; simp [Rps]
  | n + 1, d :: ds, _, h => by
    simp only [Rps] at h
    obtain ⟨v, r, rfl, h1, h2⟩ := h
    exact Rps.drop n h2
theorem Rps.rev : ∀ {ds : List PyData} {vs : List V}, Rps K F ds vs → Rps K F ds.reverse vs.reverse
  | [], _, h => by simp only [Rps] at h; subst h; simp [Rps]
  | d :: ds, _, h => by
    simp only [Rps] at h
    obtain ⟨v, r, rfl, h1, h2⟩ := h
    rw [List.reverse_cons, List.reverse_cons]
    exact (Rps.rev h2).append (rps_cons h1 rps_nil)
theorem rps_ints : ∀ (ns : List Int), Rps K F (ns.map PyData.int) (ns.map V.int)
  | [] => rps_nil
  | n :: ns => rps_cons (by simp [Rp]) (rps_ints ns)
theorem Rps.ints : ∀ {ns : List Int} {vs : List V}, Rps K F (ns.map PyData.int) vs → vs = ns.map V.int
  | [], _, h => by simpa only [List.map_nil, Rps] using h
  | n :: ns, _, h => by
    simp only [List.map_cons, Rps, Rp] at h
    obtain ⟨v, r, rfl, rfl, h2⟩ := h
    rw [Rps.ints h2]; rfl
end
/-- an object: its class, its fields -/
structure Ob where
  C : Addr
  fs : List (Str × PyData)
/-- an error that is being handled: its class, its own dict, its fields -/
structure Xo where
  cls : Value
  d : Option Addr
  fs : List (Str × PyData)
/-- the world: how many draws, what objects there are -/
structure Wo where
  n : Nat
  ob : Addr → Option Ob
  xs : Addr → Option Xo
instance : HAdd Wo Nat Wo := ⟨fun w k => { w with n := w.n + k }⟩
/-- later: some draws more -/
instance : LE Wo := ⟨fun w w' => w.n ≤ w'.n ∧ w.ob = w'.ob ∧ w.xs = w'.xs⟩
theorem Wo.add0 (w : Wo) (d : Nat) : w = w + 0 * d := by rw [Nat.zero_mul]; rfl
abbrev FsR (K : PySem.W.Frag) (F : Hp) : List (Str × PyData) → List (Str × V) → Prop := Paired fun p q => p.1 = q.1 ∧ Rp K F p.2 q.2
structure DkS where
  own : List Addr
  at0 : Hp → Nat → Prop
  stay : ∀ (H H' : Hp) (n : Nat), (∀ a, a ∈ own → H' a = H a) → at0 H n → at0 H' n
  lsts : ∀ (H : Hp) (n : Nat), at0 H n → ∀ a, a ∈ own → ∃ xs, H a = some (.lst xs)
def XoAt (K : PySem.W.Frag) (F : Hp) (x : Xo) : Prop := (x.d = none ∧ x.fs = []) ∨ ∃ dd vs, x.d = some dd ∧ F dd = some (.xd vs) ∧ FsR K F x.fs vs
def Obs (K : PySem.W.Frag) (F H : Hp) (w : Wo) : Prop := (∀ a o, w.ob a = some o → F a = none ∧ ∃ dx vs, H a = some (.ins o.C dx vs) ∧ FsR K F o.fs vs) ∧ ∀ a x, w.xs a = some x → XoAt K F x
def DkS.at_ (δ : DkS) (K : PySem.W.Frag) (F H : Hp) (w : Wo) : Prop := δ.at0 H w.n ∧ Obs K F H w
/-- [cells, count] -/
def dkA (a b : Addr) : DkS := ⟨[a, b], fun H n => ∃ cells : List Int, H a = some (.lst [.ref b, .int n]) ∧ H b = some (.lst (cells.map V.int)) ∧ cells.length ≤ 63 ∧ ∀ c ∈ cells, 0 ≤ c, fun H H' n h ⟨cells, h1, h2, h3⟩ =>
  ⟨cells, by rw [h a (by simp)]; exact h1, by rw [h b (by simp)]; exact h2, h3⟩, fun H n ⟨cells, h1, h2, _⟩ x hx => by
  rcases List.mem_cons.mp hx with rfl | hx
  · exact ⟨_, h1⟩
  · rw [List.mem_singleton.mp hx]; exact ⟨_, h2⟩⟩
/-- [cells, count, rests] -/
def dkB (a b c : Addr) : DkS := ⟨[a, b, c], fun H n => ∃ cells rests : List Int, H a = some (.lst [.ref b, .int n, .ref c]) ∧ H b = some (.lst (cells.map V.int)) ∧ H c = some (.lst (rests.map V.int)) ∧ rests.length = cells.length ∧ 1 ≤ cells.length ∧ cells.length ≤ 63 ∧ (∀ c ∈ cells, c = c) ∧ ∀ c ∈ rests, 0 ≤ c,
  fun H H' n h ⟨cells, rests, h1, h2, h3, h4⟩ => ⟨cells, rests, by rw [h a (by simp)]; exact h1, by rw [h b (by simp)]; exact h2, by rw [h c (by simp)]; exact h3, h4⟩, fun H n ⟨cells, rests, h1, h2, h3, _⟩ x hx => by
  rcases List.mem_cons.mp hx with rfl | hx
  · exact ⟨_, h1⟩
  rcases List.mem_cons.mp hx with rfl | hx
  · exact ⟨_, h2⟩
  · rw [List.mem_singleton.mp hx]; exact ⟨_, h3⟩⟩
def IsDk : Bool → DkS → Addr → Prop
  | false, δ, a => ∃ b, δ = dkA a b
  | true, δ, a => ∃ b c, δ = dkB a b c
/-- F0, H0: the entry; δ: the deck -/
structure Fx where
  F0 : Hp
  H0 : Hp
  δ : DkS
inductive Dv where
  | dat (d : PyData) | vw (ds : List PyData) | mt (ds : List PyData) | deck (b : Bool) | md (a : Addr) (ks : List (Key × V))
def Dv.toD : Dv → PyData
  | .dat d => d
  | .vw ds => .list ds
  | .mt ds => .list ds
  | .deck _ => .none
  | .md _ _ => .none
def Dv.isL : Dv → Bool
  | .vw _ => true
  | .mt _ => true
  | _ => false
def Dv.isDk : Dv → Bool
  | .deck _ => true
  | _ => false
abbrev Rho := List (Option Dv)
/-- a value that an expression hands on -/
def VR (K : PySem.W.Frag) (δ : DkS) (F H : Hp) : Dv → V → Prop
  | .dat d, v => Rp K F d v
  | .vw ds, v => ∃ a vs, v = .ref a ∧ H a = some (.lst vs) ∧ Rps K F ds vs ∧ a ∉ δ.own
  | .mt _, _ => False
  | .deck k, v => ∃ a, v = .ref a ∧ IsDk k δ a
  | .md _ _, _ => False
def SlotV (K : PySem.W.Frag) (Z : Fx) (F H : Hp) : Dv → V → Prop
  | .mt ds, v => ∃ a vs, v = .ref a ∧ Z.H0 a = none ∧ F a = none ∧ H a = some (.lst vs) ∧ Rps K F ds vs ∧ a ∉ Z.δ.own
  | .md a ks, v => v = .ref a ∧ Z.H0 a = none ∧ F a = none ∧ H a = some (.dK ks) ∧ a ∉ Z.δ.own
  | .dat d, v => VR K Z.δ F H (.dat d) v
  | .vw ds, v => VR K Z.δ F H (.vw ds) v
  | .deck k, v => VR K Z.δ F H (.deck k) v
def isIns : HO → Bool
  | .ins _ _ _ => true
  | _ => false
/-- one expression's growth -/
structure Gr (δ : DkS) (F H F' H' : Hp) : Prop where
  sF : Same F F'
  nF : ∀ a, H a ≠ none → F a = none → F' a = none
  kH : ∀ a o, a ∉ δ.own → H a = some o → isIns o = false → H' a = some o
  iH : ∀ a C dx fs, H a = some (.ins C dx fs) → ∃ fs', H' a = some (.ins C dx fs')
  dH : ∀ a, H a ≠ none → H' a ≠ none
structure Base (K : PySem.W.Frag) (Z : Fx) (F H : Hp) (n : Wo) : Prop where
  sub : Same F H
  dk : Z.δ.at_ K F H n
  dkF : ∀ a, a ∈ Z.δ.own → F a = none ∧ H a ≠ none
  gF : Same Z.F0 F
  gN : ∀ a, Z.H0 a ≠ none → Z.F0 a = none → F a = none
  gH : ∀ a o, a ∉ Z.δ.own → Z.H0 a = some o → isIns o = false → H a = some o
  gI : ∀ a C dx fs, Z.H0 a = some (.ins C dx fs) → ∃ fs', H a = some (.ins C dx fs')
structure SR (Y : Fx) (K : PySem.W.Frag) (Z : Fx) (F H : Hp) (σ : L2.St) (ρ : Rho) (n : Wo) : Prop where
  b : Base K Z F H n
  de : Z.δ = Y.δ
  he : Z.H0 = Y.H0
  gr : Gr Y.δ Y.F0 Y.H0 F H
  len : ρ.length = σ.length
  slot : ∀ (i : Nat) (x : Dv), ρ[i]? = some (some x) → ∃ v, σ[i]? = some (some v) ∧ SlotV K Z F H x v
  apart : ∀ (i j : Nat) (a : Addr) (ds : List PyData) (y : Dv), i ≠ j → ρ[i]? = some (some (.mt ds)) → σ[i]? = some (some (.ref a)) → ρ[j]? = some (some y) → y.isL = true → σ[j]? ≠ some (some (.ref a))
/-- .. that changes nothing -/
structure Gp (F H F' H' : Hp) : Prop where
  sF : Same F F'
  nF : ∀ a, H a ≠ none → F a = none → F' a = none
  sH : Same H H'
section
variable {K : PySem.W.Frag} {Y Z : Fx} {δ : DkS} {F F' F'' H H' H'' : Hp} {σ : L2.St} {ρ : Rho} {n n' : Wo}
theorem some_of_ne {H : Hp} {a : Addr} (h : H a ≠ none) : ∃ o, H a = some o := by
  cases e : H a with
  | none => exact absurd e h
  | some o => exact ⟨o, rfl⟩
theorem Gr.refl : Gr δ F H F H := ⟨Same.refl _, fun _ _ h => h, fun _ _ _ h _ => h, fun _ _ _ _ h => ⟨_, h⟩, fun _ h => h⟩
theorem Gr.trans (a : Gr δ F H F' H') (b : Gr δ F' H' F'' H'') : Gr δ F H F'' H'' :=
  ⟨a.sF.trans b.sF, fun x h1 h2 => b.nF x (a.dH x h1) (a.nF x h1 h2), fun x o h1 h2 h3 => b.kH x o h1 (a.kH x o h1 h2 h3) h3, fun x C dx fs h => by
    obtain ⟨fs', h'⟩ := a.iH x C dx fs h
    exact b.iH x C dx fs' h', fun x h => b.dH x (a.dH x h)⟩
theorem Gp.refl : Gp F H F H := ⟨Same.refl _, fun _ _ h => h, Same.refl _⟩
theorem Gp.ne (g : Gp F H F' H') {a : Addr} (h : H a ≠ none) : H' a ≠ none := by
  obtain ⟨o, e⟩ := some_of_ne h
  rw [g.sH _ _ e]; nofun
theorem Gp.trans (a : Gp F H F' H') (b : Gp F' H' F'' H'') : Gp F H F'' H'' :=
  ⟨a.sF.trans b.sF, fun x h1 h2 => b.nF x (a.ne h1) (a.nF x h1 h2), a.sH.trans b.sH⟩
theorem Gp.gr (g : Gp F H F' H') : Gr δ F H F' H' := ⟨g.sF, g.nF, fun _ _ _ h _ => g.sH _ _ h, fun _ _ _ _ h => ⟨_, g.sH _ _ h⟩, fun _ h => g.ne h⟩
theorem FsR.mono (e : Same F F') {fs : List (Str × PyData)} {vs : List (Str × V)} (h : FsR K F fs vs) : FsR K F' fs vs := Paired.mapP h fun p q r => ⟨r.1, Rp.mono e _ _ r.2⟩
theorem XoAt.mono (e : Same F F') {x : Xo} (h : XoAt K F x) : XoAt K F' x := by
  rcases h with h | ⟨dd, vs, h1, h2, h3⟩
  · exact .inl h
  · exact .inr ⟨dd, vs, h1, e _ _ h2, h3.mono e⟩
theorem Obs.grow (h : Obs K F H n) (hn : ∀ a, H a ≠ none → F a = none → F' a = none) (hF : Same F F') (hH : ∀ a C dx fs, H a = some (.ins C dx fs) → H' a = some (.ins C dx fs)) : Obs K F' H' n := ⟨fun a o e => by
  obtain ⟨h1, dx, vs, h2, h3⟩ := h.1 a o e
  exact ⟨hn a (by rw [h2]; nofun) h1, dx, vs, hH _ _ _ _ h2, h3.mono hF⟩, fun a x e => (h.2 a x e).mono hF⟩
theorem Gp.dk (g : Gp F H F' H') (b : Base K Z F H n) : Z.δ.at_ K F' H' n := ⟨Z.δ.stay H H' n.n (fun a ha => by
  obtain ⟨o, e⟩ := some_of_ne (b.dkF a ha).2
  rw [e]; exact g.sH _ _ e) b.dk.1, b.dk.2.grow g.nF g.sF fun _ _ _ _ h => g.sH _ _ h⟩
/-- a frozen new object -/
theorem Gp.new {p : Addr} {o : HO} (h : H p = none) (hs : Same F H) : Gp F H (upd F p o) (upd H p o) ∧ Same (upd F p o) (upd H p o) := by
  have hF : F p = none := hs.free h
  refine ⟨⟨fun a u e => ?_, fun a h1 h2 => ?_, fun a u e => ?_⟩, fun a u e => ?_⟩
  · rw [upd_ne (ne_of_none e hF)]; exact e
  · rw [upd_ne (fun q => h1 (by rw [q]; exact h))]; exact h2
  · rw [upd_ne (ne_of_none e h)]; exact e
  · by_cases q : a = p
    · subst q; rw [upd_same] at e ⊢; exact e
    · rw [upd_ne q] at e ⊢; exact hs _ _ e
/-- a new object, not frozen -/
theorem Gp.newM {p : Addr} {o : HO} (h : H p = none) (hs : Same F H) : Gp F H F (upd H p o) ∧ Same F (upd H p o) := by
  refine ⟨⟨Same.refl _, fun _ _ h => h, fun a u e => ?_⟩, fun a u e => ?_⟩
  · rw [upd_ne (ne_of_none e h)]; exact e
  · rw [upd_ne (ne_of_none (hs _ _ e) h)]; exact hs _ _ e
theorem VR.step {x : Dv} {v : V} (g : Gr δ F H F' H') (h : VR K δ F H x v) : VR K δ F' H' x v := by
  cases x with
  | dat d => exact Rp.mono g.sF d v h
  | vw ds =>
    obtain ⟨a, vs, rfl, h1, h2, h3⟩ := h
    exact ⟨a, vs, rfl, g.kH _ _ h3 h1 rfl, Rps.mono g.sF ds vs h2, h3⟩
  | mt ds => exact h
  | deck _ => exact h
  | md _ _ => exact h
theorem SlotV.step {x : Dv} {v : V} (g : Gr Z.δ F H F' H') (h : SlotV K Z F H x v) : SlotV K Z F' H' x v := by
  cases x with
  | mt ds =>
    obtain ⟨a, vs, rfl, h0, h1, h2, h3, h4⟩ := h
    exact ⟨a, vs, rfl, h0, g.nF a (by rw [h2]; nofun) h1, g.kH _ _ h4 h2 rfl, Rps.mono g.sF ds vs h3, h4⟩
  | dat d => exact VR.step (x := .dat d) g h
  | vw ds => exact VR.step (x := .vw ds) g h
  | deck _ => exact h
  | md a ks =>
    obtain ⟨e, h0, h1, h2, h3⟩ := h
    exact ⟨e, h0, g.nF a (by rw [h2]; nofun) h1, g.kH _ _ h3 h2 rfl, h3⟩
theorem Base.gD (b : Base K Z F H n) (a : Addr) (h : Z.H0 a ≠ none) : H a ≠ none := by
  by_cases ha : a ∈ Z.δ.own
  · exact (b.dkF a ha).2
  · obtain ⟨o, e⟩ := some_of_ne h
    by_cases hi : isIns o = false
    · rw [b.gH a o ha e hi]; nofun
    · cases o with
      | ins C dx fs =>
        obtain ⟨fs', h'⟩ := b.gI a C dx fs e
        rw [h']; nofun
      | _ => exact absurd rfl hi
theorem Base.step (b : Base K Z F H n) (g : Gr Z.δ F H F' H') (hs : Same F' H') (hd : Z.δ.at_ K F' H' n') : Base K Z F' H' n' where
  sub := hs
  dk := hd
  dkF := fun a ha => ⟨g.nF a (b.dkF a ha).2 (b.dkF a ha).1, g.dH a (b.dkF a ha).2⟩
  gF := b.gF.trans g.sF
  gN := fun a h1 h2 => by
    by_cases ha : a ∈ Z.δ.own
    · exact g.nF a (b.dkF a ha).2 (b.dkF a ha).1
    · exact g.nF a (b.gD a h1) (b.gN a h1 h2)
  gH := fun a o h1 h2 h3 => g.kH a o h1 (b.gH a o h1 h2 h3) h3
  gI := fun a C dx fs h => by
    obtain ⟨fs', h'⟩ := b.gI a C dx fs h
    exact g.iH a C dx fs' h'
theorem SR.step (r : SR Y K Z F H σ ρ n) (g : Gr Z.δ F H F' H') (hs : Same F' H') (hd : Z.δ.at_ K F' H' n') : SR Y K Z F' H' σ ρ n' where
  b := r.b.step g hs hd
  de := r.de
  he := r.he
  gr := r.gr.trans (r.de ▸ g)
  len := r.len
  slot := fun i x e => by
    obtain ⟨v, e1, e2⟩ := r.slot i x e
    exact ⟨v, e1, e2.step g⟩
  apart := r.apart
/-- what stands as data -/
def needD (x : Dv) (R : PyData → Prop) : Prop :=
  match x with
  | .dat d => R d
  | _ => False
/-- a view is data in the heap itself -/
theorem VR.rp {x : Dv} {v : V} (h : VR K δ F H x v) (hs : Same F H) (hx : x.isDk = false) : Rp K H x.toD v := by
  cases x with
  | dat d => exact Rp.mono hs d v h
  | vw ds =>
    obtain ⟨a, vs, rfl, h1, h2, _⟩ := h
    simp only [Dv.toD, Rp]
    exact ⟨a, vs, rfl, h1, Rps.mono hs ds vs h2⟩
  | mt ds => exact h.elim
  | deck _ => exact absurd hx (by simp [Dv.isDk])
  | md _ _ => exact h.elim
end
abbrev DTE := Rho → Wo → (Dv → Wo → Prop) → Prop
abbrev DTA := Rho → Wo → (List Dv → Wo → Prop) → Prop
abbrev DTT := Rho → Wo → (Bool → Wo → Prop) → Prop
def up (Y : Fx) (K : PySem.W.Frag) (t : DTE) : TE := fun σ H Q => ∃ Z F ρ n R, SR Y K Z F H σ ρ n ∧ t ρ n R ∧
  ∀ x n' F' H' v, R x n' → Gr Z.δ F H F' H' → Same F' H' → Z.δ.at_ K F' H' n' → VR K Z.δ F' H' x v → Q v H'
def VRs (K : PySem.W.Frag) (δ : DkS) (F H : Hp) : List Dv → List V → Prop := Paired (VR K δ F H)
def upA (Y : Fx) (K : PySem.W.Frag) (t : DTA) : TA := fun σ H Q => ∃ Z F ρ n R, SR Y K Z F H σ ρ n ∧ t ρ n R ∧
  ∀ xs n' F' H' vs, R xs n' → Gr Z.δ F H F' H' → Same F' H' → Z.δ.at_ K F' H' n' → VRs K Z.δ F' H' xs vs → Q vs H'
def upT (Y : Fx) (K : PySem.W.Frag) (t : DTT) : TT := fun σ H Q => ∃ Z F ρ n R, SR Y K Z F H σ ρ n ∧ t ρ n R ∧
  ∀ c n' F' H', R c n' → Gr Z.δ F H F' H' → Same F' H' → Z.δ.at_ K F' H' n' → Q c H'
/-- a fresh list -/
abbrev DTM := Rho → Wo → (List PyData → Wo → Prop) → Prop
def upM (Y : Fx) (K : PySem.W.Frag) (t : DTM) : TE := fun σ H Q => ∃ Z F ρ n R, SR Y K Z F H σ ρ n ∧ t ρ n R ∧
  ∀ ds n' F' H' p vs, R ds n' → Gr Z.δ F H F' H' → Same F' H' → Z.δ.at_ K F' H' n' → H p = none → F' p = none → H' p = some (.lst vs) → Rps K F' ds vs → Q (.ref p) H'
abbrev WE (Y : Fx) (X : Cx) (e : Expr) (t : DTE) : Prop := PE X e (up Y X.K t)
abbrev WA (Y : Fx) (X : Cx) (es : List Expr) (t : DTA) : Prop := PA X es (upA Y X.K t)
abbrev WT (Y : Fx) (X : Cx) (e : Expr) (t : DTT) : Prop := PT X e (upT Y X.K t)
abbrev ME (Y : Fx) (X : Cx) (e : Expr) (t : DTM) : Prop := PE X e (upM Y X.K t)
theorem pe_imp {X : Cx} {e : Expr} {t t' : TE} (h : PE X e t) (q : ∀ σ H Q, t' σ H Q → t σ H Q) : PE X e t' := ⟨fun p s σ H Q I w => h.run p s σ H Q I (q σ H Q w)⟩
theorem pa_imp {X : Cx} {es : List Expr} {t t' : TA} (h : PA X es t) (q : ∀ σ H Q, t' σ H Q → t σ H Q) : PA X es t' := ⟨fun c p s σ H Q I w => h.run c p s σ H Q I (q σ H Q w)⟩
theorem pt_imp {X : Cx} {e : Expr} {t t' : TT} (h : PT X e t) (q : ∀ σ H Q, t' σ H Q → t σ H Q) : PT X e t' := ⟨fun p s σ H Q I w => h.run p s σ H Q I (q σ H Q w)⟩
theorem ps_imp {X : Cx} {st : Stmt} {t t' : TS} (h : PS X st t) (q : ∀ D σ H, t' D σ H → t D σ H) : PS X st t' := ⟨fun p s σ H D I w => h.run p s σ H D I (q D σ H w)⟩
theorem pss_imp {X : Cx} {st : List Stmt} {t t' : TS} (h : PSs X st t) (q : ∀ D σ H, t' D σ H → t D σ H) : PSs X st t' := ⟨fun p s σ H D I w => h.run p s σ H D I (q D σ H w)⟩
theorem DkS.at_.fz {K : PySem.W.Frag} {δ : DkS} {F H : Hp} {n : Wo} {p : Addr} {o : HO} (h : δ.at_ K F H n) (hp : H p = some o) (ho : isIns o = false) (hF : F p = none) : δ.at_ K (upd F p o) H n :=
  ⟨h.1, ⟨fun a ob e => by
    obtain ⟨h1, dx, vs, h2, h3⟩ := h.2.1 a ob e
    have ne : a ≠ p := fun q => by
      rw [q, hp] at h2
      cases h2
      cases ho
    exact ⟨by rw [upd_ne ne]; exact h1, dx, vs, h2, h3.mono fun b u e => by rw [upd_ne (ne_of_none e hF)]; exact e⟩, fun a x e => (h.2.2 a x e).mono fun b u e => by rw [upd_ne (ne_of_none e hF)]; exact e⟩⟩
/-- a thing of one's own (no object) is changed -/
theorem DkS.at_.chg {K : PySem.W.Frag} {δ : DkS} {F H : Hp} {n : Wo} {p : Addr} {o u : HO} (h : δ.at_ K F H n) (na : p ∉ δ.own) (hp : H p = some o) (ho : isIns o = false) : δ.at_ K F (upd H p u) n :=
  ⟨δ.stay H _ n.n (fun b hb => upd_ne fun q => na (by rw [← q]; exact hb)) h.1, ⟨fun a ob e => by
    obtain ⟨h1, dx, vs, h2, h3⟩ := h.2.1 a ob e
    have ne : a ≠ p := fun q => by
      rw [q, hp] at h2
      cases h2
      cases ho
    exact ⟨h1, dx, vs, by rw [upd_ne ne]; exact h2, h3⟩, h.2.2⟩⟩
theorem Gr.chg {δ : DkS} {F H F' H' : Hp} {p : Addr} {u : HO} (g : Gr δ F H F' H') (hp : H p = none) : Gr δ F H F' (upd H' p u) :=
  ⟨g.sF, g.nF, fun a o na e hi => by rw [upd_ne (ne_of_none e hp)]; exact g.kH a o na e hi, fun a C dx fs e => by rw [upd_ne (ne_of_none e hp)]; exact g.iH a C dx fs e, fun a e => by
    rw [upd_ne (fun q => e (by rw [q]; exact hp))]; exact g.dH a e⟩
/-- a fresh list, frozen -/
def dOfM (t : DTM) : DTE := fun ρ n R => t ρ n fun ds n' => R (.dat (.list ds)) n'
theorem freeze {K : PySem.W.Frag} {δ : DkS} {F H F' H' : Hp} {p : Addr} {vs : List V} {ds : List PyData} (g : Gr δ F H F' H') (hs : Same F' H') (hp : H p = none) (hF : F' p = none) (hH : H' p = some (.lst vs)) (r : Rps K F' ds vs) :
    Gr δ F H (upd F' p (.lst vs)) H' ∧ Same (upd F' p (.lst vs)) H' ∧ Rp K (upd F' p (.lst vs)) (.list ds) (.ref p) := by
  have s1 : Same F' (upd F' p (.lst vs)) := fun a o e => by rw [upd_ne (ne_of_none e hF)]; exact e
  refine ⟨⟨g.sF.trans s1, fun a h1 h2 => ?_, g.kH, g.iH, g.dH⟩, fun a o e => ?_, ?_⟩
  · rw [upd_ne (fun q => h1 (by rw [q]; exact hp))]; exact g.nF a h1 h2
  · by_cases q : a = p
    · subst q; rw [upd_same] at e; cases e; exact hH
    · rw [upd_ne q] at e; exact hs _ _ e
  · simp only [Rp]
    exact ⟨p, vs, rfl, upd_same, Rps.mono s1 ds vs r⟩
theorem we_ofM {X : Cx} {e : Expr} {t : DTM} (h : ME Y X e t) : WE Y X e (dOfM t) := pe_imp h fun σ H Q ⟨Z, F, ρ, n, R, r, ht, k⟩ =>
  ⟨Z, F, ρ, n, _, r, ht, fun ds n' F' H' p vs hR g hs hd hp hF hH hr => by
    obtain ⟨g2, s2, r2⟩ := freeze g hs hp hF hH hr
    exact k _ _ _ _ _ hR g2 s2 (hd.fz hH rfl hF) r2⟩
end DL
namespace DL
open PySem PySem.Spec PyProof.Rows L2
variable {X : Cx} {Y : Fx}
def dView (x : Dv) (R : Dv → Prop) : Prop :=
  match x with
  | .mt ds => R (.vw ds)
  | .md _ _ => False
  | y => R y
def dVar (i : Nat) : DTE := fun ρ n R => ∃ x, ρ[i]? = some (some x) ∧ dView x fun y => R y n
theorem we_var (i : Nat) {x : Str} {pos : Pos} (hN : X.N[i]? = some x := by rfl) (hv : Vis X.env.scope x := by first | exact Or.inl rfl | exact Or.inr (Or.inl rfl) | exact Or.inr (Or.inr rfl))
    (hd : (x == ("__debug__" : Str)) = false := by decide) (hcd : (x == ("__classdict__" : Str)) = false := by decide) : WE Y X (.Name x pos) (dVar i) :=
  pe_imp (pe_var hN hv hd hcd) fun σ H Q ⟨Z, F, ρ, n, R, r, ⟨y, e, hy⟩, k⟩ => by
    obtain ⟨v, e1, e2⟩ := r.slot i y e
    refine ⟨v, e1, ?_⟩
    cases y with
    | mt ds =>
      obtain ⟨a, vs, rfl, _, _, h2, h3, h4⟩ := e2
      exact k _ _ _ _ _ hy Gr.refl r.b.sub r.b.dk ⟨a, vs, rfl, h2, h3, h4⟩
    | dat d => exact k _ _ _ _ _ hy Gr.refl r.b.sub r.b.dk e2
    | vw ds => exact k _ _ _ _ _ hy Gr.refl r.b.sub r.b.dk e2
    | deck _ => exact k _ _ _ _ _ hy Gr.refl r.b.sub r.b.dk e2
    | md _ _ => exact hy.elim
def dC (d : PyData) : DTE := fun _ n R => R (.dat d) n
theorem we_c {e : Expr} {v : V} {d : PyData} (h : PE X e (tC v)) (hd : ∀ F, Rp X.K F d v) : WE Y X e (dC d) :=
  pe_imp h fun σ H Q ⟨Z, F, ρ, n, R, r, hr, k⟩ => k _ _ _ _ _ hr Gr.refl r.b.sub r.b.dk (hd F)
theorem we_int {i j pos} : WE Y X (.Constant (.int i) j pos) (dC (.int i)) := we_c pe_int fun _ => by simp [Rp]
theorem we_bl {i j pos} : WE Y X (.Constant (.bool i) j pos) (dC (.bool i)) := we_c pe_bl fun _ => by simp [Rp]
theorem we_non {j pos} : WE Y X (.Constant .none j pos) (dC .none) := we_c pe_non fun _ => by simp [Rp]
/-- a module's int -/
theorem we_gint {x : Str} {i : Int} {t : Tok} {pos : Pos} (hg : Gl X x) (hm : X.mg x = some (.int i t)) (hd : (x == ("__debug__" : Str)) = false := by decide) : WE Y X (.Name x pos) (dC (.int i)) :=
  we_c (pe_glob (v := .int i) hg hm ⟨_, rfl⟩ hd) fun _ => by simp [Rp]
def dNil : DTA := fun _ n R => R [] n
def dCons (t : DTE) (u : DTA) : DTA := fun ρ n R => t ρ n fun x n1 => u ρ n1 fun xs n2 => R (x :: xs) n2
theorem wa_nil : WA Y X [] dNil := pa_imp pa_nil fun σ H Q ⟨Z, F, ρ, n, R, r, hr, k⟩ => k _ _ _ _ _ hr Gr.refl r.b.sub r.b.dk .nil
theorem wa_cons {e : Expr} {es : List Expr} {t : DTE} {u : DTA} (ha : WE Y X e t) (hr : WA Y X es u) (hs : starEach (e :: es) X.env = (false, eval e X.env) :: starEach es X.env := by rfl) : WA Y X (e :: es) (dCons t u) :=
  pa_imp (pa_cons ha hr hs) fun σ H Q ⟨Z, F, ρ, n, R, r, ht, k⟩ =>
    ⟨Z, F, ρ, n, _, r, ht, fun x n1 F1 H1 v hx g1 s1 d1 w1 => ⟨Z, F1, ρ, n1, _, r.step g1 s1 d1, hx, fun xs n2 F2 H2 vs hxs g2 s2 d2 w2 =>
      k _ _ _ _ _ hxs (g1.trans g2) s2 d2 (.cons (w1.step g2) w2)⟩⟩
/-- all of them data -/
def needDs : List Dv → (List PyData → Prop) → Prop
  | [], R => R []
  | x :: xs, R => needD x fun d => needDs xs fun ds => R (d :: ds)
theorem needD_is {x : Dv} {R : PyData → Prop} (h : needD x R) : ∃ d, x = .dat d ∧ R d := by
  cases x with
  | dat d => exact ⟨d, rfl, h⟩
  | vw _ => exact h.elim
  | mt _ => exact h.elim
  | deck _ => exact h.elim
  | md _ _ => exact h.elim
theorem needDs_is {K : PySem.W.Frag} {δ : DkS} {F H : Hp} : ∀ {xs : List Dv} {vs : List V} {R : List PyData → Prop}, VRs K δ F H xs vs → needDs xs R → ∃ ds, R ds ∧ Rps K F ds vs
  | [], _, R, .nil, h => ⟨[], h, rps_nil⟩
  | x :: xs, _, R, .cons a b, h => by
    obtain ⟨d, rfl, h⟩ := needD_is h
    obtain ⟨ds, h1, h2⟩ := needDs_is b h
    exact ⟨d :: ds, h1, rps_cons a h2⟩
def dTup (t : DTA) : DTE := fun ρ n R => t ρ n fun xs n' => needDs xs fun ds => ds.length ≤ sizeLine ∧ R (.dat (.tuple ds)) n'
theorem we_tup {es : List Expr} {t : DTA} {x1} {pos : Pos} (h : WA Y X es t) : WE Y X (.Tuple es x1 pos) (dTup t) :=
  pe_imp (pe_tup h) fun σ H Q ⟨Z, F, ρ, n, R, r, ht, k⟩ => ⟨Z, F, ρ, n, _, r, ht, fun xs n1 F1 H1 vs hx g1 s1 d1 w1 => by
    obtain ⟨ds, ⟨hl, hR⟩, hr⟩ := needDs_is w1 hx
    refine ⟨by rw [← hr.length]; exact hl, fun p hp => ?_⟩
    obtain ⟨g2, s2⟩ := Gp.new (o := .tup vs) hp s1
    refine k _ _ _ _ _ hR (g1.trans g2.gr) s2 (g2.dk ((r.step g1 s1 d1).b)) ?_
    simp only [VR, Rp]
    exact ⟨p, vs, rfl, .inl upd_same, Rps.mono g2.sF ds vs hr⟩⟩
def mLst (t : DTA) : DTM := fun ρ n R => t ρ n fun xs n' => needDs xs fun ds => ds.length ≤ sizeLine ∧ R ds n'
theorem me_lst {es : List Expr} {t : DTA} {pos : Pos} (h : WA Y X es t) : ME Y X (.List es pos) (mLst t) :=
  pe_imp (pe_lst h) fun σ H Q ⟨Z, F, ρ, n, R, r, ht, k⟩ => ⟨Z, F, ρ, n, _, r, ht, fun xs n1 F1 H1 vs hx g1 s1 d1 w1 => by
    obtain ⟨ds, ⟨hl, hR⟩, hr⟩ := needDs_is w1 hx
    refine ⟨by rw [← hr.length]; exact hl, fun p hp => ?_⟩
    obtain ⟨g2, s2⟩ := Gp.newM (o := .lst vs) hp s1
    have hp0 : H p = none := by
      cases e : H p with
      | none => rfl
      | some o => exact absurd hp (g1.dH p (by rw [e]; nofun))
    exact k _ _ _ _ _ _ hR (g1.trans g2.gr) s2 (g2.dk ((r.step g1 s1 d1).b)) hp0 (s1.free hp) upd_same hr⟩
abbrev D2 := Dv → Dv → (PyData → Prop) → Prop
abbrev Back (K : PySem.W.Frag) (F H : Hp) (R : PyData → Prop) (Q : VK) : Prop := ∀ d F' H' v, R d → Gp F H F' H' → Same F' H' → Rp K F' d v → Q v H'
def BinOk (K : PySem.W.Frag) (r : R2) (o : D2) : Prop := ∀ δ F H x y v u R Q, Same F H → VR K δ F H x v → VR K δ F H y u → o x y R → Back K F H R Q → r v u H Q
theorem Back.here {K : PySem.W.Frag} {F H : Hp} {R : PyData → Prop} {Q : VK} (b : Back K F H R Q) (hs : Same F H) {d : PyData} {v : V} (h : R d) (r : Rp K F d v) : Q v H := b d F H v h Gp.refl hs r
theorem Back.int {K : PySem.W.Frag} {F H : Hp} {R : PyData → Prop} {Q : VK} (b : Back K F H R Q) (hs : Same F H) {i : Int} (h : R (.int i)) : Q (.int i) H := b.here hs h (by simp [Rp])
theorem Back.bl {K : PySem.W.Frag} {F H : Hp} {R : PyData → Prop} {Q : VK} (b : Back K F H R Q) (hs : Same F H) {i : Bool} (h : R (.bool i)) : Q (.bl i) H := b.here hs h (by simp [Rp])
theorem Back.tup {K : PySem.W.Frag} {F H : Hp} {R : PyData → Prop} {Q : VK} (b : Back K F H R Q) (hs : Same F H) {ds : List PyData} {vs : List V} (h : R (.tuple ds)) (r : Rps K F ds vs) {p : Addr} (hp : H p = none) : Q (.ref p) (upd H p (.tup vs)) := by
  obtain ⟨g, s⟩ := Gp.new (o := .tup vs) hp hs
  refine b _ _ _ _ h g s ?_
  simp only [Rp]
  exact ⟨p, vs, rfl, .inl upd_same, Rps.mono g.sF ds vs r⟩
theorem Back.lst {K : PySem.W.Frag} {F H : Hp} {R : PyData → Prop} {Q : VK} (b : Back K F H R Q) (hs : Same F H) {ds : List PyData} {vs : List V} (h : R (.list ds)) (r : Rps K F ds vs) {p : Addr} (hp : H p = none) : Q (.ref p) (upd H p (.lst vs)) := by
  obtain ⟨g, s⟩ := Gp.new (o := .lst vs) hp hs
  refine b _ _ _ _ h g s ?_
  simp only [Rp]
  exact ⟨p, vs, rfl, upd_same, Rps.mono g.sF ds vs r⟩
def dBin (o : D2) (t u : DTE) : DTE := fun ρ n R => t ρ n fun x n1 => u ρ n1 fun y n2 => o x y fun z => R (.dat z) n2
/-- the two operands, then o -/
theorem two {K : PySem.W.Frag} {r : R2} {o : D2} {t u : DTE} (hr : BinOk K r o) : ∀ σ H Q, up Y K (dBin o t u) σ H Q → tOp r (up Y K t) (up Y K u) σ H Q := fun σ H Q ⟨Z, F, ρ, n, R, s, ht, k⟩ =>
  ⟨Z, F, ρ, n, _, s, ht, fun x n1 F1 H1 v hx g1 s1 d1 w1 => ⟨Z, F1, ρ, n1, _, s.step g1 s1 d1, hx, fun y n2 F2 H2 u hy g2 s2 d2 w2 =>
    hr Z.δ F2 H2 x y v u _ Q s2 (w1.step g2) w2 hy fun d F3 H3 v3 h3 g3 s3 w3 =>
      k _ _ _ _ _ h3 ((g1.trans g2).trans g3.gr) s3 (g3.dk (((s.step g1 s1 d1).step g2 s2 d2).b)) w3⟩⟩
theorem we_bin {op : Operator} {r : R2} {o : D2} {a b : Expr} {t u : DTE} {pos : Pos} (ho : OpR X (binaryOp op) r) (hr : BinOk X.K r o) (ha : WE Y X a t) (hb : WE Y X b u) : WE Y X (.BinOp a op b pos) (dBin o t u) :=
  pe_imp (pe_op ho ha hb) (two hr)
theorem we_cmp {op : CmpOp} {r : R2} {o : D2} {a b : Expr} {t u : DTE} {pos : Pos} (ho : OpR X (compareOp op) r) (hr : BinOk X.K r o) (ha : WE Y X a t) (hb : WE Y X b u) (hm : behindInMarks op b = false) : WE Y X (.Compare a [op] [b] pos) (dBin o t u) :=
  pe_imp (pe_cmpR ho ha hb hm) (two hr)
def dTst (t : DTE) : DTT := fun ρ n R => t ρ n fun x n1 => ∃ c, x = .dat (.bool c) ∧ R c n1
theorem tst {K : PySem.W.Frag} {te : TE} {t : DTE} (h : ∀ σ H Q, up Y K t σ H Q → te σ H Q) : ∀ σ H Q, upT Y K (dTst t) σ H Q → tTest te σ H Q := fun σ H Q ⟨Z, F, ρ, n, R, s, ht, k⟩ => by
  refine h _ _ _ ⟨Z, F, ρ, n, _, s, ht, fun x n1 F1 H1 v ⟨c, e, hx⟩ g1 s1 d1 w1 => ?_⟩
  subst e
  simp only [VR, Rp] at w1
  exact ⟨c, w1, k _ _ _ _ hx g1 s1 d1⟩
theorem wt_cmp {op : CmpOp} {r : R2} {o : D2} {a b : Expr} {t u : DTE} {pos : Pos} (ho : OpR X (compareOp op) r) (hr : BinOk X.K r o) (ha : WE Y X a t) (hb : WE Y X b u) (hm : behindInMarks op b = false) : WT Y X (.Compare a [op] [b] pos) (dTst (dBin o t u)) :=
  pt_imp (pt_cmpR ho ha hb hm) (tst (two hr))
def oI0 (g : Int → Int → PyData) : D2 := fun x y R =>
  match x, y with
  | .dat (.int i), .dat (.int j) => R (g i j)
  | _, _ => False
def oI (C : Int → Int → Prop) (g : Int → Int → PyData) : D2 := fun x y R =>
  match x, y with
  | .dat (.int i), .dat (.int j) => C i j ∧ R (g i j)
  | _, _ => False
theorem oI_is {C : Int → Int → Prop} {g : Int → Int → PyData} {x y : Dv} {R : PyData → Prop} (h : oI C g x y R) : ∃ i j, x = .dat (.int i) ∧ y = .dat (.int j) ∧ C i j ∧ R (g i j) := by
  unfold oI at h
  split at h
  · exact ⟨_, _, rfl, rfl, h⟩
  · exact h.elim
theorem oI0_is {g : Int → Int → PyData} {x y : Dv} {R : PyData → Prop} (h : oI0 g x y R) : ∃ i j, x = .dat (.int i) ∧ y = .dat (.int j) ∧ R (g i j) := by
  unfold oI0 at h
  split at h
  · exact ⟨_, _, rfl, rfl, h⟩
  · exact h.elim
section
variable {K : PySem.W.Frag}
theorem bi_I {C : Int → Int → Prop} {g : Int → Int → Int} : BinOk K (rI C fun i j => .int (g i j)) (oI C fun i j => .int (g i j)) := fun δ F H x y v u R Q hs hx hy h b => by
  obtain ⟨i, j, rfl, rfl, hc, hr⟩ := oI_is h
  simp only [VR, Rp] at hx hy
  exact ⟨i, j, hx, hy, hc, b.int hs hr⟩
theorem bi_I0 {g : Int → Int → Int} : BinOk K (rI0 fun i j => .int (g i j)) (oI0 fun i j => .int (g i j)) := fun δ F H x y v u R Q hs hx hy h b => by
  obtain ⟨i, j, rfl, rfl, hr⟩ := oI0_is h
  simp only [VR, Rp] at hx hy
  exact ⟨i, j, hx, hy, b.int hs hr⟩
theorem bi_B0 {g : Int → Int → Bool} : BinOk K (rI0 fun i j => .bl (g i j)) (oI0 fun i j => .bool (g i j)) := fun δ F H x y v u R Q hs hx hy h b => by
  obtain ⟨i, j, rfl, rfl, hr⟩ := oI0_is h
  simp only [VR, Rp] at hx hy
  exact ⟨i, j, hx, hy, b.bl hs hr⟩
end
end DL
namespace DL
open PySem PySem.Spec PyProof.Rows L2
variable {X : Cx} {Y : Fx}
section
variable {K : PySem.W.Frag} {F H : Hp}
mutual
theorem Rp.dp : ∀ (d : PyData) (v : V), d.canLay0 = true → Rp K H d v → Dp K H v d
  | .none, _, _, h => by simp only [Rp] at h; subst h; exact .non
  | .bool _, _, _, h => by simp only [Rp] at h; subst h; exact .bl _
  | .int _, _, _, h => by simp only [Rp] at h; subst h; exact .int _
  | .str _, _, _, h => by simp only [Rp] at h; subst h; exact .str _
  | .list ds, _, c, h => by
    simp only [Rp] at h
    obtain ⟨a, xs, rfl, h1, h2⟩ := h
    exact .lst (SqL.of h1) (Rps.dp ds xs (by simpa only [PyData.canLay0] using c) h2)
  | .tuple ds, _, c, h => by
    simp only [Rp] at h
    obtain ⟨a, xs, rfl, h1, h2⟩ := h
    exact .tup (sqtR h1) (Rps.dp ds xs (by simpa only [PyData.canLay0] using c) h2)
  | .dict _, _, c, _ => by simp [PyData.canLay0] at c
theorem Rps.dp : ∀ (ds : List PyData) (vs : List V), PyData.canLayAll0 ds = true → Rps K H ds vs → DpAll K H vs ds
  | [], _, _, h => by simp only [Rps] at h; subst h; exact .nil
  | d :: ds, _, c, h => by
    simp only [Rps] at h
    obtain ⟨v, r, rfl, h1, h2⟩ := h
    simp only [PyData.canLayAll0, Bool.and_eq_true] at c
    exact .cons (Rp.dp d v c.1 h1) (Rps.dp ds r c.2 h2)
end
end
/-- what may be compared: no dict, not too deep -/
abbrev Sh (d : PyData) : Prop := SeqAt.shaped d = true
def oEq (neg : Bool) : D2 := fun x y R => x.isDk = false ∧ y.isDk = false ∧ Sh x.toD ∧ Sh y.toD ∧ R (.bool (if neg then !PyData.eqv x.toD y.toD else PyData.eqv x.toD y.toD))
section
variable {K : PySem.W.Frag}
theorem bi_eq : BinOk K (rEqD K) (oEq false) := fun δ F H x y v u R Q hs hx hy ⟨n1, n2, s1, s2, hr⟩ b =>
  ⟨_, _, Rp.dp _ _ (SeqAt.canLay_of_shaped s1) (hx.rp hs n1), Rp.dp _ _ (SeqAt.canLay_of_shaped s2) (hy.rp hs n2), s1, s2, b.bl hs hr⟩
theorem bi_ne : BinOk K (rNeD K) (oEq true) := fun δ F H x y v u R Q hs hx hy ⟨n1, n2, s1, s2, hr⟩ b =>
  ⟨_, _, Rp.dp _ _ (SeqAt.canLay_of_shaped s1) (hx.rp hs n1), Rp.dp _ _ (SeqAt.canLay_of_shaped s2) (hy.rp hs n2), s1, s2, b.bl hs hr⟩
/-- x in a list -/
def oIn (neg : Bool) : D2 := fun x y R => x.isDk = false ∧ y.isDk = false ∧ ∃ ds, y.toD = .list ds ∧ Sh x.toD ∧ Sh (.list ds) ∧ R (.bool (if neg then !(ds.any fun z => PyData.eqv z x.toD) else ds.any fun z => PyData.eqv z x.toD))
theorem bi_in : BinOk K (rInD K) (oIn false) := fun δ F H x y v u R Q hs hx hy ⟨n1, n2, ds, e, s1, s2, hr⟩ b =>
  ⟨_, ds, Rp.dp _ _ (SeqAt.canLay_of_shaped s1) (hx.rp hs n1), Rp.dp _ _ (SeqAt.canLay_of_shaped s2) (e ▸ hy.rp hs n2), s1, s2, b.bl hs hr⟩
theorem bi_notIn : BinOk K (rNotInD K) (oIn true) := fun δ F H x y v u R Q hs hx hy ⟨n1, n2, ds, e, s1, s2, hr⟩ b =>
  ⟨_, ds, Rp.dp _ _ (SeqAt.canLay_of_shaped s1) (hx.rp hs n1), Rp.dp _ _ (SeqAt.canLay_of_shaped s2) (e ▸ hy.rp hs n2), s1, s2, b.bl hs hr⟩
/-- is None, is not None; bools -/
def isN : PyData → Bool
  | .none => true
  | _ => false
def oIsN (neg : Bool) : D2 := fun x y R => y = .dat .none ∧ x.isDk = false ∧ R (.bool (if neg then !isN x.toD else isN x.toD))
theorem isN_of {F : Hp} {d : PyData} {v : V} (h : Rp K F d v) : isN d = decide (v = .non) := by
  cases d <;> simp only [Rp] at h
  case list => obtain ⟨a, xs, rfl, _⟩ := h; rfl
  case tuple => obtain ⟨a, xs, rfl, _⟩ := h; rfl
  case dict => rcases h with ⟨a, xs, rfl, _⟩ | ⟨a, _, rfl⟩ | ⟨a, _, _, _, rfl, _⟩ <;> rfl
  all_goals (subst h; rfl)
theorem bi_notN : BinOk K (fun x y H Q => y = .non ∧ Q (.bl (!decide (x = .non))) H) (oIsN true) := fun δ F H x y v u R Q hs hx hy ⟨e, n, hr⟩ b => by
  subst e
  simp only [VR, Rp] at hy
  refine ⟨hy, b.bl hs ?_⟩
  rw [← isN_of (hx.rp hs n)]; exact hr
/-- + : ints, tuples, lists -/
def oAdd : D2 := fun x y R =>
  match x.toD, y.toD with
  | .int i, .int j => R (.int (i + j))
  | .tuple xs, .tuple ys => xs.length + ys.length ≤ sizeLine ∧ R (.tuple (xs ++ ys))
  | .list xs, .list ys => xs.length + ys.length ≤ sizeLine ∧ R (.list (xs ++ ys))
  | _, _ => False
abbrev rAddA (K : PySem.W.Frag) : R2 := fun x y H Q => (rI0 (fun i j => .int (i + j)) x y H Q ∨ rCatA K x y H Q) ∨ rCat x y H Q
theorem or_addA : OpR X (binaryOp .Add) (rAddA X.K) := OpR.or (OpR.or op_add op_catA) op_cat
theorem notDeck_of {x : Dv} {d : PyData} (h : x.toD = d) (hd : d ≠ .none) : x.isDk = false := by
  cases x with
  | deck _ => exact absurd h.symm hd
  | _ => rfl
theorem bi_add : BinOk K (rAddA K) oAdd := fun δ F H x y v u R Q hs hx hy h b => by
  unfold oAdd at h
  split at h
  · rename_i i j e1 e2
    have r1 := hx.rp hs (notDeck_of e1 nofun); have r2 := hy.rp hs (notDeck_of e2 nofun)
    rw [e1] at r1; rw [e2] at r2
    simp only [Rp] at r1 r2
    exact .inl (.inl ⟨i, j, r1, r2, b.int hs h⟩)
  · rename_i xs ys e1 e2
    cases x with
    | dat d =>
      cases y with
      | dat d' =>
        simp only [Dv.toD] at e1 e2
        subst e1 e2
        simp only [VR, Rp] at hx hy
        obtain ⟨a1, l1, rfl, h1, p1⟩ := hx
        obtain ⟨a2, l2, rfl, h2, p2⟩ := hy
        have z1 := p1.length; have z2 := p2.length
        refine .inl (.inr ⟨a1, a2, l1, l2, rfl, rfl, sqtR (rdS hs h1), sqtR (rdS hs h2), by omega, fun e => ?_, fun _ e => ?_, fun _ _ p hp => ?_⟩)
        · subst e
          have : xs = [] := by simpa using z1
          subst this
          exact b.here hs h.2 (by simp only [Rp]; exact ⟨a2, l2, rfl, h2, p2⟩)
        · subst e
          have : ys = [] := by simpa using z2
          subst this
          exact b.here hs (by simpa using h.2) (by simp only [Rp]; exact ⟨a1, l1, rfl, h1, p1⟩)
        · exact b.tup hs h.2 (p1.append p2) hp
      | vw _ => simp [Dv.toD] at e2
      | mt _ => simp [Dv.toD] at e2
      | deck _ => simp [Dv.toD] at e2
      | md _ _ => simp [Dv.toD] at e2
    | vw _ => simp [Dv.toD] at e1
    | mt _ => simp [Dv.toD] at e1
    | deck _ => simp [Dv.toD] at e1
    | md _ _ => simp [Dv.toD] at e1
  · rename_i xs ys e1 e2
    have lst : ∀ {z : Dv} {w : V} {zs : List PyData}, VR K δ F H z w → z.toD = .list zs → ∃ a l, w = .ref a ∧ H a = some (.lst l) ∧ Rps K F zs l := by
      intro z w zs hz e
      cases z with
      | dat d =>
        simp only [Dv.toD] at e; subst e
        simp only [VR, Rp] at hz
        obtain ⟨a, l, e1, e2, e3⟩ := hz
        exact ⟨a, l, e1, hs _ _ e2, e3⟩
      | vw ds =>
        simp only [Dv.toD, PyData.list.injEq] at e; subst e
        obtain ⟨a, l, e1, e2, e3, _⟩ := hz
        exact ⟨a, l, e1, e2, e3⟩
      | mt _ => exact hz.elim
      | deck _ => simp [Dv.toD] at e
      | md _ _ => exact hz.elim
    obtain ⟨a1, l1, rfl, h1, p1⟩ := lst hx e1
    obtain ⟨a2, l2, rfl, h2, p2⟩ := lst hy e2
    have z1 := p1.length; have z2 := p2.length
    exact .inr ⟨a1, a2, l1, l2, rfl, rfl, h1, h2, by omega, fun p hp => b.lst hs h.2 (p1.append p2) hp⟩
  · exact h.elim
/-- the list that a value is -/
theorem VR.lst {δ : DkS} {F H : Hp} {z : Dv} {w : V} {zs : List PyData} (hs : Same F H) (hz : VR K δ F H z w) (e : z.toD = .list zs) : ∃ a l, w = .ref a ∧ H a = some (.lst l) ∧ Rps K F zs l := by
  cases z with
  | dat d =>
    simp only [Dv.toD] at e; subst e
    simp only [VR, Rp] at hz
    obtain ⟨a, l, e1, e2, e3⟩ := hz
    exact ⟨a, l, e1, hs _ _ e2, e3⟩
  | vw ds =>
    simp only [Dv.toD, PyData.list.injEq] at e; subst e
    obtain ⟨a, l, e1, e2, e3, _⟩ := hz
    exact ⟨a, l, e1, e2, e3⟩
  | mt _ => exact hz.elim
  | deck _ => simp [Dv.toD] at e
  | md _ _ => exact hz.elim
theorem VR.tpl {δ : DkS} {F H : Hp} {z : Dv} {w : V} {zs : List PyData} (hs : Same F H) (hz : VR K δ F H z w) (e : z.toD = .tuple zs) : ∃ a l, w = .ref a ∧ Rd F a (.tup l) ∧ Rps K F zs l := by
  cases z with
  | dat d =>
    simp only [Dv.toD] at e; subst e
    simpa only [VR, Rp] using hz
  | vw ds => simp [Dv.toD] at e
  | mt _ => exact hz.elim
  | deck _ => simp [Dv.toD] at e
  | md _ _ => exact hz.elim
/-- * : ints (one of them small), a list, a tuple by a number -/
def oMul : D2 := fun x y R =>
  match x.toD, y.toD with
  | .int i, .int j => CMul i j ∧ R (.int (i * j))
  | .list xs, .int k => -(2 ^ 63) ≤ k ∧ k < 2 ^ 63 ∧ xs.length * k.toNat ≤ sizeLine ∧ R (.list (List.replicate k.toNat xs).flatten)
  | _, _ => False
theorem Rps.at {F : Hp} {ds : List PyData} {vs : List V} (r : Rps K F ds vs) {i : Int} {d : PyData} (h : atI ds i = some d) : ∃ v, atI vs i = some v ∧ Rp K F d v := by
  unfold atI at h ⊢
  rw [← r.length]
  obtain ⟨j, e1, e2⟩ := Option.bind_eq_some_iff.mp h
  obtain ⟨v, e3, e4⟩ := r.get e2
  exact ⟨v, by rw [e1]; exact e3, e4⟩
def oIx : D2 := fun x y R =>
  match x.toD with
  | .list ds => ∃ i d, y = .dat (.int i) ∧ atI ds i = some d ∧ R d
  | .tuple ds => ∃ i d, y = .dat (.int i) ∧ atI ds i = some d ∧ R d
  | _ => False
theorem bi_ix : BinOk K (rIx K) oIx := fun δ F H x y v u R Q hs hx hy h b => by
  unfold oIx at h
  split at h
  · rename_i ds e
    obtain ⟨a, l, rfl, h1, h2⟩ := hx.lst hs e
    obtain ⟨i, d, rfl, h3, hr⟩ := h
    simp only [VR, Rp] at hy
    obtain ⟨w, e1, e2⟩ := h2.at h3
    exact .inl ⟨a, l, i, w, rfl, hy, SqL.of h1, e1, b.here hs hr e2⟩
  · rename_i ds e
    obtain ⟨a, l, rfl, h1, h2⟩ := hx.tpl hs e
    obtain ⟨i, d, rfl, h3, hr⟩ := h
    simp only [VR, Rp] at hy
    obtain ⟨w, e1, e2⟩ := h2.at h3
    exact .inr (.inl ⟨a, l, i, w, rfl, hy, sqtR (rdS hs h1), e1, b.here hs hr e2⟩)
  · exact h.elim
end
theorem we_ix {a b : Expr} {t u : DTE} {pos : Pos} (ha : WE Y X a t) (hb : WE Y X b u) (hs : PlainIx b) : WE Y X (.Subscript a b pos) (dBin oIx t u) := pe_imp (pe_ix ix_seq ha hb hs) (two bi_ix)
abbrev DTO := Rho → Wo → (Option Int → Wo → Prop) → Prop
def upO (Y : Fx) (K : PySem.W.Frag) (t : DTO) : TO := fun σ H Q => ∃ Z F ρ n R, SR Y K Z F H σ ρ n ∧ t ρ n R ∧
  ∀ x n' F' H', R x n' → Gr Z.δ F H F' H' → Same F' H' → Z.δ.at_ K F' H' n' → Q x H'
abbrev WO (Y : Fx) (X : Cx) (e : Option Expr) (t : DTO) : Prop := PO X e (upO Y X.K t)
theorem po_imp {e : Option Expr} {t t' : TO} (h : PO X e t) (q : ∀ σ H Q, t' σ H Q → t σ H Q) : PO X e t' := ⟨fun p s σ H Q I w => h.run p s σ H Q I (q σ H Q w)⟩
def dNo : DTO := fun _ n R => R none n
def dSome (t : DTE) : DTO := fun ρ n R => t ρ n fun x n' => ∃ i, x = .dat (.int i) ∧ R (some i) n'
theorem wo_none : WO Y X none dNo := po_imp po_none fun σ H Q ⟨Z, F, ρ, n, R, r, hr, k⟩ => k _ _ _ _ hr Gr.refl r.b.sub r.b.dk
theorem wo_some {e : Expr} {t : DTE} (h : WE Y X e t) : WO Y X (some e) (dSome t) := po_imp (po_some h) fun σ H Q ⟨Z, F, ρ, n, R, r, ht, k⟩ =>
  ⟨Z, F, ρ, n, _, r, ht, fun x n1 F1 H1 v ⟨i, e, hx⟩ g1 s1 d1 w1 => by
    subst e
    simp only [VR, Rp] at w1
    exact ⟨i, w1, k _ _ _ _ hx g1 s1 d1⟩⟩
def cutG {α : Type} (xs : List α) (lo hi : Option Int) : List α := (xs.drop (HT.sIx xs.length 0 lo)).take (HT.sIx xs.length xs.length hi - HT.sIx xs.length 0 lo)
theorem Rps.cut {K : PySem.W.Frag} {F : Hp} {ds : List PyData} {vs : List V} (r : Rps K F ds vs) (lo hi : Option Int) : Rps K F (cutG ds lo hi) (cutV vs lo hi) := by
  unfold cutG cutV
  rw [r.length]
  exact Rps.take _ (Rps.drop _ r)
def oSl (x : Dv) (lo hi : Option Int) (R : PyData → Prop) : Prop :=
  match x.toD with
  | .list ds => R (.list (cutG ds lo hi))
  | .tuple ds => R (.tuple (cutG ds lo hi))
  | _ => False
def dSl (t : DTE) (l h : DTO) : DTE := fun ρ n R => t ρ n fun x n1 => l ρ n1 fun lo n2 => h ρ n2 fun hi n3 => oSl x lo hi fun d => R (.dat d) n3
theorem cut_whole {α : Type} {xs : List α} {lo hi : Option Int} (h : HT.sIx xs.length 0 lo = 0 ∧ HT.sIx xs.length xs.length hi = xs.length) : cutG xs lo hi = xs := by
  unfold cutG
  rw [h.1, h.2]
  simp
theorem we_slice {e : Expr} {lo hi : Option Expr} {t : DTE} {l h : DTO} {pos p2 : Pos} (he : WE Y X e t) (hl : WO Y X lo l) (hh : WO Y X hi h) : WE Y X (.Subscript e (.Slice lo hi none p2) pos) (dSl t l h) :=
  pe_imp (pe_slice (SlR.or sl_list sl_tupA) he hl hh) fun σ H Q ⟨Z, F, ρ, n, R, r, ht, k⟩ =>
    ⟨Z, F, ρ, n, _, r, ht, fun x n1 F1 H1 v hx g1 s1 d1 w1 => ⟨Z, F1, ρ, n1, _, r.step g1 s1 d1, hx, fun lo n2 F2 H2 hlo g2 s2 d2 => ⟨Z, F2, ρ, n2, _, (r.step g1 s1 d1).step g2 s2 d2, hlo, fun hi n3 F3 H3 hhi g3 s3 d3 => by
      have w3 : VR X.K Z.δ F3 H3 x v := (w1.step g2).step g3
      have b : Back X.K F3 H3 (fun d => R (.dat d) n3) Q := fun d F4 H4 v4 h4 g4 s4 w4 =>
        k _ _ _ _ _ h4 (((g1.trans g2).trans g3).trans g4.gr) s4 (g4.dk ((((r.step g1 s1 d1).step g2 s2 d2).step g3 s3 d3).b)) w4
      unfold oSl at hhi
      split at hhi
      · rename_i ds e
        obtain ⟨a, xs, rfl, h1, h2⟩ := w3.lst s3 e
        exact .inl ⟨a, xs, rfl, SqL.of h1, fun p hp => b.lst s3 hhi (h2.cut lo hi) hp⟩
      · rename_i ds e
        obtain ⟨a, xs, rfl, h1, h2⟩ := w3.tpl s3 e
        refine .inr ⟨a, xs, rfl, sqtR (rdS s3 h1), fun q => ?_, fun _ p hp => b.tup s3 hhi (h2.cut lo hi) hp⟩
        rw [cut_whole (by rw [h2.length]; exact q)] at hhi
        exact b.here s3 hhi (by simp only [Rp]; exact ⟨a, xs, rfl, h1, h2⟩)
      · exact hhi.elim⟩⟩⟩
/-- xs[::-1] of a list -/
def oRevL (x : Dv) (R : PyData → Prop) : Prop := ∃ ds, x.toD = .list ds ∧ R (.list ds.reverse)
def dUn (o : Dv → (PyData → Prop) → Prop) (t : DTE) : DTE := fun ρ n R => t ρ n fun x n1 => o x fun d => R (.dat d) n1
theorem one {K : PySem.W.Frag} {r : V → Hp → VK → Prop} {o : Dv → (PyData → Prop) → Prop} {t : DTE} (hr : ∀ δ F H x v R Q, Same F H → VR K δ F H x v → o x R → Back K F H R Q → r v H Q) :
    ∀ σ H Q, up Y K (dUn o t) σ H Q → up Y K t σ H fun x H1 => r x H1 Q := fun σ H Q ⟨Z, F, ρ, n, R, s, ht, k⟩ =>
  ⟨Z, F, ρ, n, _, s, ht, fun x n1 F1 H1 v hx g1 s1 d1 w1 => hr Z.δ F1 H1 x v _ Q s1 w1 hx fun d F2 H2 v2 h2 g2 s2 w2 =>
    k _ _ _ _ _ h2 (g1.trans g2.gr) s2 (g2.dk ((s.step g1 s1 d1).b)) w2⟩
theorem we_revL {e : Expr} {t : DTE} {pos p1 p2 p3 : Pos} {k : Nat} (he : WE Y X e t) : WE Y X (.Subscript e (.Slice none none (some (.UnaryOp .USub (.Constant (.int 1) k p1) p2)) p3) pos) (dUn oRevL t) :=
  pe_imp (pe_revL he) (one (r := fun x H1 Q => ∃ a xs, x = .ref a ∧ SqL X.K H1 a xs ∧ ∀ p, H1 p = none → Q (.ref p) (upd H1 p (.lst xs.reverse))) fun δ F H x v R Q hs hx ⟨ds, e, hr⟩ b => by
    obtain ⟨a, xs, rfl, h1, h2⟩ := hx.lst hs e
    exact ⟨a, xs, rfl, SqL.of h1, fun p hp => b.lst hs hr h2.rev hp⟩)
abbrev WW (Y : Fx) (X : Cx) (e : Expr) (t : DTT) : Prop := PW X e (upT Y X.K t)
theorem pw_imp {e : Expr} {t t' : TT} (h : PW X e t) (q : ∀ σ H Q, t' σ H Q → t σ H Q) : PW X e t' := ⟨fun wh p s σ H Q I w => h.run wh p s σ H Q I (q σ H Q w)⟩
theorem wt_val {e : Expr} {t : DTE} (h : WE Y X e t) (he : ∀ whole, isTrue e X.env whole = (do let v ← whole; standAt e.pos; holding [v] (truthy v)) := by intro _; rfl) : WT Y X e (dTst t) :=
  pt_imp (pt_val h he) fun σ H Q ⟨Z, F, ρ, n, R, s, ht, k⟩ => ⟨Z, F, ρ, n, _, s, ht, fun x n1 F1 H1 v ⟨c, e, hx⟩ g1 s1 d1 w1 => by
    subst e
    simp only [VR, Rp] at w1
    exact ⟨c, w1, k _ _ _ _ hx g1 s1 d1⟩⟩
def oTru (x : Dv) (R : Bool → Prop) : Prop :=
  match x.toD with
  | .list ds => R (!ds.isEmpty)
  | .tuple ds => R (!ds.isEmpty)
  | .bool b => R b
  | .int i => R (i != 0)
  | _ => False
def dTru (t : DTE) : DTT := fun ρ n R => t ρ n fun x n1 => oTru x fun c => R c n1
theorem Rps.isEmpty {K : PySem.W.Frag} {F : Hp} {ds : List PyData} {vs : List V} (r : Rps K F ds vs) : ds.isEmpty = vs.isEmpty := by
  have h := r.length
  cases ds <;> cases vs <;> simp at h ⊢
theorem wt_tru {e : Expr} {t : DTE} (h : WE Y X e t) (he : ∀ whole, isTrue e X.env whole = (do let v ← whole; standAt e.pos; holding [v] (truthy v)) := by intro _; rfl) : WT Y X e (dTru t) :=
  pt_imp (pt_truth h he) fun σ H Q ⟨Z, F, ρ, n, R, s, ht, k⟩ => ⟨Z, F, ρ, n, _, s, ht, fun x n1 F1 H1 v hx g1 s1 d1 w1 => by
    unfold oTru at hx
    split at hx
    · rename_i ds e
      obtain ⟨a, xs, rfl, h1, h2⟩ := w1.lst s1 e
      exact ⟨_, .inl ⟨xs, SqL.of h1, rfl⟩, by rw [← h2.isEmpty]; exact k _ _ _ _ hx g1 s1 d1⟩
    · rename_i ds e
      obtain ⟨a, xs, rfl, h1, h2⟩ := w1.tpl s1 e
      exact ⟨_, .inr (.inl ⟨xs, sqtR (rdS s1 h1), rfl⟩), by rw [← h2.isEmpty]; exact k _ _ _ _ hx g1 s1 d1⟩
    · rename_i b e
      have r1 := w1.rp s1 (notDeck_of e nofun)
      rw [e] at r1; simp only [Rp] at r1; subst r1
      exact ⟨_, rfl, k _ _ _ _ hx g1 s1 d1⟩
    · rename_i i e
      have r1 := w1.rp s1 (notDeck_of e nofun)
      rw [e] at r1; simp only [Rp] at r1; subst r1
      exact ⟨_, rfl, k _ _ _ _ hx g1 s1 d1⟩
    · exact hx.elim⟩
def dTAnd (t u : DTT) : DTT := fun ρ n R => t ρ n fun c n1 => if c = true then u ρ n1 R else R false n1
def dTOr (t u : DTT) : DTT := fun ρ n R => t ρ n fun c n1 => if c = true then R true n1 else u ρ n1 R
def dTNot (t : DTT) : DTT := fun ρ n R => t ρ n fun c n1 => R (!c) n1
theorem ww_and1 {a : Expr} {t : DTT} {pos : Pos} (ha : WT Y X a t) : WW Y X (.BoolOp .And [a] pos) t := pw_and1 ha
theorem ww_or1 {a : Expr} {t : DTT} {pos : Pos} (ha : WT Y X a t) : WW Y X (.BoolOp .Or [a] pos) t := pw_or1 ha
theorem ww_and {a b : Expr} {rest : List Expr} {t u : DTT} {pos : Pos} (ha : WT Y X a t) (hb : WW Y X (.BoolOp .And (b :: rest) pos) u) : WW Y X (.BoolOp .And (a :: b :: rest) pos) (dTAnd t u) :=
  pw_imp (pw_and ha hb) fun σ H Q ⟨Z, F, ρ, n, R, r, ht, k⟩ => ⟨Z, F, ρ, n, _, r, ht, fun c n1 F1 H1 hx g1 s1 d1 => by
    cases c with
    | true => exact ⟨Z, F1, ρ, n1, _, r.step g1 s1 d1, hx, fun y n2 F2 H2 hy g2 s2 d2 => k _ _ _ _ hy (g1.trans g2) s2 d2⟩
    | false => exact k _ _ _ _ hx g1 s1 d1⟩
theorem ww_or {a b : Expr} {rest : List Expr} {t u : DTT} {pos : Pos} (ha : WT Y X a t) (hb : WW Y X (.BoolOp .Or (b :: rest) pos) u) : WW Y X (.BoolOp .Or (a :: b :: rest) pos) (dTOr t u) :=
  pw_imp (pw_or ha hb) fun σ H Q ⟨Z, F, ρ, n, R, r, ht, k⟩ => ⟨Z, F, ρ, n, _, r, ht, fun c n1 F1 H1 hx g1 s1 d1 => by
    cases c with
    | false => exact ⟨Z, F1, ρ, n1, _, r.step g1 s1 d1, hx, fun y n2 F2 H2 hy g2 s2 d2 => k _ _ _ _ hy (g1.trans g2) s2 d2⟩
    | true => exact k _ _ _ _ hx g1 s1 d1⟩
theorem wt_w {e : Expr} {t : DTT} (h : WW Y X e t) : WT Y X e t := h.pt
theorem wt_not {a : Expr} {t : DTT} {pos : Pos} (ha : WT Y X a t) : WT Y X (.UnaryOp .Not a pos) (dTNot t) :=
  pt_imp (pt_not ha) fun σ H Q ⟨Z, F, ρ, n, R, r, ht, k⟩ => ⟨Z, F, ρ, n, _, r, ht, fun c n1 F1 H1 hx g1 s1 d1 => k _ _ _ _ hx g1 s1 d1⟩
end DL
namespace DL
open PySem PySem.Spec PyProof.Rows L2
variable {X : Cx} {Y : Fx}
def VX (K : PySem.W.Frag) (Hs F H : Hp) : Dv → V → Prop
  | .dat d, v => Rp K F d v
  | .mt ds, v => ∃ p vs, v = .ref p ∧ Hs p = none ∧ F p = none ∧ H p = some (.lst vs) ∧ Rps K F ds vs
  | .md a ks, v => v = .ref a ∧ Hs a = none ∧ F a = none ∧ H a = some (.dK ks)
  | _, _ => False
def upX (Y : Fx) (K : PySem.W.Frag) (t : DTE) : TE := fun σ H Q => ∃ Z F ρ n R, SR Y K Z F H σ ρ n ∧ t ρ n R ∧
  ∀ x n' F' H' v, R x n' → Gr Z.δ F H F' H' → Same F' H' → Z.δ.at_ K F' H' n' → VX K H F' H' x v → Q v H'
abbrev XE (Y : Fx) (X : Cx) (e : Expr) (t : DTE) : Prop := PE X e (upX Y X.K t)
def xD (t : DTE) : DTE := fun ρ n R => t ρ n fun x n' => needD x fun d => R (.dat d) n'
def xM (t : DTM) : DTE := fun ρ n R => t ρ n fun ds n' => R (.mt ds) n'
theorem xe_d {e : Expr} {t : DTE} (h : WE Y X e t) : XE Y X e (xD t) := pe_imp h fun σ H Q ⟨Z, F, ρ, n, R, r, ht, k⟩ =>
  ⟨Z, F, ρ, n, _, r, ht, fun x n1 F1 H1 v hx g1 s1 d1 w1 => by
    obtain ⟨d, rfl, hx⟩ := needD_is hx
    exact k _ _ _ _ _ hx g1 s1 d1 w1⟩
theorem xe_m {e : Expr} {t : DTM} (h : ME Y X e t) : XE Y X e (xM t) := pe_imp h fun σ H Q ⟨Z, F, ρ, n, R, r, ht, k⟩ =>
  ⟨Z, F, ρ, n, _, r, ht, fun ds n1 F1 H1 p vs hx g1 s1 d1 a b c d => k _ _ _ _ _ hx g1 s1 d1 ⟨p, vs, rfl, a, b, c, d⟩⟩
theorem VX.step {K : PySem.W.Frag} {δ : DkS} {Hs F H F' H' : Hp} {x : Dv} {v : V} (hs : ∀ a, a ∈ δ.own → Hs a ≠ none) (g : Gr δ F H F' H') (h : VX K Hs F H x v) : VX K Hs F' H' x v := by
  cases x with
  | dat d => exact Rp.mono g.sF d v h
  | mt ds =>
    obtain ⟨p, vs, rfl, a, b, c, d⟩ := h
    exact ⟨p, vs, rfl, a, g.nF p (by rw [c]; nofun) b, g.kH p _ (fun q => hs p q a) c rfl, Rps.mono g.sF ds vs d⟩
  | vw _ => exact h
  | deck _ => exact h
  | md a ks =>
    obtain ⟨e, h1, h2, h3⟩ := h
    exact ⟨e, h1, g.nF a (by rw [h3]; nofun) h2, g.kH a _ (fun q => hs a q h1) h3 rfl⟩
section
variable {K : PySem.W.Frag} {Y Z : Fx} {F H : Hp} {σ : L2.St} {ρ : Rho} {n : Wo}
theorem SR.set (r : SR Y K Z F H σ ρ n) (i : Nat) {x : Dv} {v : V} {Hs : Hp} (hx : VX K Hs F H x v) (h0 : ∀ p, Hs p = none → Z.H0 p = none ∧ p ∉ Z.δ.own) (hi : ∀ p, Hs p = none → ∀ (j : Nat) (y : Dv), j ≠ i → ρ[j]? = some (some y) → y.isL = true → σ[j]? ≠ some (some (.ref p))) :
    SR Y K Z F H (σ.set i (some v)) (ρ.set i (some x)) n where
  b := r.b
  de := r.de
  he := r.he
  gr := r.gr
  len := by simp [r.len]
  slot := fun j y e => by
    by_cases q : i = j
    · subst q
      by_cases hl : i < ρ.length
      · rw [List.getElem?_set_self hl] at e
        cases e
        refine ⟨v, List.getElem?_set_self (by rw [← r.len]; exact hl), ?_⟩
        cases x with
        | dat d => exact hx
        | mt ds =>
          obtain ⟨p, vs, rfl, a, b, c, d⟩ := hx
          exact ⟨p, vs, rfl, (h0 p a).1, b, c, d, (h0 p a).2⟩
        | vw _ => exact hx.elim
        | deck _ => exact hx.elim
        | md a ks =>
          obtain ⟨e, h1, h2, h3⟩ := hx
          exact ⟨e, (h0 a h1).1, h2, h3, (h0 a h1).2⟩
      · rw [List.getElem?_eq_none (by rw [List.length_set]; omega)] at e
        cases e
    · rw [List.getElem?_set_ne q] at e
      obtain ⟨w, e1, e2⟩ := r.slot j y e
      exact ⟨w, by rw [List.getElem?_set_ne q]; exact e1, e2⟩
  apart := fun j k a ds y hjk e1 e2 e3 hy e4 => by
    by_cases q : i = j
    · subst q
      by_cases hl : i < ρ.length
      · rw [List.getElem?_set_self hl] at e1
        rw [List.getElem?_set_self (by rw [← r.len]; exact hl)] at e2
        cases e1; cases e2
        rw [List.getElem?_set_ne hjk] at e3 e4
        obtain ⟨p, vs, e5, a', b, c, d⟩ := hx
        cases e5
        exact hi _ a' k y (Ne.symm hjk) e3 hy e4
      · rw [List.getElem?_eq_none (by rw [List.length_set]; omega)] at e1
        cases e1
    · rw [List.getElem?_set_ne q] at e1 e2
      by_cases q2 : i = k
      · subst q2
        by_cases hl : i < ρ.length
        · rw [List.getElem?_set_self hl] at e3
          rw [List.getElem?_set_self (by rw [← r.len]; exact hl)] at e4
          cases e3; cases e4
          cases x with
          | dat d => simp [Dv.isL] at hy
          | mt ds' =>
            obtain ⟨p, vs, e5, a', b, c, d⟩ := hx
            cases e5
            exact hi _ a' j (.mt ds) hjk e1 rfl e2
          | vw _ => exact hx.elim
          | deck _ => exact hx.elim
          | md _ _ => simp [Dv.isL] at hy
        · rw [List.getElem?_eq_none (by rw [List.length_set]; omega)] at e3
          cases e3
      · rw [List.getElem?_set_ne q2] at e3 e4
        exact r.apart j k a ds y hjk e1 e2 e3 hy e4
/-- a slot that is a list's lies in the heap -/
theorem SR.inH (r : SR Y K Z F H σ ρ n) {j : Nat} {y : Dv} {p : Addr} (e : ρ[j]? = some (some y)) (hy : y.isL = true) (e2 : σ[j]? = some (some (.ref p))) : H p ≠ none := by
  obtain ⟨v, e3, e4⟩ := r.slot j y e
  rw [e2] at e3; cases e3
  cases y with
  | dat _ => simp [Dv.isL] at hy
  | deck _ => simp [Dv.isL] at hy
  | md _ _ => simp [Dv.isL] at hy
  | vw ds =>
    obtain ⟨a, vs, q, h, _⟩ := e4
    cases q; rw [h]; nofun
  | mt ds =>
    obtain ⟨a, vs, q, _, _, h, _⟩ := e4
    cases q; rw [h]; nofun
/-- .. where it was made in an expression that began at Hs -/
theorem SR.fresh (r : SR Y K Z F H σ ρ n) {p : Addr} (h : H p = none) : Z.H0 p = none ∧ p ∉ Z.δ.own := by
  have n1 : p ∉ Z.δ.own := fun q => (r.b.dkF p q).2 h
  refine ⟨?_, n1⟩
  cases e : Z.H0 p with
  | none => rfl
  | some o => exact absurd h (r.b.gD p (by rw [e]; nofun))
theorem SR.setX (r0 : SR Y K Z F H σ ρ n) {F' H' : Hp} {n' : Wo} (r : SR Y K Z F' H' σ ρ n') (i : Nat) {x : Dv} {v : V} (hx : VX K H F' H' x v) : SR Y K Z F' H' (σ.set i (some v)) (ρ.set i (some x)) n' :=
  r.set i hx (fun p h => r0.fresh h) fun p h j y _ e hy e2 => r0.inH e hy e2 h
end
structure DEnds where
  nx : Rho → Wo → Prop
  rt : PyData → Wo → Prop
  bk : Rho → Wo → Prop := fun _ _ => False
  ct : Rho → Wo → Prop := fun _ _ => False
abbrev DTS := DEnds → Rho → Wo → Prop
structure EndsOk (Y : Fx) (K : PySem.W.Frag) (Z : Fx) (E : DEnds) (D : Ends) : Prop where
  nx : ∀ F H σ ρ n, E.nx ρ n → SR Y K Z F H σ ρ n → D.nx σ H
  rt : ∀ d n F H v, E.rt d n → Base K Z F H n → Rp K F d v → D.rt v H
  bk : ∀ F H σ ρ n, E.bk ρ n → SR Y K Z F H σ ρ n → D.bk σ H
  ct : ∀ F H σ ρ n, E.ct ρ n → SR Y K Z F H σ ρ n → D.ct σ H
def upS (Y : Fx) (K : PySem.W.Frag) (t : DTS) : TS := fun D σ H => ∃ Z F ρ n E, SR Y K Z F H σ ρ n ∧ t E ρ n ∧ EndsOk Y K Z E D
abbrev DS (Y : Fx) (X : Cx) (st : Stmt) (t : DTS) : Prop := PS X st (upS Y X.K t)
abbrev DSs (Y : Fx) (X : Cx) (st : List Stmt) (t : DTS) : Prop := PSs X st (upS Y X.K t)
def dSkip : DTS := fun E ρ n => E.nx ρ n
def dSeq (t u : DTS) : DTS := fun E ρ n => t { E with nx := u E } ρ n
theorem dss_nil : DSs Y X [] dSkip := pss_imp pss_nil fun D σ H ⟨Z, F, ρ, n, E, r, ht, k⟩ => k.nx _ _ _ _ _ ht r
theorem dss_cons {st : Stmt} {rest : List Stmt} {t u : DTS} (h1 : DS Y X st t) (h2 : DSs Y X rest u) : DSs Y X (st :: rest) (dSeq t u) :=
  pss_imp (pss_cons h1 h2) fun D σ H ⟨Z, F, ρ, n, E, r, ht, k⟩ => ⟨Z, F, ρ, n, _, r, ht, ⟨fun F' H' σ' ρ' n' h r' => ⟨Z, F', ρ', n', E, r', h, k⟩, k.rt, k.bk, k.ct⟩⟩
theorem dss_one {st : Stmt} {t : DTS} (h : DS Y X st t) : DSs Y X [st] t := pss_one h
def dRet (t : DTE) : DTS := fun E ρ n => t ρ n fun x n' => needD x fun d => E.rt d n'
theorem ds_ret {e : Expr} {t : DTE} {pos : Pos} (he : WE Y X e t) : DS Y X (.Return (some e) pos) (dRet t) :=
  ps_imp (ps_ret he) fun D σ H ⟨Z, F, ρ, n, E, r, ht, k⟩ => ⟨Z, F, ρ, n, _, r, ht, fun x n1 F1 H1 v hx g1 s1 d1 w1 => by
    obtain ⟨d, rfl, hx⟩ := needD_is hx
    exact k.rt _ _ _ _ _ hx (r.b.step g1 s1 d1) w1⟩
def dIfS (c : DTT) (t u : DTS) : DTS := fun E ρ n => c ρ n fun b n' => if b = true then t E ρ n' else u E ρ n'
theorem ds_if {c : Expr} {a b : List Stmt} {tc : DTT} {t u : DTS} {pos : Pos} (hc : WT Y X c tc) (ha : DSs Y X a t) (hb : DSs Y X b u) : DS Y X (.If c a b pos) (dIfS tc t u) :=
  ps_imp (ps_if hc ha hb) fun D σ H ⟨Z, F, ρ, n, E, r, ht, k⟩ => ⟨Z, F, ρ, n, _, r, ht, fun c n1 F1 H1 hx g1 s1 d1 => by
    cases c with
    | true => exact ⟨Z, F1, ρ, n1, E, r.step g1 s1 d1, hx, k⟩
    | false => exact ⟨Z, F1, ρ, n1, E, r.step g1 s1 d1, hx, k⟩⟩
/-- name = value -/
def dAsg (i : Nat) (t : DTE) : DTS := fun E ρ n => t ρ n fun x n' => E.nx (ρ.set i (some x)) n'
theorem asg_im {i : Nat} {K : PySem.W.Frag} {t : DTE} : ∀ D σ H, upS Y K (dAsg i t) D σ H → tAsg (upX Y K t) (gName i) D σ H := fun D σ H ⟨Z, F, ρ, n, E, r, ht, k⟩ =>
  ⟨Z, F, ρ, n, _, r, ht, fun x n1 F1 H1 v hx g1 s1 d1 w1 => k.nx _ _ _ _ _ hx (r.setX (r.step g1 s1 d1) i w1)⟩
theorem ds_set {i : Nat} {x : Str} {e : Expr} {t : DTE} {pos pos' : Pos} (hN : X.N.Nodup) (hi : X.N[i]? = some x) (hx : Loc X.env.scope x) (he : XE Y X e t) (hs : swapsWith e (some (.Name x pos')) pos.line X.env = pure false := by rfl)
    (hf : X.fn x = true ∨ X.env.scope.names.lookup x = some .local := by first | exact .inl rfl | exact .inr rfl | assumption) : DS Y X (.Assign [.Name x pos'] e pos) (dAsg i t) := ps_imp (ps_set hN hi hx he hs hf) asg_im
/-- a, b = x, y -/
def dPar (i j : Nat) (t u : DTE) : DTS := fun E ρ n => t ρ n fun x n1 => u ρ n1 fun y n2 => E.nx ((ρ.set i (some x)).set j (some y)) n2
theorem par_set {K : PySem.W.Frag} {Y Z : Fx} {F H F1 H1 F2 H2 : Hp} {σ : L2.St} {ρ : Rho} {n n1 n2 : Wo} {i j : Nat} {x y : Dv} {v w : V} (hij : i ≠ j) (r : SR Y K Z F H σ ρ n) (r1 : SR Y K Z F1 H1 σ ρ n1) (r2 : SR Y K Z F2 H2 σ ρ n2) (g : Gr Z.δ F1 H1 F2 H2)
    (hx : VX K H F1 H1 x v) (hy : VX K H1 F2 H2 y w) : SR Y K Z F2 H2 ((σ.set i (some v)).set j (some w)) ((ρ.set i (some x)).set j (some y)) n2 := by
  have hx2 : VX K H F2 H2 x v := hx.step (fun a ha => (r.b.dkF a ha).2) g
  refine (r.setX r2 i hx2).set (Hs := H1) j hy (fun p h => r1.fresh h) fun p h l z hl e hz e2 => ?_
  by_cases q : i = l
  · subst q
    by_cases hlt : i < ρ.length
    · rw [List.getElem?_set_self hlt] at e
      rw [List.getElem?_set_self (by rw [← r.len]; exact hlt)] at e2
      cases e; cases e2
      cases x with
      | dat _ => simp [Dv.isL] at hz
      | mt ds =>
        obtain ⟨p', vs, q1, _, _, q2, _⟩ := hx
        cases q1
        rw [q2] at h; cases h
      | vw _ => exact hx.elim
      | deck _ => exact hx.elim
      | md _ _ => simp [Dv.isL] at hz
    · rw [List.getElem?_eq_none (by rw [List.length_set]; omega)] at e
      cases e
  · rw [List.getElem?_set_ne q] at e e2
    exact r1.inH e hz e2 h
def upX2 (Y : Fx) (K : PySem.W.Frag) (t u : DTE) : TA := tCons (upX Y K t) (tCons (upX Y K u) tNil)
theorem xa_two {a b : Expr} {t u : DTE} (ha : XE Y X a t) (hb : XE Y X b u) (hs : starEach [a, b] X.env = (false, eval a X.env) :: starEach [b] X.env := by rfl) (hs2 : starEach [b] X.env = (false, eval b X.env) :: starEach [] X.env := by rfl) : PA X [a, b] (upX2 Y X.K t u) :=
  pa_cons ha (pa_cons hb pa_nil hs2) hs
theorem ds_par {i j : Nat} {x y : Str} {a b : Expr} {t u : DTE} {px py pt pos : Pos} {kt k2 pt2} (hc : X.calm = true) (hN : X.N.Nodup) (hi : X.N[i]? = some x) (hj : X.N[j]? = some y) (hij : i ≠ j)
    (hx : X.env.scope.names.lookup x = some .local) (hy : X.env.scope.names.lookup y = some .local) (ha : XE Y X a t) (hb : XE Y X b u)
    (hw : swappedStores [.Tuple [.Name x px, .Name y py] kt pt] (.Tuple [a, b] k2 pt2) X.env = pure (some [x, y]))
    (hs : swapsWithSole [.Tuple [.Name x px, .Name y py] kt pt] (.Tuple [a, b] k2 pt2) pos.line X.env = pure false := by rfl)
    (h1 : starEach [a, b] X.env = (false, eval a X.env) :: starEach [b] X.env := by rfl) (h2 : starEach [b] X.env = (false, eval b X.env) :: starEach [] X.env := by rfl) :
    DS Y X (.Assign [.Tuple [.Name x px, .Name y py] kt pt] (.Tuple [a, b] k2 pt2) pos) (dPar i j t u) :=
  ps_imp (ps_par hc hN hi hj hij hx hy (xa_two ha hb h1 h2) hw hs) fun D σ H ⟨Z, F, ρ, n, E, r, ht, k⟩ =>
    ⟨Z, F, ρ, n, _, r, ht, fun x1 n1 F1 H1 v hx g1 s1 d1 w1 => ⟨Z, F1, ρ, n1, _, r.step g1 s1 d1, hx, fun y1 n2 F2 H2 w hy g2 s2 d2 w2 =>
      ⟨v, w, rfl, k.nx _ _ _ _ _ hy (par_set hij r (r.step g1 s1 d1) ((r.step g1 s1 d1).step g2 s2 d2) g2 w1 w2)⟩⟩⟩
end DL
namespace DL
open PySem PySem.Spec PyProof.Rows L2
variable {X : Cx} {Y : Fx}
structure ItOk (K : PySem.W.Frag) (J : It) (F1 : Hp) (xs : List PyData) : Prop where
  go : ∀ (i : Nat) H, Same F1 H → i < xs.length → J.go i H
  stop : ∀ (i : Nat) H, Same F1 H → xs.length ≤ i → J.stop i H
  yld : ∀ (i : Nat) H v H' x, J.yld i H v H' → Same F1 H → xs[i]? = some x → (H' = H ∧ Rp K F1 x v) ∨ ∃ T us ds, v = .ref T ∧ H T = none ∧ H' = upd H T (.tup us) ∧ x = .tuple ds ∧ Rps K F1 ds us
abbrev DSrc := Rho → Wo → (List PyData → Wo → Prop) → Prop
def upI (Y : Fx) (K : PySem.W.Frag) (t : DSrc) : TI := fun σ H R => ∃ Z F ρ n Q, SR Y K Z F H σ ρ n ∧ t ρ n Q ∧
  ∀ xs n' F' H' J, Q xs n' → Gr Z.δ F H F' H' → Same F' H' → Z.δ.at_ K F' H' n' → ItOk K J F' xs → R J H'
abbrev DI (Y : Fx) (X : Cx) (tg iter : Expr) (t : DSrc) : Prop := PI X tg iter (upI Y X.K t)
theorem pi_imp {tg iter : Expr} {t t' : TI} (h : PI X tg iter t) (q : ∀ σ H R, t' σ H R → t σ H R) : PI X tg iter t' := ⟨fun p s σ H R I w => h.run p s σ H R I (q σ H R w)⟩
/-- what yields in a heap where the data stands -/
theorem ItOk.use {K : PySem.W.Frag} {J : It} {F1 F H H' : Hp} {xs : List PyData} {i : Nat} {v : V} {x : PyData} (k : ItOk K J F1 xs) (h1 : Same F1 F) (hs : Same F H) (hy : J.yld i H v H') (hx : xs[i]? = some x) :
    ∃ F', Gp F H F' H' ∧ Same F' H' ∧ Rp K F' x v := by
  rcases k.yld i H v H' x hy (h1.trans hs) hx with ⟨rfl, r⟩ | ⟨T, us, ds, rfl, hT, rfl, rfl, r⟩
  · exact ⟨F, Gp.refl, hs, Rp.mono h1 x v r⟩
  · obtain ⟨g, s⟩ := Gp.new (o := .tup us) hT hs
    refine ⟨_, g, s, ?_⟩
    simp only [Rp]
    exact ⟨T, us, rfl, .inl upd_same, Rps.mono (h1.trans g.sF) ds us r⟩
theorem itOk_list {K : PySem.W.Frag} {F : Hp} {a : Addr} {vs : List V} {ds : List PyData} (h : F a = some (.lst vs)) (r : Rps K F ds vs) : ItOk K (Itl K a) F ds where
  go := fun i H s hi => ⟨vs, vs[i]'(by rw [← r.length]; exact hi), SqL.of (s _ _ h), by simp⟩
  stop := fun i H s hi => ⟨vs, SqL.of (s _ _ h), by rw [← r.length]; exact hi⟩
  yld := fun i H v H' x ⟨e, y⟩ s hx => by
    have h1 := y vs (SqL.of (s _ _ h))
    obtain ⟨w, e1, e2⟩ := r.get hx
    rw [h1] at e1; cases e1
    exact .inl ⟨e, e2⟩
theorem itOk_tup {K : PySem.W.Frag} {F : Hp} {a : Addr} {vs : List V} {ds : List PyData} (h : Rd F a (.tup vs)) (r : Rps K F ds vs) : ItOk K (Itt K a) F ds where
  go := fun i H s hi => ⟨vs, vs[i]'(by rw [← r.length]; exact hi), sqtR (rdS s h), by simp⟩
  stop := fun i H s hi => ⟨vs, sqtR (rdS s h), by rw [← r.length]; exact hi⟩
  yld := fun i H v H' x ⟨e, y⟩ s hx => by
    have h1 := y vs (sqtR (rdS s h))
    obtain ⟨w, e1, e2⟩ := r.get hx
    rw [h1] at e1; cases e1
    exact .inl ⟨e, e2⟩
/-- range -/
def rngD (lo : Int) (n : Nat) : List PyData := (List.range n).map fun (k : Nat) => PyData.int (lo + k)
theorem rngD_length {lo : Int} {n : Nat} : (rngD lo n).length = n := by simp [rngD]
theorem rngD_get {lo : Int} {n i : Nat} {x : PyData} (h : (rngD lo n)[i]? = some x) : x = .int (lo + (i : Int)) ∧ i < n := by
  unfold rngD at h
  rw [List.getElem?_map] at h
  cases e : (List.range n)[i]? with
  | none => rw [e] at h; cases h
  | some j =>
    rw [e] at h
    have hi : i < n := by simpa using (List.getElem?_eq_some_iff.mp e).1
    rw [List.getElem?_range hi] at e
    cases e; cases h
    exact ⟨rfl, hi⟩
theorem itOk_rng {K : PySem.W.Frag} {F : Hp} {lo : Int} {n : Nat} : ItOk K (Itr lo n) F (rngD lo n) where
  go := fun i H s hi => by rw [rngD_length] at hi; exact hi
  stop := fun i H s hi => by rw [rngD_length] at hi; exact hi
  yld := fun i H v H' x ⟨e, y⟩ s hx => by
    obtain ⟨h1, _⟩ := rngD_get hx
    exact .inl ⟨e, by rw [h1, y]; simp [Rp]⟩
def dRng1 (t : DTA) : DSrc := fun ρ n R => t ρ n fun xs n' => ∃ j : Int, xs = [.dat (.int j)] ∧ -(2 ^ 62) ≤ j ∧ j < 2 ^ 62 ∧ R (rngD 0 j.toNat) n'
def dRng2 (t : DTA) : DSrc := fun ρ n R => t ρ n fun xs n' => ∃ i j : Int, xs = [.dat (.int i), .dat (.int j)] ∧ (-(2 ^ 62) ≤ i ∧ i < 2 ^ 62 ∧ -(2 ^ 62) ≤ j ∧ j < 2 ^ 62) ∧ R (rngD i (j - i).toNat) n'
theorem vrs1 {K : PySem.W.Frag} {δ : DkS} {F H : Hp} {i : Int} {vs : List V} (h : VRs K δ F H [.dat (.int i)] vs) : vs = [.int i] := by
  cases h with
  | cons a b =>
    cases b
    simp only [VR, Rp] at a; rw [a]
theorem vrs2 {K : PySem.W.Frag} {δ : DkS} {F H : Hp} {i j : Int} {vs : List V} (h : VRs K δ F H [.dat (.int i), .dat (.int j)] vs) : vs = [.int i, .int j] := by
  cases h with
  | cons a b =>
    simp only [VR, Rp] at a; rw [a, vrs1 b]
theorem di_range1 {tg a : Expr} {t : DTA} {p pos : Pos} (hg : Gl X "range") (hm : X.mg "range" = none) (ha : WA Y X [a] t) (hs : starEach [a] X.env = [(false, eval a X.env)] := by rfl) : DI Y X tg (.Call (.Name "range" p) [a] [] pos) (dRng1 t) :=
  pi_imp (pi_range1 hg hm ha hs) fun σ H R ⟨Z, F, ρ, n, Q, r, ht, k⟩ => ⟨Z, F, ρ, n, _, r, ht, fun xs n1 F1 H1 vs ⟨j, e, l, u, hx⟩ g1 s1 d1 w1 => by
    subst e
    exact ⟨j, vrs1 w1, l, u, k _ _ _ _ _ hx g1 s1 d1 itOk_rng⟩⟩
theorem di_range2 {tg a b : Expr} {t : DTA} {p pos : Pos} (hg : Gl X "range") (hm : X.mg "range" = none) (ha : WA Y X [a, b] t) (hs : starEach [a, b] X.env = [(false, eval a X.env), (false, eval b X.env)] := by rfl) (hs2 : starEach [b] X.env = [(false, eval b X.env)] := by rfl) :
    DI Y X tg (.Call (.Name "range" p) [a, b] [] pos) (dRng2 t) :=
  pi_imp (pi_range2 hg hm ha hs hs2) fun σ H R ⟨Z, F, ρ, n, Q, r, ht, k⟩ => ⟨Z, F, ρ, n, _, r, ht, fun xs n1 F1 H1 vs ⟨i, j, e, l, hx⟩ g1 s1 d1 w1 => by
    subst e
    exact ⟨i, j, vrs2 w1, l, k _ _ _ _ _ hx g1 s1 d1 itOk_rng⟩⟩
/-- enumerate of a list, zip of two lists, of two tuples -/
def enumD (ds : List PyData) : List PyData := ds.zipIdx.map fun p => .tuple [.int (p.2 : Nat), p.1]
theorem enumD_length {ds : List PyData} : (enumD ds).length = ds.length := by simp [enumD]
theorem enumD_get {ds : List PyData} {i : Nat} {x : PyData} (h : (enumD ds)[i]? = some x) : ∃ d, ds[i]? = some d ∧ x = .tuple [.int (i : Nat), d] := by
  unfold enumD at h
  rw [List.getElem?_map, List.getElem?_zipIdx] at h
  cases e : ds[i]? with
  | none => rw [e] at h; cases h
  | some d =>
    rw [e] at h
    simp at h
    exact ⟨d, rfl, h.symm⟩
theorem itOk_enum {K : PySem.W.Frag} {F : Hp} {a : Addr} {vs : List V} {ds : List PyData} (h : F a = some (.lst vs)) (r : Rps K F ds vs) : ItOk K (Ite K a) F (enumD ds) where
  go := fun i H s hi => by
    rw [enumD_length] at hi
    exact ⟨vs, vs[i]'(by rw [← r.length]; exact hi), SqL.of (s _ _ h), by simp⟩
  stop := fun i H s hi => ⟨vs, SqL.of (s _ _ h), by rw [← r.length, ← enumD_length]; exact hi⟩
  yld := fun i H v H' x ⟨T, y, e1, e2, e3, e4⟩ s hx => by
    obtain ⟨d, q1, q2⟩ := enumD_get hx
    obtain ⟨w, q3, q4⟩ := r.get q1
    rw [e4 vs (SqL.of (s _ _ h))] at q3; cases q3
    exact .inr ⟨T, _, _, e1, e2, e3, q2, rps_cons (by simp [Rp]) (rps_cons q4 rps_nil)⟩
abbrev DTG := PyData → Rho → (Rho → Prop) → Prop
structure GOk (K : PySem.W.Frag) (t : TG) (g : DTG) (sl : List Nat) : Prop where
  im : ∀ Y Z F H σ ρ n d v R Q, SR Y K Z F H σ ρ n → Rp K F d v → g d ρ R → (∀ σ' ρ', R ρ' → SR Y K Z F H σ' ρ' n → (∀ vs : List Nat, (∀ i ∈ sl, i ∈ vs) → wipe σ' vs = wipe σ vs) → Q σ' H) → t v σ H Q
def DG (X : Cx) (tg : Expr) (t : TG) (g : DTG) (sl : List Nat) : Prop := PG X tg t ∧ GOk X.K t g sl
def gN (i : Nat) : DTG := fun d ρ R => R (ρ.set i (some (.dat d)))
theorem wipe_set {σ : L2.St} {i : Nat} {x : Option V} : ∀ {vs : List Nat}, i ∈ vs → wipe (σ.set i x) vs = wipe σ vs
  | [], h => by simp at h
  | v :: vs, h => by
    unfold wipe
    by_cases q : i ∈ vs
    · rw [wipe_set q]
    · have e : i = v := by
        rcases List.mem_cons.mp h with e | e
        · exact e
        · exact absurd e q
      subst e
      have comm : ∀ us : List Nat, i ∉ us → wipe (σ.set i x) us = (wipe σ us).set i x := by
        intro us
        induction us with
        | nil => intro _; rfl
        | cons u us ih =>
          intro hu
          simp only [List.mem_cons, not_or] at hu
          unfold wipe
          rw [ih hu.2, List.set_comm _ _ hu.1]
      rw [comm vs q, List.set_set]
theorem gok_name {K : PySem.W.Frag} {i : Nat} : GOk K (gName i) (gN i) [i] := ⟨fun Y Z F H σ ρ n d v R Q r hr h k =>
  k _ _ h (r.set (Hs := H) i (x := .dat d) hr (fun p q => r.fresh q) fun p q l z _ e hz e2 => r.inH e hz e2 q) fun vs hv => wipe_set (hv i (by simp))⟩
def gT2 (i j : Nat) : DTG := fun d ρ R => ∃ a b, d = .tuple [a, b] ∧ R ((ρ.set i (some (.dat a))).set j (some (.dat b)))
theorem rps2 {K : PySem.W.Frag} {F : Hp} {a b : PyData} {vs : List V} (h : Rps K F [a, b] vs) : ∃ v w, vs = [v, w] ∧ Rp K F a v ∧ Rp K F b w := by
  simp only [Rps] at h
  obtain ⟨v, _, rfl, h1, w, _, rfl, h2, rfl⟩ := h
  exact ⟨v, w, rfl, h1, h2⟩
theorem SR.setD {K : PySem.W.Frag} {Y Z : Fx} {F H : Hp} {σ : L2.St} {ρ : Rho} {n : Wo} (r : SR Y K Z F H σ ρ n) (i : Nat) {d : PyData} {v : V} (h : Rp K F d v) : SR Y K Z F H (σ.set i (some v)) (ρ.set i (some (.dat d))) n :=
  r.set (Hs := H) i (x := .dat d) h (fun p q => r.fresh q) fun p q l z _ e hz e2 => r.inH e hz e2 q
theorem gok_two {K : PySem.W.Frag} {i j : Nat} : GOk K (gTup K 2 (gCons (gName i) (gCons (gName j) gNil))) (gT2 i j) [i, j] := ⟨fun Y Z F H σ ρ n d v R Q r hr h k => by
  obtain ⟨a, b, rfl, h⟩ := h
  simp only [Rp] at hr
  obtain ⟨p, xs, rfl, hp, hxs⟩ := hr
  obtain ⟨v, w, rfl, h1, h2⟩ := rps2 hxs
  refine ⟨p, _, rfl, sqtR (rdS r.b.sub hp), rfl, v, _, rfl, w, _, rfl, rfl, k _ _ h ((r.setD i h1).setD j h2) fun vs hv => ?_⟩
  rw [wipe_set (hv j (by simp)), wipe_set (hv i (by simp))]⟩
abbrev FStep := PyData → Rho → Wo → (Rho → Wo → Prop) → Prop
structure ForR (xs : List PyData) (ρ : Rho) (n : Wo) (step : FStep) (Q : Rho → Wo → Prop) : Prop where
  ex : ∃ I : Nat → Rho → Wo → Prop, I 0 ρ n ∧ (∀ (k : Nat) x ρ' n', xs[k]? = some x → I k ρ' n' → step x ρ' n' (I (k + 1))) ∧ ∀ ρ' n', I xs.length ρ' n' → Q ρ' n'
def dFor (s : DSrc) (g : DTG) (b : DTS) : DTS := fun E ρ n => s ρ n fun xs n1 => ForR xs ρ n1 (fun x ρ' n' K => g x ρ' fun ρ'' => b { E with nx := K, ct := K, bk := E.nx } ρ'' n') E.nx
theorem SR.base {K : PySem.W.Frag} {Y Z : Fx} {F0 H : Hp} {σ : L2.St} {ρ : Rho} {n : Wo} (r : SR Y K Z F0 H σ ρ n) : SR Y K { Z with F0 := F0 } F0 H σ ρ n :=
  ⟨⟨r.b.sub, r.b.dk, r.b.dkF, Same.refl _, fun a _ h => h, r.b.gH, r.b.gI⟩, r.de, r.he, r.gr, r.len, fun i x e => by
    obtain ⟨v, e1, e2⟩ := r.slot i x e
    refine ⟨v, e1, ?_⟩
    cases x <;> exact e2, r.apart⟩
theorem Base.back {K : PySem.W.Frag} {Z : Fx} {F1 H1 F H : Hp} {n1 n : Wo} (b1 : Base K Z F1 H1 n1) (b : Base K { Z with F0 := F1 } F H n) : Base K Z F H n :=
  ⟨b.sub, b.dk, b.dkF, b1.gF.trans b.gF, fun a h1 h2 => b.gN a h1 (b1.gN a h1 h2), b.gH, b.gI⟩
theorem SR.back {K : PySem.W.Frag} {Y Z : Fx} {F1 H1 F H : Hp} {σ : L2.St} {ρ : Rho} {n n1 : Wo} (b1 : Base K Z F1 H1 n1) (r : SR Y K { Z with F0 := F1 } F H σ ρ n) : SR Y K Z F H σ ρ n :=
  ⟨b1.back r.b, r.de, r.he, r.gr, r.len, fun i x e => by
    obtain ⟨v, e1, e2⟩ := r.slot i x e
    refine ⟨v, e1, ?_⟩
    cases x <;> exact e2, r.apart⟩
theorem ds_for {tg iter : Expr} {body : List Stmt} {s : DSrc} {t : TG} {g : DTG} {sl : List Nat} {b : DTS} {pos : Pos} (hp : PassesOwn (model X.prog X.w) X.A X.env X.xe) (hc : X.calm = true) (hi : DI Y X tg iter s) (hg : DG X tg t g sl) (hb : DSs Y X body b)
    (hs : ∀ x, foldedSetIterable iter X.env x = pure x := by intro _; rfl) : DS Y X (.For tg iter body [] pos) (dFor s g b) :=
  ps_imp (ps_for hp hc hi hg.1 hb hs) fun D σ H ⟨Z, F, ρ, n, E, r, ht, k⟩ => ⟨Z, F, ρ, n, _, r, ht, fun xs n1 F1 H1 J ⟨⟨I, h0, hstep, hend⟩⟩ g1 s1 d1 w1 => by
    have r1 := r.step g1 s1 d1
    refine ⟨fun i m σ H => m = xs.length - i ∧ i ≤ xs.length ∧ ∃ F' ρ' n', SR Y X.K { Z with F0 := F1 } F' H σ ρ' n' ∧ I i ρ' n', ⟨xs.length, by simp, Nat.zero_le _, F1, ρ, n1, r1.base, h0⟩, ?_⟩
    rintro i m σ2 H2 ⟨rfl, hi, F2, ρ2, n2, r2, h2⟩
    have sF : Same F1 F2 := r2.b.gF
    by_cases hlt : i < xs.length
    · refine .inr ⟨w1.go i H2 (sF.trans r2.b.sub) hlt, fun σ' H' => ∃ F' ρ' n', SR Y X.K { Z with F0 := F1 } F' H' σ' ρ' n' ∧ I (i + 1) ρ' n', fun σ' H' q => ⟨xs.length - (i + 1), by omega, rfl, hlt, q⟩, fun v H3 hy => ?_⟩
      obtain ⟨x, hx⟩ : ∃ x, xs[i]? = some x := ⟨xs[i], by simp [hlt]⟩
      obtain ⟨F3, g3, s3, r3⟩ := w1.use sF r2.b.sub hy hx
      have r2' := r2.step g3.gr s3 (g3.dk r2.b)
      refine hg.2.im _ _ _ _ _ _ _ _ _ _ _ r2' r3 (hstep i x ρ2 n2 hx h2) fun σ4 ρ4 h4 r4 _ => ?_
      refine ⟨_, F3, ρ4, n2, _, r4, h4, ⟨fun F5 H5 σ5 ρ5 n5 q r5 => ⟨F5, ρ5, n5, r5, q⟩, fun d n5 F5 H5 v5 q b5 => k.rt _ _ _ _ _ q (r1.b.back b5), fun F5 H5 σ5 ρ5 n5 q r5 => k.nx _ _ _ _ _ q (SR.back r1.b r5), fun F5 H5 σ5 ρ5 n5 q r5 => ⟨F5, ρ5, n5, r5, q⟩⟩⟩
    · have e : i = xs.length := by omega
      subst e
      exact .inl ⟨w1.stop _ H2 (sF.trans r2.b.sub) (Nat.le_refl _), k.nx _ _ _ _ _ (hend _ _ h2) (SR.back r1.b r2)⟩⟩
end DL
namespace DL
open PySem PySem.Spec PyProof.Rows L2
variable {X : Cx} {Y : Fx}
def wipeR (ρ : Rho) : List Nat → Rho
  | [] => ρ
  | v :: vs => (wipeR ρ vs).set v none
theorem wipeR_length (ρ : Rho) : ∀ vs : List Nat, (wipeR ρ vs).length = ρ.length
  | [] => rfl
  | v :: vs => by unfold wipeR; rw [List.length_set, wipeR_length ρ vs]
theorem wipeR_some {ρ : Rho} {i : Nat} {x : Dv} : ∀ {vs : List Nat}, (wipeR ρ vs)[i]? = some (some x) → ρ[i]? = some (some x) ∧ i ∉ vs
  | [], h => ⟨h, by simp⟩
  | v :: vs, h => by
    unfold wipeR at h
    by_cases hi : v = i
    · subst hi
      by_cases hv : v < (wipeR ρ vs).length
      · rw [List.getElem?_set_self hv] at h; cases h
      · rw [List.getElem?_eq_none (by simpa using hv)] at h; cases h
    · rw [List.getElem?_set_ne hi] at h
      obtain ⟨h1, h2⟩ := wipeR_some h
      exact ⟨h1, by simp only [List.mem_cons, not_or]; exact ⟨fun e => hi e.symm, h2⟩⟩
theorem SR.wipe {K : PySem.W.Frag} {Y Z : Fx} {F H : Hp} {σ : L2.St} {ρ : Rho} {n : Wo} (r : SR Y K Z F H σ ρ n) (vs : List Nat) : SR Y K Z F H (wipe σ vs) (wipeR ρ vs) n where
  b := r.b
  de := r.de
  he := r.he
  gr := r.gr
  len := by rw [wipe_length, wipeR_length, r.len]
  slot := fun i x e => by
    obtain ⟨e1, e2⟩ := wipeR_some e
    obtain ⟨v, e3, e4⟩ := r.slot i x e1
    exact ⟨v, by rw [wipe_out e2]; exact e3, e4⟩
  apart := fun i j a ds y hij e1 e2 e3 hy e4 =>
    r.apart i j a ds y hij (wipeR_some e1).1 (wipe_some e2).1 (wipeR_some e3).1 hy (wipe_some e4).1
theorem wipe_idem {σ : L2.St} : ∀ {vs : List Nat}, wipe (wipe σ vs) vs = wipe σ vs := by
  intro vs
  have sub : ∀ us : List Nat, (∀ i ∈ us, i ∈ vs) → wipe (wipe σ us) vs = wipe σ vs := by
    intro us
    induction us with
    | nil => intro _; rfl
    | cons u us ih =>
      intro h
      show wipe ((wipe σ us).set u none) vs = _
      rw [wipe_set (h u (by simp))]
      exact ih fun i hi => h i (by simp [hi])
  exact sub vs fun i h => h
abbrev CStep := PyData → List PyData → Wo → (List PyData → Wo → Prop) → Prop
structure CompR (xs : List PyData) (n : Wo) (step : CStep) (R : List PyData → Wo → Prop) : Prop where
  ex : ∃ I : Nat → List PyData → Wo → Prop, I 0 [] n ∧ (∀ (k : Nat) x acc m, xs[k]? = some x → I k acc m → step x acc m (I (k + 1))) ∧ ∀ acc m, I xs.length acc m → R acc m
def mComp (s : DSrc) (g : DTG) (tt : DTT) (te : DTE) (vs : List Nat) : DTM := fun ρ n R => s ρ n fun xs n1 => CompR xs n1 (fun x acc m K => g x (wipeR ρ vs) fun ρ' => tt ρ' m fun b m1 => if b = true then te ρ' m1 fun y m2 => needD y fun d => acc.length < sizeLine ∧ K (acc ++ [d]) m2 else K acc m1) R
abbrev WTs (Y : Fx) (X : Cx) (ifs : List Expr) (t : DTT) : Prop := PTs X ifs (upT Y X.K t)
theorem pts_imp {ifs : List Expr} {t t' : TT} (h : PTs X ifs t) (q : ∀ σ H Q, t' σ H Q → t σ H Q) : PTs X ifs t' := ⟨fun p s σ H Q I w => h.run p s σ H Q I (q σ H Q w)⟩
def dYes : DTT := fun _ n R => R true n
theorem wts_nil : WTs Y X [] dYes := pts_imp pts_nil fun σ H Q ⟨Z, F, ρ, n, R, r, hr, k⟩ => k _ _ _ _ hr Gr.refl r.b.sub r.b.dk
theorem wts_one {c : Expr} {t : DTT} (h : WT Y X c t) : WTs Y X [c] t := pts_one h
/-- .. as data, as a list of one's own -/
theorem lc_dat {K : PySem.W.Frag} {t : DTM} : ∀ σ H Q, upX Y K (xD (dOfM t)) σ H Q → upM Y K t σ H Q := fun σ H Q ⟨Z, F, ρ, n, R, r, ht, k⟩ => ⟨Z, F, ρ, n, _, r, ht, fun ds n1 F1 H1 p vs hx g1 s1 d1 a b c d => by
  obtain ⟨g2, s2, r2⟩ := freeze g1 s1 a b c d
  exact k _ _ _ _ _ hx g2 s2 (d1.fz c rfl b) r2⟩
theorem SR.mut {K : PySem.W.Frag} {Y Z : Fx} {F H : Hp} {σ : L2.St} {ρ : Rho} {n : Wo} (r : SR Y K Z F H σ ρ n) {i : Nat} {ds es : List PyData} {a : Addr} {us : List V} (e : ρ[i]? = some (some (.mt ds))) (e1 : σ[i]? = some (some (.ref a))) (hr : Rps K F es us) :
    SR Y K Z F (upd H a (.lst us)) σ (ρ.set i (some (.mt es))) n := by
  obtain ⟨v, q1, a', ws, rfl, h0, hF, hH, hrr, na⟩ := r.slot i _ e
  rw [e1] at q1; cases q1
  have hi : i < ρ.length := (List.getElem?_eq_some_iff.mp e).1
  have hk : ∀ b o, b ≠ a → H b = some o → upd H a (.lst us) b = some o := fun b o q h => by rw [upd_ne q]; exact h
  refine ⟨⟨fun b o q => hk b o (ne_of_none q hF) (r.b.sub _ _ q), r.b.dk.chg na hH rfl, fun b hb => ⟨(r.b.dkF b hb).1, by rw [upd_ne fun q => na (by rw [← q]; exact hb)]; exact (r.b.dkF b hb).2⟩, r.b.gF, r.b.gN, fun b o q1 q2 q3 => hk b o (ne_of_none q2 h0) (r.b.gH b o q1 q2 q3), fun b C dx fs q => by rw [upd_ne (ne_of_none q h0)]; exact r.b.gI b C dx fs q⟩, r.de, r.he, r.gr.chg (by rw [← r.he]; exact h0), by simp [r.len], fun j y q => ?_, fun j l b ds' y hjl q1 q2 q3 hy q4 => ?_⟩
  · by_cases z : i = j
    · subst z
      rw [List.getElem?_set_self hi] at q
      cases q
      exact ⟨_, e1, a, us, rfl, h0, hF, upd_same, hr, na⟩
    · rw [List.getElem?_set_ne z] at q
      obtain ⟨w, w1, w2⟩ := r.slot j y q
      refine ⟨w, w1, ?_⟩
      cases y with
      | dat d => exact w2
      | vw es' =>
        obtain ⟨b, us', rfl, p1, p2, p3⟩ := w2
        exact ⟨b, us', rfl, hk b _ (fun zz => r.apart i j a ds (.vw es') z e e1 q rfl (by rw [w1, zz])) p1, p2, p3⟩
      | mt es' =>
        obtain ⟨b, us', rfl, p1, p2, p3, p4, p5⟩ := w2
        exact ⟨b, us', rfl, p1, p2, hk b _ (fun zz => r.apart i j a ds (.mt es') z e e1 q rfl (by rw [w1, zz])) p3, p4, p5⟩
      | deck _ => exact w2
      | md b ks =>
        obtain ⟨q1, q2, q3, q4, q5⟩ := w2
        exact ⟨q1, q2, q3, hk b _ (fun zz => by rw [zz, hH] at q4; cases q4) q4, q5⟩
  · have old : ∀ (k : Nat) (x : Dv), (ρ.set i (some (.mt es)))[k]? = some (some x) → x.isL = true → ∃ x', ρ[k]? = some (some x') ∧ x'.isL = true ∧ (∀ ds', x = .mt ds' → ∃ ds'', x' = .mt ds'') := fun k x q hx => by
      by_cases z : i = k
      · subst z
        rw [List.getElem?_set_self hi] at q
        cases q
        exact ⟨_, e, rfl, fun _ _ => ⟨_, rfl⟩⟩
      · rw [List.getElem?_set_ne z] at q
        exact ⟨x, q, hx, fun ds' h => ⟨ds', h⟩⟩
    obtain ⟨x1, p1, p2, p3⟩ := old j _ q1 rfl
    obtain ⟨ds'', rfl⟩ := p3 _ rfl
    obtain ⟨x2, p4, p5, _⟩ := old l _ q3 hy
    exact r.apart j l b ds'' x2 hjl p1 q2 p4 p5 q4
/-- the list in slot i -/
def atMt (i : Nat) (ρ : Rho) (R : List PyData → Prop) : Prop := ∃ ds, ρ[i]? = some (some (.mt ds)) ∧ R ds
def dApp (i : Nat) (t : DTE) : DTS := fun E ρ n => atMt i ρ fun ds => t ρ n fun x n' => needD x fun d => ds.length < sizeLine ∧ E.nx (ρ.set i (some (.mt (ds ++ [d])))) n'
theorem SR.own {K : PySem.W.Frag} {Y Z : Fx} {F H : Hp} {σ : L2.St} {ρ : Rho} {n : Wo} (r : SR Y K Z F H σ ρ n) {i : Nat} {ds : List PyData} (e : ρ[i]? = some (some (.mt ds))) : ∃ a vs, σ[i]? = some (some (.ref a)) ∧ H a = some (.lst vs) ∧ Rps K F ds vs := by
  obtain ⟨v, q1, a, ws, rfl, h0, hF, hH, hrr, na⟩ := r.slot i _ e
  exact ⟨a, ws, q1, hH, hrr⟩
section
variable {i : Nat} {o e : Expr} {t : DTE} {apos cpos pos : Pos}
theorem ds_append (ho : PE X o (tVar i)) (he : WE Y X e t)
    (hbase : attributeBase o "append" X.env (eval o X.env) = eval o X.env := by rfl)
    (hfew : ((backTo cpos (starEach [e] X.env)).all (fun x => !x.1) && (backToKw cpos (keywordEach [] X.env)).all (fun x => x.1.isSome)
      && decide (([e] : List Expr).length + ([] : List Keyword).length + (if ([] : List Keyword).isEmpty then 0 else 1) < 30)) = true := by rfl)
    (hline : (apos.endLine == cpos.line) = true := by rfl) (hst : starEach [e] X.env = (false, eval e X.env) :: starEach [] X.env := by rfl) (hplain : (backTo cpos (starEach [] X.env)).any (·.1) = false := by rfl)
    (hs : swapsWith (.Call (.Attribute o "append" apos) [e] [] cpos) none pos.line X.env = pure false := by rfl) : DS Y X (.Expr (.Call (.Attribute o "append" apos) [e] [] cpos) pos) (dApp i t) :=
  ps_imp (ps_expr (pe_bm PySem.F.plainAttrs_list PySem.F.slot_list_append PySem.F.type_list_append mt_append ho (pa_cons he pa_nil hst) hbase hfew hline hst hplain) hs) fun D σ H ⟨Z, F, ρ, n, E, r, ⟨ds, e0, ht⟩, k⟩ => by
    obtain ⟨a, vs, q1, q2, q3⟩ := r.own e0
    refine ⟨_, q1, .inl ⟨rfl, vs, SqL.of q2⟩, Z, F, ρ, n, _, r, ht, fun x n1 F1 H1 v hx g1 s1 d1 w1 => ?_⟩
    obtain ⟨d, rfl, hl, hx⟩ := needD_is hx
    have r1 := r.step g1 s1 d1
    obtain ⟨a', vs', q4, q5, q6⟩ := r1.own e0
    rw [q1] at q4; cases q4
    exact ⟨a, vs', _, rfl, rfl, q5, by rw [← q6.length]; exact hl, k.nx _ _ _ _ _ hx (r1.mut e0 q1 (q6.append (rps_cons w1 rps_nil)))⟩
/-- x.remove(k) of ints -/
def dRem (i : Nat) (t : DTE) : DTS := fun E ρ n => atMt i ρ fun ds => t ρ n fun x n' => ∃ (ns : List Int) (k : Int), ds = ns.map PyData.int ∧ x = .dat (.int k) ∧ k ∈ ns ∧ E.nx (ρ.set i (some (.mt ((ns.erase k).map PyData.int)))) n'
theorem first_at {ns : List Int} {k : Int} (h : k ∈ ns) : ∃ j, ns[j]? = some k ∧ (∀ m : Nat, m < j → ns[m]? ≠ some k) ∧ ns.eraseIdx j = ns.erase k := by
  induction ns with
  | nil => simp at h
  | cons a r ih =>
    by_cases e : a = k
    · subst e
      exact ⟨0, rfl, fun m hm => absurd hm (Nat.not_lt_zero _), by simp⟩
    · have hr : k ∈ r := by
        rcases List.mem_cons.mp h with q | q
        · exact absurd q.symm e
        · exact q
      obtain ⟨j, h1, h2, h3⟩ := ih hr
      refine ⟨j + 1, by simpa using h1, fun m hm => ?_, ?_⟩
      · cases m with
        | zero => simpa using e
        | succ m => simpa using h2 m (by omega)
      · rw [List.eraseIdx_cons_succ, h3, List.erase_cons_tail (by simpa using e)]
theorem ds_remove (ho : PE X o (tVar i)) (he : WE Y X e t)
    (hbase : attributeBase o "remove" X.env (eval o X.env) = eval o X.env := by rfl)
    (hfew : ((backTo cpos (starEach [e] X.env)).all (fun x => !x.1) && (backToKw cpos (keywordEach [] X.env)).all (fun x => x.1.isSome)
      && decide (([e] : List Expr).length + ([] : List Keyword).length + (if ([] : List Keyword).isEmpty then 0 else 1) < 30)) = true := by rfl)
    (hline : (apos.endLine == cpos.line) = true := by rfl) (hst : starEach [e] X.env = (false, eval e X.env) :: starEach [] X.env := by rfl) (hplain : (backTo cpos (starEach [] X.env)).any (·.1) = false := by rfl)
    (hs : swapsWith (.Call (.Attribute o "remove" apos) [e] [] cpos) none pos.line X.env = pure false := by rfl) : DS Y X (.Expr (.Call (.Attribute o "remove" apos) [e] [] cpos) pos) (dRem i t) :=
  ps_imp (ps_expr (pe_bm PySem.F.plainAttrs_list PySem.F.slot_list_remove PySem.F.type_list_remove mt_remove ho (pa_cons he pa_nil hst) hbase hfew hline hst hplain) hs) fun D σ H ⟨Z, F, ρ, n, E, r, ⟨ds, e0, ht⟩, k⟩ => by
    obtain ⟨a, vs, q1, q2, q3⟩ := r.own e0
    refine ⟨_, q1, .inl ⟨rfl, vs, SqL.of q2⟩, Z, F, ρ, n, _, r, ht, fun x n1 F1 H1 v ⟨ns, z, e1, e2, hm, hx⟩ g1 s1 d1 w1 => ?_⟩
    subst e1 e2
    simp only [VR, Rp] at w1
    subst w1
    have r1 := r.step g1 s1 d1
    obtain ⟨a', vs', q4, q5, q6⟩ := r1.own e0
    rw [q1] at q4; cases q4
    rw [q6.ints] at q5
    obtain ⟨j, h1, h2, h3⟩ := first_at hm
    refine ⟨a, ns, z, j, rfl, rfl, q5, h1, h2, ?_⟩
    rw [h3]
    exact k.nx _ _ _ _ _ hx (r1.mut e0 q1 (rps_ints _))
theorem Rps.set {K : PySem.W.Frag} {F : Hp} : ∀ {ds : List PyData} {vs : List V} (j : Nat) {d : PyData} {v : V}, Rps K F ds vs → Rp K F d v → Rps K F (ds.set j d) (vs.set j v)
  | [], _, _, _, _, h, _ => by simp only [Rps] at h; subst h; simp [Rps]
  | d :: ds, _, 0, d', v', h, h' => by
    simp only [Rps] at h
    obtain ⟨v, r, rfl, h1, h2⟩ := h
    exact rps_cons h' h2
  | d :: ds, _, j + 1, d', v', h, h' => by
    simp only [Rps] at h
    obtain ⟨v, r, rfl, h1, h2⟩ := h
    exact rps_cons h1 (Rps.set j h2 h')
end
end DL
namespace DL
open PySem PySem.Spec PyProof.Rows L2
variable {X : Cx} {Y : Fx}
abbrev DC := List Dv → (PyData → Prop) → Prop
def CallOk (K : PySem.W.Frag) (r : List V → Hp → VK → Prop) (o : DC) : Prop := ∀ δ F H xs vs R Q, Same F H → VRs K δ F H xs vs → o xs R → Back K F H R Q → r vs H Q
def dCall (o : DC) (t : DTA) : DTE := fun ρ n R => t ρ n fun xs n1 => o xs fun d => R (.dat d) n1
theorem cal {K : PySem.W.Frag} {r : List V → Hp → VK → Prop} {o : DC} {t : DTA} (ho : CallOk K r o) : ∀ σ H Q, up Y K (dCall o t) σ H Q → tCB r (upA Y K t) σ H Q := fun σ H Q ⟨Z, F, ρ, n, R, s, ht, k⟩ =>
  ⟨Z, F, ρ, n, _, s, ht, fun xs n1 F1 H1 vs hx g1 s1 d1 w1 => ho Z.δ F1 H1 xs vs _ Q s1 w1 hx fun d F2 H2 v2 h2 g2 s2 w2 =>
    k _ _ _ _ _ h2 (g1.trans g2.gr) s2 (g2.dk ((s.step g1 s1 d1).b)) w2⟩
section
variable {x : Str} {p pos : Pos} {e : Expr} {es : List Expr} {id T : String} {r : List V → Hp → VK → Prop} {o : DC} {t : DTA}
theorem we_callB (hc : CallR X (.builtin id) r) (ho : CallOk X.K r o) (hg : Gl X x) (hm : X.mg x = none) (hv : bootBuiltins x = some (.builtin id)) (ha : WA Y X (e :: es) t) (hn : x ≠ "__name__" := by decide) (hdb : (x == ("__debug__" : Str)) = false := by decide)
    (he : starEach (e :: es) X.env = (false, eval e X.env) :: starEach es X.env := by rfl) (hpl : (backTo pos (starEach es X.env)).any (·.1) = false := by rfl) : WE Y X (.Call (.Name x p) (e :: es) [] pos) (dCall o t) :=
  pe_imp (pe_callB hc hg hm hv ha hn hdb he hpl) (cal ho)
theorem we_callTy (hc : CallR X (.type T) r) (ho : CallOk X.K r o) (hg : Gl X x) (hm : X.mg x = none) (hv : bootBuiltins x = some (.type T)) (ha : WA Y X (e :: es) t) (hn : x ≠ "__name__" := by decide) (hdb : (x == ("__debug__" : Str)) = false := by decide)
    (he : starEach (e :: es) X.env = (false, eval e X.env) :: starEach es X.env := by rfl) (hpl : (backTo pos (starEach es X.env)).any (·.1) = false := by rfl) : WE Y X (.Call (.Name x p) (e :: es) [] pos) (dCall o t) :=
  pe_imp (pe_callTy hc hg hm hv ha hn hdb he hpl) (cal ho)
abbrev DCM := List Dv → (List PyData → Prop) → Prop
def CallOkM (K : PySem.W.Frag) (r : List V → Hp → VK → Prop) (o : DCM) : Prop := ∀ δ F H xs vs R Q, Same F H → VRs K δ F H xs vs → o xs R → (∀ ds us p, R ds → H p = none → Rps K F ds us → Q (.ref p) (upd H p (.lst us))) → r vs H Q
def mCall (o : DCM) (t : DTA) : DTM := fun ρ n R => t ρ n fun xs n1 => o xs fun d => R d n1
theorem calM {K : PySem.W.Frag} {r : List V → Hp → VK → Prop} {o : DCM} {t : DTA} (ho : CallOkM K r o) : ∀ σ H Q, upM Y K (mCall o t) σ H Q → tCB r (upA Y K t) σ H Q := fun σ H Q ⟨Z, F, ρ, n, R, s, ht, k⟩ =>
  ⟨Z, F, ρ, n, _, s, ht, fun xs n1 F1 H1 vs hx g1 s1 d1 w1 => ho Z.δ F1 H1 xs vs _ Q s1 w1 hx fun ds us p h2 hp hr => by
    obtain ⟨g2, s2⟩ := Gp.newM (o := .lst us) hp s1
    have hp0 : H p = none := by
      cases e : H p with
      | none => rfl
      | some o => exact absurd hp (g1.dH p (by rw [e]; nofun))
    exact k _ _ _ _ _ _ h2 (g1.trans g2.gr) s2 (g2.dk ((s.step g1 s1 d1).b)) hp0 (s1.free hp) upd_same hr⟩
theorem me_callB (hc : CallR X (.builtin id) r) {o : DCM} (ho : CallOkM X.K r o) (hg : Gl X x) (hm : X.mg x = none) (hv : bootBuiltins x = some (.builtin id)) (ha : WA Y X (e :: es) t) (hn : x ≠ "__name__" := by decide) (hdb : (x == ("__debug__" : Str)) = false := by decide)
    (he : starEach (e :: es) X.env = (false, eval e X.env) :: starEach es X.env := by rfl) (hpl : (backTo pos (starEach es X.env)).any (·.1) = false := by rfl) : ME Y X (.Call (.Name x p) (e :: es) [] pos) (mCall o t) :=
  pe_imp (pe_callB hc hg hm hv ha hn hdb he hpl) (calM ho)
theorem me_callTy (hc : CallR X (.type T) r) {o : DCM} (ho : CallOkM X.K r o) (hg : Gl X x) (hm : X.mg x = none) (hv : bootBuiltins x = some (.type T)) (ha : WA Y X (e :: es) t) (hn : x ≠ "__name__" := by decide) (hdb : (x == ("__debug__" : Str)) = false := by decide)
    (he : starEach (e :: es) X.env = (false, eval e X.env) :: starEach es X.env := by rfl) (hpl : (backTo pos (starEach es X.env)).any (·.1) = false := by rfl) : ME Y X (.Call (.Name x p) (e :: es) [] pos) (mCall o t) :=
  pe_imp (pe_callTy hc hg hm hv ha hn hdb he hpl) (calM ho)
end
section
variable {K : PySem.W.Frag}
theorem vr1 {δ : DkS} {F H : Hp} {x : Dv} {vs : List V} (h : VRs K δ F H [x] vs) : ∃ v, vs = [v] ∧ VR K δ F H x v := by
  cases h with
  | cons a b => cases b; exact ⟨_, rfl, a⟩
theorem vr2 {δ : DkS} {F H : Hp} {x y : Dv} {vs : List V} (h : VRs K δ F H [x, y] vs) : ∃ v w, vs = [v, w] ∧ VR K δ F H x v ∧ VR K δ F H y w := by
  cases h with
  | cons a b =>
    obtain ⟨w, rfl, h2⟩ := vr1 b
    exact ⟨_, w, rfl, a, h2⟩
/-- a sequence's items, whichever it is -/
def seqD : PyData → Option (List PyData)
  | .list ds => some ds
  | .tuple ds => some ds
  | _ => none
theorem VR.seq {δ : DkS} {F H : Hp} {x : Dv} {v : V} {ds : List PyData} (hs : Same F H) (h : VR K δ F H x v) (e : seqD x.toD = some ds) : ∃ a vs, v = .ref a ∧ (H a = some (.lst vs) ∨ Rd H a (.tup vs)) ∧ Rps K F ds vs := by
  cases q : x.toD with
  | list es =>
    rw [q] at e; cases e
    obtain ⟨a, l, e1, e2, e3⟩ := h.lst hs q
    exact ⟨a, l, e1, .inl e2, e3⟩
  | tuple es =>
    rw [q] at e; cases e
    obtain ⟨a, l, e1, e2, e3⟩ := h.tpl hs q
    exact ⟨a, l, e1, .inr (rdS hs e2), e3⟩
  | _ => rw [q] at e; cases e
def oLen : DC := fun xs R => ∃ x ds, xs = [x] ∧ seqD x.toD = some ds ∧ R (.int ds.length)
theorem ck_len : CallOk K (fun xs H Q => ∃ p ys, xs = [.ref p] ∧ (SqL K H p ys ∨ SqT K H p ys) ∧ Q (.int ys.length) H) oLen := fun δ F H xs vs R Q hs hv ⟨x, ds, e, e2, hr⟩ b => by
  subst e
  obtain ⟨v, rfl, h1⟩ := vr1 hv
  obtain ⟨a, us, rfl, h2, h3⟩ := h1.seq hs e2
  exact ⟨a, us, rfl, h2.imp SqL.of sqtR, b.int hs (by rw [← h3.length]; exact hr)⟩
def oInt : DC := fun xs R => match xs with
  | [.dat (.int i)] => R (.int i)
  | [.dat (.bool k)] => R (.int (if k then 1 else 0))
  | _ => False
theorem ck_int : CallOk K (fun xs H Q => (∃ i, xs = [.int i] ∧ Q (.int i) H) ∨ ∃ k, xs = [.bl k] ∧ Q (.int (if k then 1 else 0)) H) oInt := fun δ F H xs vs R Q hs hv h b => by
  unfold oInt at h
  split at h
  · exact .inl ⟨_, vrs1 hv, b.int hs h⟩
  · obtain ⟨v, rfl, h1⟩ := vr1 hv
    simp only [VR, Rp] at h1
    subst h1
    exact .inr ⟨_, rfl, b.int hs h⟩
  · exact h.elim
/-- sum, max, min of ints -/
def oSum : DC := fun xs R => ∃ x, ∃ ns : List Int, xs = [x] ∧ seqD x.toD = some (ns.map .int) ∧ R (.int ns.sum)
/-- tuple(x), list(x) -/
def oTuple : DC := fun xs R => ∃ x ds, xs = [x] ∧ seqD x.toD = some ds ∧ R (.tuple ds)
theorem ck_tuple : CallOk K (fun xs H Q => ∃ p ys, xs = [.ref p] ∧ ((SqL K H p ys ∧ ∀ l, H l = none → Q (.ref l) (upd H l (.tup ys))) ∨ (SqT K H p ys ∧ Q (.ref p) H))) oTuple := fun δ F H xs vs R Q hs hv ⟨x, ds, e, e2, hr⟩ b => by
  subst e
  obtain ⟨v, rfl, h1⟩ := vr1 hv
  cases q : x.toD with
  | list es =>
    rw [q] at e2; cases e2
    obtain ⟨a, l, rfl, e2, e3⟩ := h1.lst hs q
    exact ⟨a, l, rfl, .inl ⟨SqL.of e2, fun p hp => b.tup hs hr e3 hp⟩⟩
  | tuple es =>
    rw [q] at e2; cases e2
    obtain ⟨a, l, rfl, e2, e3⟩ := h1.tpl hs q
    exact ⟨a, l, rfl, .inr ⟨sqtR (rdS hs e2), b.here hs hr (by simp only [Rp]; exact ⟨a, l, rfl, e2, e3⟩)⟩⟩
  | _ => rw [q] at e2; cases e2
def oList : DCM := fun xs R => ∃ x ds, xs = [x] ∧ seqD x.toD = some ds ∧ R ds
theorem ck_list : CallOkM K (fun xs H Q => ∃ p ys, xs = [.ref p] ∧ (SqL K H p ys ∨ SqT K H p ys) ∧ ∀ l, H l = none → Q (.ref l) (upd H l (.lst ys))) oList := fun δ F H xs vs R Q hs hv ⟨x, ds, e, e2, hr⟩ b => by
  subst e
  obtain ⟨v, rfl, h1⟩ := vr1 hv
  obtain ⟨a, us, rfl, h2, h3⟩ := h1.seq hs e2
  exact ⟨a, us, rfl, h2.imp SqL.of sqtR, fun p hp => b _ _ _ hr hp h3⟩
/-- sorted of ints -/
def oSortI : DCM := fun xs R => ∃ x, ∃ ns : List Int, xs = [x] ∧ x.toD = .list (ns.map .int) ∧ ∀ ns' : List Int, ns'.Perm ns → ns'.Pairwise (· ≤ ·) → R (ns'.map .int)
theorem ck_sortI : CallOkM K (rSortedI K) oSortI := fun δ F H xs vs R Q hs hv ⟨x, ns, e, e2, hr⟩ b => by
  subst e
  obtain ⟨v, rfl, h1⟩ := vr1 hv
  obtain ⟨a, us, rfl, h2, h3⟩ := h1.lst hs e2
  rw [h3.ints] at h2
  exact ⟨a, ns, rfl, SqL.of h2, fun ns' p k1 k2 hp => b _ _ _ (hr ns' k1 k2) hp (rps_ints ns')⟩
theorem Rps.bools {F : Hp} : ∀ {bs : List Bool} {vs : List V}, Rps K F (bs.map PyData.bool) vs → vs = bs.map V.bl
  | [], _, h => by simpa only [List.map_nil, Rps] using h
  | n :: ns, _, h => by
    simp only [List.map_cons, Rps, Rp] at h
    obtain ⟨v, r, rfl, rfl, h2⟩ := h
    rw [Rps.bools h2]; rfl
end
abbrev DRg := Rho → Wo → (Int → Int → Wo → Prop) → Prop
def dRg1 (t : DTE) : DRg := fun ρ n R => t ρ n fun x n1 => ∃ j : Int, x = .dat (.int j) ∧ R 0 j n1
def upR (Y : Fx) (K : PySem.W.Frag) (t : DRg) : L2.St → Hp → (Int → Int → Hp → Prop) → Prop := fun σ H Q => ∃ Z F ρ n R, SR Y K Z F H σ ρ n ∧ t ρ n R ∧
  ∀ i j n' F' H', R i j n' → Gr Z.δ F H F' H' → Same F' H' → Z.δ.at_ K F' H' n' → Q i j H'
abbrev WR (Y : Fx) (X : Cx) (e : Expr) (t : DRg) : Prop := PRg X e (upR Y X.K t)
theorem wr_1 {a : Expr} {t : DTE} {p pos : Pos} (hg : Gl X "range") (hm : X.mg "range" = none) (ha : WE Y X a t) (na : starEach [a] X.env = (false, eval a X.env) :: starEach [] X.env := by rfl) : WR Y X (.Call (.Name "range" p) [a] [] pos) (dRg1 t) := by
  intro pins s σ H Q I ⟨Z, F, ρ, n, R, r, ht, k⟩
  refine prg_1 hg hm ha na pins s σ H Q I ⟨Z, F, ρ, n, _, r, ht, fun x n1 F1 H1 v ⟨j, e, hx⟩ g1 s1 d1 w1 => ?_⟩
  subst e
  simp only [VR, Rp] at w1
  exact ⟨j, w1, k _ _ _ _ _ hx g1 s1 d1⟩
theorem rps_rng {K : PySem.W.Frag} {F : Hp} (a b : Int) : Rps K F (rngD a (b - a).toNat) (rgV a b) := by
  have h := rps_ints (K := K) (F := F) ((List.range (b - a).toNat).map fun (k : Nat) => a + (k : Int))
  rw [List.map_map, List.map_map] at h
  exact h
def mLstRg (t : DRg) : DTM := fun ρ n R => t ρ n fun i j n1 => RgOk i j ∧ R (rngD i (j - i).toNat) n1
theorem me_listRg {e : Expr} {t : DRg} {p pos : Pos} (hc : X.calm = true) (hg : Gl X "list") (hm : X.mg "list" = none) (he : WR Y X e t) (na : starEach [e] X.env = (false, eval e X.env) :: starEach [] X.env := by rfl) : ME Y X (.Call (.Name "list" p) [e] [] pos) (mLstRg t) :=
  pe_imp (pe_listRg hc hg hm he na) fun σ H Q ⟨Z, F, ρ, n, R, r, ht, k⟩ => ⟨Z, F, ρ, n, _, r, ht, fun i j n1 F1 H1 ⟨h1, h2⟩ g1 s1 d1 => ⟨h1, fun q hq => by
    obtain ⟨g2, s2⟩ := Gp.newM (o := .lst (rgV i j)) hq s1
    have hp0 : H q = none := by
      cases e : H q with
      | none => rfl
      | some o => exact absurd hq (g1.dH q (by rw [e]; nofun))
    exact k _ _ _ _ _ _ h2 (g1.trans g2.gr) s2 (g2.dk ((r.step g1 s1 d1).b)) hp0 (s1.free hq) upd_same (rps_rng i j)⟩⟩
structure FnG (P : Program) (w : World) (K : PySem.W.Frag) (mg : Str → Option Value) (base : Heap) (k : Nat) (f : Addr) (fd : FuncData) (ps : List Str) (sp : Sp) : Prop where
  len : ∀ vs H Q E, sp vs H Q E → vs.length = ps.length
  run : ∀ (A : Around) (outer : List Env) (s : Shared) (H : Hp) (args : Args) (us : List Value) (vs : List V) (Q : VK), A.guards = some [] → Room k A → Env0 P w K mg base A outer s H →
    BindsTo s fd args (ps.zip us) → Vals vs us → sp vs H Q E0 → codeAny (model P w) A (.call (.ref f) args) (CR CX0 outer P w H s Q E0) s
theorem FnG.mono {P : Program} {w : World} {K : PySem.W.Frag} {mg : Str → Option Value} {base : Heap} {j k : Nat} {f : Addr} {fd : FuncData} {ps : List Str} {sp : Sp} (F : FnG P w K mg base j f fd ps sp) (h : j ≤ k) : FnG P w K mg base k f fd ps sp :=
  ⟨F.len, fun A outer s H args us vs Q hg hr => F.run A outer s H args us vs Q hg (hr.mono h)⟩
/-- a def, by its body -/
theorem fng_of {P : Program} {w : World} {K : PySem.W.Frag} {mg : Str → Option Value} {base : Heap} {x qual : Str} {st : Stmt} {f : Addr} {fd : FuncData} {N ps : List Str} {k : Nat} {sp : Sp} (F : Fun K x qual st f fd) (S : FnScope N ps (defScope st))
    (len : ∀ vs H Q E, sp vs H Q E → vs.length = ps.length)
    (hb : ∀ (cdv : Value) (A : Around) (outer : List Env) (s : Shared) (H : Hp) (vs : List V) (Q : VK), A.guards = some [] → Room k (A.deeper (envOfC qual (defScope st) s.heap.objs.size f cdv)) → sp vs H Q E0 →
      ∃ t, PSs (cxOf CX0 P w K mg base N qual (defScope st) f cdv A outer s H E0).nox (defBody st) t ∧ t { nx := fun _ H' => Q .non H', rt := Q } (start N vs) H) : FnG P w K mg base (k + 1) f fd ps sp := by
  refine ⟨len, fun A outer s H args us vs Q hgd hr e0 hbi rv hsp => ?_⟩
  obtain ⟨oc, od, kV, doc, pm, an, cdv, ct, osl, rfl, lk, hcd⟩ := F.ex
  have hl := len _ _ _ _ hsp
  have kin : K.In s.heap := e0.mod.kin.keeps fun b o e => (e0.bs b o e).1
  have lim : s.heap.NoLimit := e0.mod.nolimit.keeps fun b o e => (e0.bs b o e).1
  refine Att.call_fn kin lim lk hcd hr.depth hbi (List.all_eq_true.mpr fun ⟨y, u⟩ hy => ?_) (fun s1 x => ?_) S.co S.gen S.kind
  · rcases S.par y (List.of_mem_zip hy).1 with q | q <;> simp [q]
  · obtain ⟨t, ht, hq⟩ := hb cdv A outer s H vs Q hgd (hr.deeper _) hsp
    have I := inv_start (CX := CX0) (P := P) (w := w) (E := E0) S hr.hd e0 hl rv x
    refine wpAny_mono (ht.run [] s1 (start N vs) H _ (I.wish _) hq) (fun fl s' hs => ?_) fun e s' hs => hs.elim
    have fin : ∀ {σ' : L2.St} {H' : Hp} {v : V} {u : Value}, Inv (cxOf CX0 P w K mg base N qual (defScope st) f cdv A outer s H E0) [] σ' H' s' → RelV v u → Q v H' → CE outer P w H s Q u s' :=
      fun J r q => ⟨_, _, J.os, J.bare, J.base, J.hok, r, q⟩
    cases fl with
    | ret u =>
      obtain ⟨v, σ', H', J, r, q⟩ := hs
      exact fin J.unwish r q
    | next =>
      obtain ⟨σ', H', J, q⟩ := hs
      exact fin (v := V.non) (u := Value.none) J.unwish rfl q
    | brk => obtain ⟨_, _, _, q⟩ := hs; exact q.elim
    | cont => obtain ⟨_, _, _, q⟩ := hs; exact q.elim
theorem run_g {mg' : Unit} {k : Nat} {f : Addr} {fd : FuncData} {ps : List Str} {sp : Sp} {pins : List (Addr × Obj)} {σ : L2.St} {H : Hp} {s : Shared} {Q : VK} {us : List Value} {vs : List V} (F : FnG X.prog X.w X.K X.mg X.base k f fd ps sp) (hgd : X.A.guards = some []) (hr : Room k X.A) (hb : Binds X.K fd ps [])
    (I : Inv X pins σ H s) (r : Vals vs us) (h : sp vs H Q E0) : wpAny (model X.prog X.w) X.A (call (.ref f) us) (EP X pins σ Q) X.xe s := by
  have hl : (us ++ []).length = ps.length := by rw [List.append_nil, ← r.length]; exact F.len _ _ _ _ h
  have hbi := hb s us I.kIn hl
  rw [List.append_nil] at hbi
  refine wpAny_call (codeAny_mono (F.run X.A X.stack s H ⟨us, []⟩ us vs Q hgd hr I.env0 hbi r h) fun q s' hq => ?_)
  cases q with
  | error e => exact hq.elim
  | ok fl =>
    cases fl with
    | ret u => exact I.after hq
    | next => exact hq.elim
    | brk => exact hq.elim
    | cont => exact hq.elim
theorem pe_callg {k : Nat} {f : Addr} {fd : FuncData} {ps : List Str} {sp : Sp} {x : Str} {p pos : Pos} {e : Expr} {es : List Expr} {t : TA} (F : FnG X.prog X.w X.K X.mg X.base k f fd ps sp) (hgd : X.A.guards = some []) (hr : Room k X.A) (hg : Gl X x) (hm : X.mg x = some (.ref f)) (hk : PySem.W.keepIn X.K (.ref f) = true) (hb : Binds X.K fd ps [])
    (ha : PA X (e :: es) t) (hdb : (x == ("__debug__" : Str)) = false := by decide) (he : starEach (e :: es) X.env = (false, eval e X.env) :: starEach es X.env := by rfl) (hpl : (backTo pos (starEach es X.env)).any (·.1) = false := by rfl) :
    PE X (.Call (.Name x p) (e :: es) [] pos) (fun σ H Q => t σ H fun vs H1 => sp vs H1 Q E0) :=
  ⟨fun pins s σ H Q I h => wpAny_Call_Name_kw (ld_glob I hg hm (PySem.W.callWith_K (h₀ := X.base) I.ok.mod.kin hk (thn (ha.run pos pins s σ H _ I h) fun us s1 ⟨vs, H1, I1, r, q⟩ => ⟨I1.kIn, run_g (mg' := ()) F hgd hr hb I1 r q⟩) he hpl) hdb)⟩
abbrev DSpec := List Dv → Wo → (PyData → Wo → Prop) → Prop
def spD (K : PySem.W.Frag) (m : Nat) (c : DSpec) : Sp := fun vs H Q _ => ∃ δ F as n R, as.length = m ∧ VRs K δ F H as vs ∧ Same F H ∧ δ.at_ K F H n ∧ (∀ a, a ∈ δ.own → F a = none ∧ H a ≠ none) ∧ c as n R ∧
  ∀ d n' F' H' v, R d n' → Gr δ F H F' H' → Same F' H' → δ.at_ K F' H' n' → Rp K F' d v → Q v H'
def dFn (m : Nat) (c : DSpec) (t : DTA) : DTE := fun ρ n R => t ρ n fun as n1 => as.length = m ∧ c as n1 fun d n2 => R (.dat d) n2
theorem we_fn {k m : Nat} {c : DSpec} {f : Addr} {fd : FuncData} {ps : List Str} {x : Str} {p pos : Pos} {e : Expr} {es : List Expr} {t : DTA} (F : FnG X.prog X.w X.K X.mg X.base k f fd ps (spD X.K m c)) (hgd : X.A.guards = some []) (hr : Room k X.A) (hg : Gl X x) (hm : X.mg x = some (.ref f)) (hk : PySem.W.keepIn X.K (.ref f) = true) (hb : Binds X.K fd ps [])
    (ha : WA Y X (e :: es) t) (hdb : (x == ("__debug__" : Str)) = false := by decide) (he : starEach (e :: es) X.env = (false, eval e X.env) :: starEach es X.env := by rfl) (hpl : (backTo pos (starEach es X.env)).any (·.1) = false := by rfl) :
    WE Y X (.Call (.Name x p) (e :: es) [] pos) (dFn m c t) :=
  pe_imp (pe_callg F hgd hr hg hm hk hb ha hdb he hpl) fun σ H Q ⟨Z, F, ρ, n, R, r, ht, k⟩ => ⟨Z, F, ρ, n, _, r, ht, fun as n1 F1 H1 vs ⟨hl, hx⟩ g1 s1 d1 w1 => by
    have b1 := r.b.step g1 s1 d1
    exact ⟨Z.δ, F1, as, n1, _, hl, w1, s1, d1, b1.dkF, hx, fun d n2 F2 H2 v h2 g2 s2 d2 w2 => k _ _ _ _ _ h2 (g1.trans g2) s2 d2 w2⟩⟩
def startR (N : List Str) (as : List Dv) : Rho := as.map some ++ List.replicate (N.length - as.length) none
theorem Base.gr {K : PySem.W.Frag} {Z : Fx} {F H : Hp} {n : Wo} (h0 : ∀ a, a ∈ Z.δ.own → Z.F0 a = none ∧ Z.H0 a ≠ none) (b : Base K Z F H n) : Gr Z.δ Z.F0 Z.H0 F H :=
  ⟨b.gF, b.gN, b.gH, b.gI, fun a h => b.gD a h⟩
theorem vrs_get {K : PySem.W.Frag} {δ : DkS} {F H : Hp} : ∀ {as : List Dv} {vs : List V} {i : Nat} {x : Dv}, VRs K δ F H as vs → as[i]? = some x → ∃ v, vs[i]? = some v ∧ VR K δ F H x v
  | _, _, i, x, .nil, e => by simp at e
  | _, _, 0, x, .cons a b, e => by
    simp at e; subst e
    exact ⟨_, rfl, a⟩
  | _, _, i + 1, x, .cons a b, e => by
    obtain ⟨v, e1, e2⟩ := vrs_get (i := i) b (by simpa using e)
    exact ⟨v, by simpa using e1, e2⟩
theorem sr_start {K : PySem.W.Frag} {δ : DkS} {F H : Hp} {N : List Str} {as : List Dv} {vs : List V} {n : Wo} (w : VRs K δ F H as vs) (hs : Same F H) (hd : δ.at_ K F H n) (ho : ∀ a, a ∈ δ.own → F a = none ∧ H a ≠ none) : SR ⟨F, H, δ⟩ K ⟨F, H, δ⟩ F H (L2.start N vs) (startR N as) n := by
  have hl : as.length = vs.length := Paired.length w
  have get : ∀ (i : Nat) (x : Dv), (startR N as)[i]? = some (some x) → as[i]? = some x := fun i x e => by
    unfold startR at e
    by_cases hi : i < as.length
    · rw [List.getElem?_append_left (by simpa using hi), List.getElem?_map] at e
      cases q : as[i]? with
      | none => rw [q] at e; cases e
      | some y => rw [q] at e; cases e; rfl
    · rw [List.getElem?_append_right (by simpa using hi), List.getElem?_replicate] at e
      split at e <;> cases e
  refine ⟨⟨hs, hd, ho, Same.refl _, fun _ _ h => h, fun _ _ _ h _ => h, fun _ _ _ _ h => ⟨_, h⟩⟩, rfl, rfl, Gr.refl, by unfold L2.start startR; simp [hl], fun i x e => ?_, fun i j a ds y _ e _ _ _ _ => ?_⟩
  · obtain ⟨v, e1, e2⟩ := vrs_get w (get i x e)
    refine ⟨v, ?_, ?_⟩
    · unfold L2.start
      have hi : i < vs.length := (List.getElem?_eq_some_iff.mp e1).1
      rw [List.getElem?_append_left (by simpa using hi), List.getElem?_map, e1]; rfl
    · cases x with
      | mt ds => exact e2.elim
      | dat d => exact e2
      | vw ds => exact e2
      | deck _ => exact e2
      | md _ _ => exact e2.elim
  · obtain ⟨v, e1, e2⟩ := vrs_get w (get i _ e)
    exact e2.elim
/-- THE RULE for a def: its body over data -/
theorem fnd {P : Program} {w : World} {K : PySem.W.Frag} {mg : Str → Option Value} {base : Heap} {x qual : Str} {st : Stmt} {f : Addr} {fd : FuncData} {N ps : List Str} {k : Nat} (c : DSpec) (F : Fun K x qual st f fd) (S : FnScope N ps (defScope st))
    (hb : ∀ (cdv : Value) (A : Around) (outer : List Env) (s : Shared) (H : Hp), A.guards = some [] → Room k (A.deeper (envOfC qual (defScope st) s.heap.objs.size f cdv)) → ∀ Y : Fx,
      ∃ t, DSs Y (cxOf CX0 P w K mg base N qual (defScope st) f cdv A outer s H E0).nox (defBody st) t ∧ ∀ as n R, as.length = ps.length → c as n R → t { nx := fun _ n' => R .none n', rt := R } (startR N as) n) : FnG P w K mg base (k + 1) f fd ps (spD K ps.length c) := by
  refine fng_of F S (fun vs H Q E ⟨δ, Fz, as, n, R, hl, w1, _⟩ => by rw [← Paired.length w1]; exact hl) fun cdv A outer s H vs Q hgd hr ⟨δ, Fz, as, n, R, hl, w1, s1, d1, o1, hc, hk⟩ => ?_
  obtain ⟨t, h1, h2⟩ := hb cdv A outer s H hgd hr ⟨Fz, H, δ⟩
  refine ⟨_, h1, ⟨Fz, H, δ⟩, Fz, startR N as, n, _, sr_start w1 s1 d1 o1, h2 as n R hl hc, ⟨fun F' H' σ' ρ' n' q r' => hk _ _ _ _ _ q (Base.gr o1 r'.b) r'.b.sub r'.b.dk (by simp [Rp]), fun d n' F' H' v q b q2 => hk _ _ _ _ _ q (Base.gr o1 b) b.sub b.dk q2, fun _ _ _ _ _ q _ => q.elim, fun _ _ _ _ _ q _ => q.elim⟩⟩
end DL
namespace DL
open PySem PySem.Spec PyProof.Rows L2
variable {X : Cx} {Y : Fx}
mutual
def sz : PyData → Nat
  | .none => 4
  | .bool _ => 5
  | .int i => i.natAbs.log2 + 4
  | .str s => 10 * s.length + 2
  | .list ds => szs ds + 3
  | .tuple ds => szs ds + 3
  | .dict kvs => szk kvs + 3
def szs : List PyData → Nat
  | [] => 0
  | d :: ds => sz d + 2 + szs ds
def szk : List (PyData × PyData) → Nat
  | [] => 0
  | (a, b) :: r => sz a + sz b + 4 + szk r
end
/-- what may be shown and compared -/
structure Tame (m k : Nat) (d : PyData) : Prop where
  sh : d.showable = true
  cl : d.canLay0 = true
  dp : d.depth ≤ k
  le : sz d ≤ m
theorem Tame.mono {m k m' k' : Nat} {d : PyData} (h : Tame m k d) (h1 : m ≤ m') (h2 : k ≤ k') : Tame m' k' d := ⟨h.sh, h.cl, Nat.le_trans h.dp h2, Nat.le_trans h.le h1⟩
theorem Tame.shaped {m k : Nat} {d : PyData} (h : Tame m k d) (hk : k ≤ 64) : Sh d := by
  unfold Sh SeqAt.shaped
  rw [Bool.and_eq_true]
  exact ⟨h.cl, decide_eq_true (Nat.le_trans h.dp hk)⟩
theorem canAll {ds : List PyData} (h : ∀ d ∈ ds, d.canLay0 = true) : PyData.canLayAll0 ds = true := by
  induction ds with
  | nil => rfl
  | cons d ds ih => simp only [PyData.canLayAll0, Bool.and_eq_true]; exact ⟨h d (by simp), ih fun e he => h e (by simp [he])⟩
theorem depthAll_le {k : Nat} {ds : List PyData} (h : ∀ d ∈ ds, d.depth ≤ k) : PyData.depthAll ds ≤ k := by
  induction ds with
  | nil => exact Nat.zero_le _
  | cons d ds ih => simp only [PyData.depthAll]; exact Nat.max_le.mpr ⟨h d (by simp), ih fun e he => h e (by simp [he])⟩
theorem Rp.reads {pins : List (Addr × Obj)} {σ : L2.St} {H : Hp} {s : Shared} (I : Inv X pins σ H s) {d : PyData} {v : V} {u : Value} (c : d.canLay0 = true) (h : Rp X.K H d v) (r : RelV v u) : ∃ as, Reads s.heap u d as := Dp.reads I d v u (Rp.dp d v c h) r
end DL
namespace DL
open PySem PySem.Spec PyProof.Rows L2
variable {X : Cx} {Y : Fx}
section
variable {prog : Program} {w : World} {A : Around} {E : Value → Shared → Prop} {s : Shared} {l : Addr} {its : List Value} {ns : List Int} {xs : Array (Int × Tok)} {Q : Value → Shared → Prop}
theorem iter_tupI {Q : Value → Shared → Prop} (hl : s.heap.IsTuple l (intItems xs))
    (h : ∀ s₂ : Shared, s₂ = { s with heap := s.heap.push { cls := .type "tuple_iterator", data := .fields #[.ref l, .int 0 0] } } →
      (s₂.heap.IsTupleIter s.heap.objs.size l 0 ∧ s₂.heap.IsTuple l (intItems xs)) → (∀ b ∈ [s.heap.objs.size, l], b < s₂.heap.objs.size) → l ≠ s.heap.objs.size → Q (.ref s.heap.objs.size) s₂) :
    wpAny (model prog w) A (pyIter (.ref l)) Q E s := by
  obtain ⟨o, e1, e2⟩ := id hl
  have hlt : l < s.heap.objs.size := Heap.lt_size e1
  refine wpAny_pyIter_tuple hl (h _ rfl ⟨⟨_, Heap.get?_push_size _ rfl, rfl, rfl⟩, ⟨o, Heap.get?_push_of_some _ e1, e2⟩⟩ (fun b hb => ?_) (Nat.ne_of_lt hlt))
  have hsz : ∀ (o : Obj), (s.heap.push o).objs.size = s.heap.objs.size + 1 := fun o => Heap.size_push _ _
  rw [hsz]
  rcases List.mem_cons.mp hb with e | hb
  · rw [e]; exact Nat.lt_succ_self _
  · rw [List.mem_singleton.mp hb]; exact Nat.lt_succ_of_lt hlt
theorem kept_tup {h' : Heap} (hk : ∀ b o, b ∉ [s.heap.objs.size] → (s.heap.push { cls := .type "tuple_iterator", data := .fields #[.ref l, .int 0 0] }).get? b = some o → h'.get? b = some o) :
    ∀ b o, s.heap.get? b = some o → h'.get? b = some o := fun b o e => by
  refine hk b o (fun hm => ?_) (Heap.get?_push_of_some _ e)
  have q := Heap.lt_size e
  rw [List.mem_singleton.mp hm] at q
  exact absurd q (Nat.lt_irrefl _)
theorem sum_tupI (hh : A.handled = none) (hl : s.heap.IsTuple l its.toArray) (hi : IntsAre its ns)
    (h : ∀ h' tk t', (∀ b o, s.heap.get? b = some o → h'.get? b = some o) → Q (.int ns.sum t') { s with heap := h', toks := tk }) : wpAny (model prog w) A (call (.builtin "sum") [.ref l]) Q E s := by
  obtain ⟨xs, e⟩ := hi.allInts.items
  have hn : numsOf (intItems xs).toList = ns := by rw [← e]; exact hi.numsOf
  rw [nums_intItems] at hn
  rw [e] at hl
  refine call_sum_walkG (iter_tupI hl fun s₂ e st hfp hlI => ?_)
  subst e
  refine ⟨_, _, _, _, _, _, numAt xs, rfl, Walks.tuple (A := A.in1) hh _ l hlI (intItems xs), st, hfp, (fun _ _ => intItems_at), fun h' tk t' hk => ?_⟩
  have q := h h' tk t' (kept_tup hk)
  have e2 : preSum (numAt xs) xs.size = ns.sum := by rw [preSum_eq, List.take_of_length_le (by simp), hn]
  rw [← e2] at q
  simpa [intItems] using q
theorem max_tupI (hh : A.handled = none) (hl : s.heap.IsTuple l its.toArray) (hi : IntsAre its ns) (hne : 0 < ns.length)
    (h : ∀ h' tk M t', (∀ b o, s.heap.get? b = some o → h'.get? b = some o) → M ∈ ns → (∀ a, a ∈ ns → a ≤ M) → Q (.int M t') { s with heap := h', toks := tk }) : wpAny (model prog w) A (call (.builtin "max") [.ref l]) Q E s := by
  obtain ⟨xs, e⟩ := hi.allInts.items
  have hn : numsOf (intItems xs).toList = ns := by rw [← e]; exact hi.numsOf
  rw [nums_intItems] at hn
  subst hn
  rw [e] at hl
  have hsz : 0 < xs.size := by simpa using hne
  refine call_max_walk (iter_tupI hl fun s₂ e st hfp hlI => ?_)
  subst e
  refine ⟨_, _, _, _, _, _, _, rfl, Walks.tuple (A := A.in1) hh _ l hlI (intItems xs), st, hfp, by simpa [intItems] using hsz, CmpOf.ints_gt (numAt xs) (fun _ _ => intItems_at), fun v h' tk hP hk => ?_⟩
  have hv : (intItems xs)[argBest (fun i j => decide (numAt xs i > numAt xs j)) (xs.size - 1)]? = some v := by simpa [intItems] using hP
  obtain ⟨t, rfl⟩ := intItems_at hv
  obtain ⟨h1, h2⟩ := argBest_gt (numAt xs) (xs.size - 1)
  refine h h' tk _ t (kept_tup hk) ?_ fun a ha => ?_
  · rw [numAt_eq]; exact PySem.getD_mem (by rw [List.length_map, Array.length_toList]; omega)
  · obtain ⟨j, hj, rfl⟩ := mem_getD ha
    rw [List.length_map, Array.length_toList] at hj
    rw [← numAt_eq]; exact h2 j (by omega)
theorem min_tupI (hh : A.handled = none) (hl : s.heap.IsTuple l its.toArray) (hi : IntsAre its ns) (hne : 0 < ns.length)
    (h : ∀ h' tk M t', (∀ b o, s.heap.get? b = some o → h'.get? b = some o) → M ∈ ns → (∀ a, a ∈ ns → M ≤ a) → Q (.int M t') { s with heap := h', toks := tk }) : wpAny (model prog w) A (call (.builtin "min") [.ref l]) Q E s := by
  obtain ⟨xs, e⟩ := hi.allInts.items
  have hn : numsOf (intItems xs).toList = ns := by rw [← e]; exact hi.numsOf
  rw [nums_intItems] at hn
  subst hn
  rw [e] at hl
  have hsz : 0 < xs.size := by simpa using hne
  refine call_min_walk (iter_tupI hl fun s₂ e st hfp hlI => ?_)
  subst e
  refine ⟨_, _, _, _, _, _, _, rfl, Walks.tuple (A := A.in1) hh _ l hlI (intItems xs), st, hfp, by simpa [intItems] using hsz, CmpOf.ints_lt (numAt xs) (fun _ _ => intItems_at), fun v h' tk hP hk => ?_⟩
  have hv : (intItems xs)[argBest (fun i j => decide (numAt xs i < numAt xs j)) (xs.size - 1)]? = some v := by simpa [intItems] using hP
  obtain ⟨t, rfl⟩ := intItems_at hv
  obtain ⟨h1, h2⟩ := argBest_lt (numAt xs) (xs.size - 1)
  refine h h' tk _ t (kept_tup hk) ?_ fun a ha => ?_
  · rw [numAt_eq]; exact PySem.getD_mem (by rw [List.length_map, Array.length_toList]; omega)
  · obtain ⟨j, hj, rfl⟩ := mem_getD ha
    rw [List.length_map, Array.length_toList] at hj
    rw [← numAt_eq]; exact h2 j (by omega)
end
section
def rSumA (H : Hp) (vs : List V) (Q : VK) : Prop := ∃ (a : Addr) (ns : List Int), vs = [V.ref a] ∧ (H a = some (.lst (ns.map V.int)) ∨ Rd H a (.tup (ns.map V.int))) ∧ Q (.int ns.sum) H
theorem call_sumA (hc : X.calm = true) : CallR X (.builtin "sum") (fun vs H Q => rSumA H vs Q) := by
  intro pins s σ H vs us Q I r ⟨a, ns, e, hs, q⟩
  subst e
  rw [Vals.ref1 r]
  rcases hs with hs | hs
  · obtain ⟨its, rv, hl, _⟩ := I.list (SqL.of hs)
    exact sum_raw (I.ok.hd hc) hl.isList rv.ints fun h' tk t' hk => ⟨.int _, H, I.kept hk, ⟨_, rfl⟩, q⟩
  · obtain ⟨its, rv, hl, _⟩ := I.tuple (sqtR hs)
    exact sum_tupI (I.ok.hd hc) (show s.heap.IsTuple a its.toArray from hl) rv.ints fun h' tk t' hk => ⟨.int _, H, I.kept hk, ⟨_, rfl⟩, q⟩
def rBest (ge : Int → Int → Prop) (H : Hp) (vs : List V) (Q : VK) : Prop := ∃ (a : Addr) (ns : List Int), vs = [V.ref a] ∧ (H a = some (.lst (ns.map V.int)) ∨ Rd H a (.tup (ns.map V.int))) ∧ 0 < ns.length ∧ ∀ m, m ∈ ns → (∀ y, y ∈ ns → ge m y) → Q (.int m) H
def rMax2 (H : Hp) (vs : List V) (Q : VK) : Prop := (∃ i j, vs = [V.int i, V.int j] ∧ Q (.int (if j > i then j else i)) H) ∨ rBest (fun m y => y ≤ m) H vs Q
def rMin2 (H : Hp) (vs : List V) (Q : VK) : Prop := (∃ i j, vs = [V.int i, V.int j] ∧ Q (.int (if j < i then j else i)) H) ∨ rBest (fun m y => m ≤ y) H vs Q
theorem call_maxA (hc : X.calm = true) : CallR X (.builtin "max") (fun vs H Q => rMax2 H vs Q) := by
  refine CallR.or (call_max2 hc) ?_
  intro pins s σ H vs us Q I r ⟨a, ns, e, hs, hne, q⟩
  subst e
  rw [Vals.ref1 r]
  rcases hs with hs | hs
  · obtain ⟨its, rv, hl, _⟩ := I.list (SqL.of hs)
    exact max_raw (I.ok.hd hc) hl.isList rv.ints hne fun h' tk m t' hk h1 h2 => ⟨.int _, H, I.kept hk, ⟨_, rfl⟩, q m h1 h2⟩
  · obtain ⟨its, rv, hl, _⟩ := I.tuple (sqtR hs)
    exact max_tupI (I.ok.hd hc) (show s.heap.IsTuple a its.toArray from hl) rv.ints hne fun h' tk m t' hk h1 h2 => ⟨.int _, H, I.kept hk, ⟨_, rfl⟩, q m h1 h2⟩
theorem call_minA (hc : X.calm = true) : CallR X (.builtin "min") (fun vs H Q => rMin2 H vs Q) := by
  refine CallR.or (call_min2 hc) ?_
  intro pins s σ H vs us Q I r ⟨a, ns, e, hs, hne, q⟩
  subst e
  rw [Vals.ref1 r]
  rcases hs with hs | hs
  · obtain ⟨its, rv, hl, _⟩ := I.list (SqL.of hs)
    exact min_raw (I.ok.hd hc) hl.isList rv.ints hne fun h' tk m t' hk h1 h2 => ⟨.int _, H, I.kept hk, ⟨_, rfl⟩, q m h1 h2⟩
  · obtain ⟨its, rv, hl, _⟩ := I.tuple (sqtR hs)
    exact min_tupI (I.ok.hd hc) (show s.heap.IsTuple a its.toArray from hl) rv.ints hne fun h' tk m t' hk h1 h2 => ⟨.int _, H, I.kept hk, ⟨_, rfl⟩, q m h1 h2⟩
variable {K : PySem.W.Frag}
theorem seq_ints {δ : DkS} {F H : Hp} {x : Dv} {v : V} {ns : List Int} (hs : Same F H) (h : VR K δ F H x v) (e : seqD x.toD = some (ns.map .int)) : ∃ a, v = .ref a ∧ (H a = some (.lst (ns.map V.int)) ∨ Rd H a (.tup (ns.map V.int))) := by
  obtain ⟨a, us, rfl, h2, h3⟩ := h.seq hs e
  rw [h3.ints] at h2
  exact ⟨a, rfl, h2⟩
theorem ck_sum : CallOk K (fun vs H Q => rSumA H vs Q) oSum := fun δ F H xs vs R Q hs hv ⟨x, ns, e, e2, hr⟩ b => by
  subst e
  obtain ⟨v, rfl, h1⟩ := vr1 hv
  obtain ⟨a, rfl, h2⟩ := seq_ints hs h1 e2
  exact ⟨a, ns, rfl, h2, b.int hs hr⟩
def oMax : DC := fun xs R => match xs with
  | [.dat (.int i), .dat (.int j)] => R (.int (if j > i then j else i))
  | [x] => ∃ ns : List Int, seqD x.toD = some (ns.map .int) ∧ 0 < ns.length ∧ ∀ m, m ∈ ns → (∀ y, y ∈ ns → y ≤ m) → R (.int m)
  | _ => False
def oMin : DC := fun xs R => match xs with
  | [.dat (.int i), .dat (.int j)] => R (.int (if j < i then j else i))
  | [x] => ∃ ns : List Int, seqD x.toD = some (ns.map .int) ∧ 0 < ns.length ∧ ∀ m, m ∈ ns → (∀ y, y ∈ ns → m ≤ y) → R (.int m)
  | _ => False
theorem ck_max : CallOk K (fun vs H Q => rMax2 H vs Q) oMax := fun δ F H xs vs R Q hs hv h b => by
  unfold oMax at h
  split at h
  · exact .inl ⟨_, _, vrs2 hv, b.int hs h⟩
  · obtain ⟨ns, e2, hne, hr⟩ := h
    obtain ⟨v, rfl, h1⟩ := vr1 hv
    obtain ⟨a, rfl, h2⟩ := seq_ints hs h1 e2
    exact .inr ⟨a, ns, rfl, h2, hne, fun m k1 k2 => b.int hs (hr m k1 k2)⟩
  · exact h.elim
theorem ck_min : CallOk K (fun vs H Q => rMin2 H vs Q) oMin := fun δ F H xs vs R Q hs hv h b => by
  unfold oMin at h
  split at h
  · exact .inl ⟨_, _, vrs2 hv, b.int hs h⟩
  · obtain ⟨ns, e2, hne, hr⟩ := h
    obtain ⟨v, rfl, h1⟩ := vr1 hv
    obtain ⟨a, rfl, h2⟩ := seq_ints hs h1 e2
    exact .inr ⟨a, ns, rfl, h2, hne, fun m k1 k2 => b.int hs (hr m k1 k2)⟩
  · exact h.elim
end
def oEqA (neg : Bool) : D2 := fun x y R =>
  match x.toD, y.toD with
  | .str s, .str t => R (.bool (if neg then !decide (s = t) else decide (s = t)))
  | d, e => x.isDk = false ∧ y.isDk = false ∧ Sh d ∧ Sh e ∧ R (.bool (if neg then !PyData.eqv d e else PyData.eqv d e))
theorem or_eqA (hu : X.A.units + 64 < cLine) : OpR X (compareOp .Eq) (fun x y H Q => rEqD X.K x y H Q ∨ rEq x y H Q) := OpR.or (op_eqD hu) op_eq
theorem or_neA (hu : X.A.units + 64 < cLine) : OpR X (compareOp .NotEq) (fun x y H Q => rNeD X.K x y H Q ∨ rNe x y H Q) := OpR.or (op_neD hu) op_ne
section
variable {K : PySem.W.Frag}
theorem VR.str {δ : DkS} {F H : Hp} {x : Dv} {v : V} {s : Str} (hs : Same F H) (h : VR K δ F H x v) (e : x.toD = .str s) : v = .str s := by
  have r := h.rp hs (notDeck_of e nofun)
  rw [e] at r
  simpa only [Rp] using r
theorem bi_eqA : BinOk K (fun x y H Q => rEqD K x y H Q ∨ rEq x y H Q) (oEqA false) := fun δ F H x y v u R Q hs hx hy h b => by
  unfold oEqA at h
  split at h
  · rename_i s t e1 e2
    have r1 := hx.str hs e1; have r2 := hy.str hs e2
    subst r1 r2
    refine .inr ⟨rfl, b.bl hs ?_⟩
    have e : decide (V.str s = V.str t) = decide (s = t) := by
      by_cases q : s = t
      · subst q; simp
      · rw [decide_eq_false q, decide_eq_false fun z => q (V.str.inj z)]
    rw [e]; exact h
  · exact .inl (bi_eq δ F H x y v u R Q hs hx hy h b)
theorem bi_neA : BinOk K (fun x y H Q => rNeD K x y H Q ∨ rNe x y H Q) (oEqA true) := fun δ F H x y v u R Q hs hx hy h b => by
  unfold oEqA at h
  split at h
  · rename_i s t e1 e2
    have r1 := hx.str hs e1; have r2 := hy.str hs e2
    subst r1 r2
    refine .inr ⟨rfl, b.bl hs ?_⟩
    have e : decide (V.str s = V.str t) = decide (s = t) := by
      by_cases q : s = t
      · subst q; simp
      · rw [decide_eq_false q, decide_eq_false fun z => q (V.str.inj z)]
    rw [e]; exact h
  · exact .inl (bi_ne δ F H x y v u R Q hs hx hy h b)
theorem or_mulA : OpR X (binaryOp .Mult) (fun x y H Q => rI CMul (fun i j => .int (i * j)) x y H Q ∨ rRep x y H Q) := OpR.or op_mul op_rep
theorem bi_mul : BinOk K (fun x y H Q => rI CMul (fun i j => .int (i * j)) x y H Q ∨ rRep x y H Q) oMul := fun δ F H x y v u R Q hs hx hy h b => by
  unfold oMul at h
  split at h
  · rename_i i j e1 e2
    have r1 := hx.rp hs (notDeck_of e1 nofun); have r2 := hy.rp hs (notDeck_of e2 nofun)
    rw [e1] at r1; rw [e2] at r2
    simp only [Rp] at r1 r2
    exact .inl ⟨i, j, r1, r2, h.1, b.int hs h.2⟩
  · rename_i xs k e1 e2
    have r2 := hy.rp hs (notDeck_of e2 nofun)
    rw [e2] at r2
    simp only [Rp] at r2
    obtain ⟨a, l, rfl, h1, h2⟩ := hx.lst hs e1
    obtain ⟨k1, k2, k3, hr⟩ := h
    refine .inr ⟨a, k, l, rfl, r2, h1, k1, k2, by rw [← h2.length]; exact k3, ?_⟩
    have rep : ∀ m : Nat, Rps K F (List.replicate m xs).flatten (List.replicate m l).flatten := fun m => by
      induction m with
      | zero => exact rps_nil
      | succ m ih => rw [List.replicate_succ, List.replicate_succ, List.flatten_cons, List.flatten_cons]; exact h2.append ih
    exact fun p hp => b.lst hs hr (rep k.toNat) hp
  · exact h.elim
end
end DL
namespace DL
open PySem PySem.Spec PyProof.Rows L2
/-- at the law's entry only the script may be tracked, as a thing that nobody writes -/
def entryH (K : PySem.W.Frag) (a : Addr) (o : Obj) (vs : List V) : Hp := fun b => if b = a ∧ K.lookup a = none then some (.frz o (.lst vs)) else none
theorem entry_some {K : PySem.W.Frag} {a b : Addr} {o : Obj} {vs : List V} {u : HO} (h : entryH K a o vs b = some u) : b = a ∧ K.lookup a = none ∧ u = .frz o (.lst vs) := by
  unfold entryH at h
  by_cases q : b = a ∧ K.lookup a = none
  · rw [if_pos q] at h; cases h; exact ⟨q.1, q.2, rfl⟩
  · rw [if_neg q] at h; cases h
theorem entry_none {K : PySem.W.Frag} {a b : Addr} {o : Obj} {vs : List V} (h : b ≠ a) : entryH K a o vs b = none := if_neg fun q => h q.1
def spLaw (K : PySem.W.Frag) : Sp := fun vs H Q _ => ∃ (a : Addr) (ns : List Int), vs = [.ref a] ∧ SqL K H a (ns.map V.int) ∧ ns.length ≤ 63 ∧ (∀ b, H b = none ∨ ∃ o xs, H b = some (.frz o (.lst xs))) ∧ ∀ H', Q (.bl true) H'
theorem law_g {P : Program} {w : World} {K : PySem.W.Frag} {mg mb : Str → Option Value} {k : Nat} {fa a : Addr} {fd : FuncData} {x : Str} {s₁ : Shared} {vs : List Value} {ns : List Int}
    (KX : K.In s₁.heap) (hns : s₁.heap.Ns mainGlobals mg) (hb : s₁.heap.Ns builtinsNs mb) (hbb : ∀ x : Str, x ≠ "__name__" → mb x = bootBuiltins x) (hlim : s₁.heap.NoLimit) (hg : s₁.gens = #[])
    (ha : s₁.heap.get? a = some { cls := .type "list", data := .seq vs.toArray }) (hi : IntsAre vs ns) (hl : ns.length ≤ 63) (hr : Room k callerA)
    (F : ∀ base : Heap, K.In base → base.Ns mainGlobals mg → FnG P w K mg base k fa fd [x] (spLaw K)) (hbind : ∀ (s : Shared) (u : Value), BindsTo s fd ⟨[u], []⟩ [(x, u)]) :
    codeAny (model P w) callerA (.call (.ref fa) ⟨[.ref a], []⟩) (fun r s' => r = .ok (.ret (.bool true)) ∧ PySem.OldK s₁.heap s'.heap ∧ s'.os = s₁.os ∧ AllBare s'.gens) s₁ := by
  let ob : Obj := { cls := .type "list", data := .seq vs.toArray }
  let H := entryH K a ob (ns.map V.int)
  have rv := vals_ints hi
  have hl2 : ns.length ≤ sizeLine := Nat.le_trans hl (by decide)
  have only : ∀ b, H b = none ∨ ∃ o xs, H b = some (.frz o (.lst xs)) := fun b => by
    cases q : H b with
    | none => exact .inl rfl
    | some u => obtain ⟨_, _, rfl⟩ := entry_some q; exact .inr ⟨_, _, rfl⟩
  have script : SqL K H a (ns.map V.int) := by
    cases q : K.lookup a with
    | none => exact .inl (.inr ⟨ob, if_pos ⟨rfl, q⟩⟩)
    | some o =>
      have e := KX a o q
      rw [ha] at e
      cases e
      exact .inr ⟨_, vs.toArray, _, q, rfl, rfl, rfl, by rw [List.size_toArray, hi.length]; exact hl2, by simpa using rv⟩
  have hok : HOk P w H s₁.heap := fun b u q => by
    obtain ⟨rfl, _, rfl⟩ := entry_some q
    exact ⟨ha, by rw [List.length_map]; exact hl2, vs, _, rv, ha⟩
  have keepB : ∀ {b : Addr} {o : Obj}, s₁.heap.get? b = some o → H b = none → (hidT s₁.heap H).get? b = some o := fun e n => hidT_get e n
  have keepN : ∀ {b : Addr} {m : Str → Option Value}, s₁.heap.Ns b m → (hidT s₁.heap H).Ns b m := fun {b m} ⟨o, es, ep, e, d, r⟩ => by
    refine ⟨o, es, ep, keepB e (entry_none fun q => ?_), d, r⟩
    subst q
    rw [ha] at e; cases e; cases d
  have keepK : K.In (hidT s₁.heap H) := fun b o e => keepB (KX b o e) (by
    cases q : H b with
    | none => rfl
    | some u =>
      obtain ⟨rfl, q2, _⟩ := entry_some q
      rw [q2] at e; cases e)
  have lim2 : (hidT s₁.heap H).NoLimit := by
    obtain ⟨mc, h1, h2⟩ := hlim
    exact ⟨mc, keepN h1, h2⟩
  have e0 : Env0 P w K mg (hidT s₁.heap H) callerA [] s₁ H := by
    refine ⟨rfl, ⟨keepK, keepN hns, ⟨mb, keepN hb, hbb⟩, lim2⟩, fun b o e => of_hidT e, Nat.le_of_eq (hidT_size _ _), trivial, fun b hm => ?_, hok, .of_eq hg⟩
    exact absurd (show b ∈ ([] : List Addr) from hm) (by simp)
  have run := (F _ keepK (keepN hns)).run callerA [] s₁ H ⟨[.ref a], []⟩ [.ref a] [.ref a] (fun v _ => v = .bl true) rfl hr e0 (hbind s₁ (.ref a)) (.cons rfl .nil) ⟨a, ns, rfl, script, hl, only, fun _ => rfl⟩
  refine codeAny_mono run fun r s' h => ?_
  match r, h with
  | .ok (.ret u), ⟨v, H', os, bare, un, hok', r', q⟩ =>
    have q' : v = .bl true := q
    subst q'
    obtain rfl : u = Value.bool true := r'
    refine ⟨rfl, PySem.OldK.of_keep fun b o e => ?_, os, bare⟩
    cases q : H b with
    | none => exact un.keep b o e q (fun z => absurd (show b ∈ ([] : List Addr) from z) (by simp)) (by simp)
    | some u =>
      obtain ⟨rfl, _, rfl⟩ := entry_some q
      have e2 := (hok' b _ (un.frzs b _ _ q)).1
      rw [ha] at e; cases e
      exact e2
/-- the goal that the head leaves -/
theorem walk_g {l : PySem.W.OpenLaw} {k : Nat} {q : Program} {loose : List Str} {XP : (Str → Option Value) → Heap → Prop} {YP : World → Heap → Prop} {d : DefRec} {K : Params → PySem.W.Frag} {x : Str}
    (hn : l.most = some 63) (hdf : d.params.defaults = []) (hr : Room k callerA) (hY : ∀ (w : World) (h : Heap), YP w h → (K w.params).In h)
    (F : ∀ (w : World) (mg : Str → Option Value) (fa : Addr) (h : Heap), (K w.params).In h → h.Ns mainGlobals mg → mg d.name = some (.ref fa) →
      ∃ fd : FuncData, (∀ (s : Shared) (u : Value), BindsTo s fd ⟨[u], []⟩ [(x, u)]) ∧ ∀ base : Heap, (K w.params).In base → base.Ns mainGlobals mg → FnG l.prog w (K w.params) mg base k fa fd [x] (spLaw (K w.params))) :
    PySem.W.WalkO q loose XP YP l.row.toRowW d [] (fun f vs => PySem.call f vs) :=
  Att.attach_call hn hdf fun w s₀ s₁ mg mb fa o pm cd doc a vs ns G Y ho hd hcd hmg hobj hints hlen hg => by
    have KX := hY w _ Y
    obtain ⟨fd, hb, hF⟩ := F w mg fa _ KX G.T.g hmg
    exact law_g KX G.T.g G.T.b G.T.builtins G.T.nolimit hg hobj hints hlen hr hF hb
end DL
namespace DL
open PySem PySem.Spec PyProof.Rows L2
variable {X : Cx} {Y : Fx}
def oNeg (x : Dv) (R : PyData → Prop) : Prop :=
  match x with
  | .dat (.int i) => R (.int (-i))
  | _ => False
theorem we_neg {a : Expr} {t : DTE} {pos : Pos} (ha : WE Y X a t) : WE Y X (.UnaryOp .USub a pos) (dUn oNeg t) :=
  pe_imp (pe_un un_neg ha) (one (r := fun x H1 Q => rU (fun i => .int (-i)) x H1 Q) fun δ F H x v R Q hs hx h b => by
    unfold oNeg at h
    split at h
    · simp only [VR, Rp] at hx
      exact ⟨_, hx, b.int hs h⟩
    · exact h.elim)
/-- a, b = e -/
def dAsgG (g : DTG) (t : DTE) : DTS := fun E ρ n => t ρ n fun x n' => needD x fun d => g d ρ fun ρ' => E.nx ρ' n'
theorem ds_asgG {tg e : Expr} {t : DTE} {tG : TG} {g : DTG} {sl : List Nat} {pos : Pos} (he : WE Y X e t) (hg : DG X tg tG g sl) (hs : swapsWithSole [tg] e pos.line X.env = pure false := by rfl) (hw : swappedStores [tg] e X.env = pure none := by rfl)
    (h1 : (assignEach [tg] X.env).map (·.2) = [assign tg X.env] := by rfl) : DS Y X (.Assign [tg] e pos) (dAsgG g t) :=
  ps_imp (ps_asg he hg.1 hs hw h1) fun D σ H ⟨Z, F, ρ, n, E, r, ht, k⟩ => ⟨Z, F, ρ, n, _, r, ht, fun x n1 F1 H1 v hx g1 s1 d1 w1 => by
    obtain ⟨d, rfl, hx⟩ := needD_is hx
    exact hg.2.im _ _ _ _ _ _ _ _ _ _ _ (r.step g1 s1 d1) w1 hx fun σ' ρ' h r' _ => k.nx _ _ _ _ _ h r'⟩
/-- a loop over a list or a tuple -/
theorem pi_seq {tg l : Expr} {tl : TE} (hl : PE X l tl) : PI X tg l (fun σ H R => tl σ H fun x H1 => ∃ a, x = .ref a ∧ ((∃ xs, H1 a = some (.lst xs) ∧ R (Itl X.K a) H1) ∨ ∃ xs, Rd H1 a (.tup xs) ∧ R (Itt X.K a) H1)) :=
  ⟨fun pins s σ H R I h => thn (hl.run pins s σ H _ I h) fun v s1 ⟨x, H1, I1, r1, a, e, q⟩ => by
    subst e
    cases r1
    have fresh : ∀ b ∈ [s1.heap.objs.size], FpOk X pins H1 b := fun b hb => by
      rw [List.mem_singleton.mp hb]
      exact I1.fpOk (Nat.le_refl _) (I1.hok.fresh (Nat.le_refl _))
    rcases q with ⟨xs, hq, q⟩ | ⟨xs, hq, q⟩
    · obtain ⟨its, rv, p, hz⟩ := I1.list (SqL.of hq)
      exact wpAny_pyIter_list p.isList ⟨_, [s1.heap.objs.size], _, _, H1, rfl, I1.kept (t' := s1.toks) fun b o e => Heap.get?_push_of_some _ e, turn_list a _, ⟨_, Heap.get?_push_size _ rfl, rfl, rfl⟩, fresh, q⟩
    · obtain ⟨its, rv, p, hz⟩ := I1.tuple (sqtR hq)
      exact wpAny_pyIter_tuple (show s1.heap.IsTuple a its.toArray from p) ⟨_, [s1.heap.objs.size], _, _, H1, rfl, I1.kept (t' := s1.toks) fun b o e => Heap.get?_push_of_some _ e, turn_tuple a _, ⟨_, Heap.get?_push_size _ rfl, rfl, rfl⟩, fresh, q⟩⟩
def dSrcS (t : DTE) : DSrc := fun ρ n R => t ρ n fun x n' => needD x fun d => ∃ ds, seqD d = some ds ∧ R ds n'
theorem di_seq {tg e : Expr} {t : DTE} (he : WE Y X e t) : DI Y X tg e (dSrcS t) := pi_imp (pi_seq he) fun σ H R ⟨Z, F, ρ, n, Q, r, ht, k⟩ =>
  ⟨Z, F, ρ, n, _, r, ht, fun x n1 F1 H1 v hx g1 s1 d1 w1 => by
    obtain ⟨d, rfl, hx⟩ := needD_is hx
    obtain ⟨ds, e, hx2⟩ : ∃ ds, seqD d = some ds ∧ _ := hx
    cases d with
    | list es =>
      cases e
      simp only [VR, Rp] at w1
      obtain ⟨a, vs, rfl, h1, h2⟩ := w1
      exact ⟨a, rfl, .inl ⟨vs, s1 _ _ h1, k _ _ _ _ _ hx2 g1 s1 d1 (itOk_list h1 h2)⟩⟩
    | tuple es =>
      cases e
      simp only [VR, Rp] at w1
      obtain ⟨a, vs, rfl, h1, h2⟩ := w1
      exact ⟨a, rfl, .inr ⟨vs, rdS s1 h1, k _ _ _ _ _ hx2 g1 s1 d1 (itOk_tup h1 h2)⟩⟩
    | _ => cases e⟩
/-- a, b = [..] through a pair -/
theorem ds_parT {i j : Nat} {x y : Str} {a b : Expr} {t u : DTE} {px py pt pos : Pos} {kt k2 pt2} (hc : X.calm = true) (hij : i ≠ j) (hp : PGs X [.Name x px, .Name y py] (gCons (gName i) (gCons (gName j) gNil))) (ha : XE Y X a t) (hb : XE Y X b u)
    (hw : swappedStores [.Tuple [.Name x px, .Name y py] kt pt] (.Tuple [a, b] k2 pt2) X.env = pure none)
    (hs : swapsWithSole [.Tuple [.Name x px, .Name y py] kt pt] (.Tuple [a, b] k2 pt2) pos.line X.env = pure false := by rfl)
    (hn : (assignEach [.Name x px, .Name y py] X.env).length = 2 := by rfl) (hst : (assignEach [.Name x px, .Name y py] X.env).findIdx? (·.1) = none := by rfl)
    (h0 : (assignEach [.Tuple [.Name x px, .Name y py] kt pt] X.env).map (·.2) = [assign (.Tuple [.Name x px, .Name y py] kt pt) X.env] := by rfl)
    (h1 : starEach [a, b] X.env = (false, eval a X.env) :: starEach [b] X.env := by rfl) (h2 : starEach [b] X.env = (false, eval b X.env) :: starEach [] X.env := by rfl) :
    DS Y X (.Assign [.Tuple [.Name x px, .Name y py] kt pt] (.Tuple [a, b] k2 pt2) pos) (dPar i j t u) :=
  ps_imp (ps_asg (pe_tup (xa_two ha hb h1 h2)) (pg_tup hc hp hn hst) hs hw h0) fun D σ H ⟨Z, F, ρ, n, E, r, ht, k⟩ =>
    ⟨Z, F, ρ, n, _, r, ht, fun x1 n1 F1 H1 v hx g1 s1 d1 w1 => ⟨Z, F1, ρ, n1, _, r.step g1 s1 d1, hx, fun y1 n2 F2 H2 w hy g2 s2 d2 w2 => by
      refine ⟨by show 2 ≤ sizeLine; decide, fun p hp => ⟨p, _, rfl, SqT.of upd_same, rfl, v, _, rfl, w, _, rfl, rfl, ?_⟩⟩
      have r2 := (r.step g1 s1 d1).step g2 s2 d2
      obtain ⟨g3, s3⟩ := Gp.newM (o := .tup [v, w]) hp s2
      have R2 := par_set hij r (r.step g1 s1 d1) r2 g2 w1 w2
      exact k.nx _ _ _ _ _ hy (R2.step g3.gr s3 (g3.dk r2.b))⟩⟩
def Has (P : Program) (w : World) (K : PySem.W.Frag) (mg : Str → Option Value) (base : Heap) (x : Str) (k : Nat) (ps : List Str) (c : DSpec) : Prop :=
  ∃ f fd, mg x = some (.ref f) ∧ PySem.W.keepIn K (.ref f) = true ∧ Binds K fd ps [] ∧ FnG P w K mg base k f fd ps (spD K ps.length c)
theorem we_has {k : Nat} {c : DSpec} {ps : List Str} {x : Str} {p pos : Pos} {e : Expr} {es : List Expr} {t : DTA} (h : Has X.prog X.w X.K X.mg X.base x k ps c) (hgd : X.A.guards = some []) (hr : Room k X.A) (hg : Gl X x)
    (ha : WA Y X (e :: es) t) (hdb : (x == ("__debug__" : Str)) = false := by decide) (he : starEach (e :: es) X.env = (false, eval e X.env) :: starEach es X.env := by rfl) (hpl : (backTo pos (starEach es X.env)).any (·.1) = false := by rfl) :
    WE Y X (.Call (.Name x p) (e :: es) [] pos) (dFn ps.length c t) := by
  obtain ⟨f, fd, h1, h2, h3, h4⟩ := h
  exact we_fn h4 hgd hr hg h1 h2 h3 ha hdb he hpl
theorem compR_fm {α : Type} (xs : List α) (enc : α → PyData) (p : α → Bool) (f : α → PyData) {n : Wo} {step : CStep} {R : List PyData → Wo → Prop} (hz : xs.length < sizeLine)
    (h : ∀ x ∈ xs, ∀ acc K, acc.length < sizeLine → K (if p x = true then acc ++ [f x] else acc) n → step (enc x) acc n K) (hR : R ((xs.filter p).map f) n) : CompR (xs.map enc) n step R := by
  refine ⟨fun k acc m => m = n ∧ acc = ((xs.take k).filter p).map f, ⟨rfl, rfl⟩, ?_, ?_⟩
  · rintro k x acc m hx ⟨rfl, rfl⟩
    rw [List.getElem?_map] at hx
    obtain ⟨z, hz2, rfl⟩ := Option.map_eq_some_iff.mp hx
    have hk : k < xs.length := (List.getElem?_eq_some_iff.mp hz2).1
    refine h z (List.mem_of_getElem? hz2) _ _ ?_ ⟨rfl, ?_⟩
    · rw [List.length_map]
      have := List.length_filter_le p (xs.take k)
      rw [List.length_take] at this
      omega
    · have e : xs.take (k + 1) = xs.take k ++ [z] := by
        rw [List.take_add_one, hz2]; rfl
      rw [e, List.filter_append, List.map_append]
      cases q : p z <;> simp [q]
  · rintro acc m ⟨rfl, rfl⟩
    rw [List.length_map, List.take_length]
    exact hR
/-- .. with draws within: each item as P says, the deck d draws further a turn -/
theorem compR_dr {m : Nat} (xs : List PyData) (P : PyData → Prop) (d : Nat) {n : Wo} {step : CStep} {R : List PyData → Wo → Prop} (hl : xs.length = m) (hz : m < sizeLine)
    (h : ∀ (k : Nat) x, xs[k]? = some x → k < m → ∀ acc K, acc.length = k → (∀ y, P y → K (acc ++ [y]) (n + (k + 1) * d)) → step x acc (n + k * d) K) (hR : ∀ ys, ys.length = m → (∀ y ∈ ys, P y) → R ys (n + m * d)) : CompR xs n step R := by
  refine ⟨fun k acc q => q = n + k * d ∧ acc.length = k ∧ ∀ y ∈ acc, P y, ⟨Wo.add0 n d, rfl, fun _ hy => (nomatch hy)⟩, ?_, ?_⟩
  · rintro k x acc q hx ⟨rfl, h1, h2⟩
    have hk : k < m := by rw [← hl]; exact (List.getElem?_eq_some_iff.mp hx).1
    refine h k x hx hk acc _ h1 fun y hy => ⟨rfl, by simp [h1], fun z hz => ?_⟩
    rcases List.mem_append.mp hz with q | q
    · exact h2 z q
    · rw [List.mem_singleton.mp q]; exact hy
  · rintro acc q ⟨rfl, h1, h2⟩
    rw [hl]
    exact hR acc (by rw [h1, hl]) h2
theorem forR_inv {xs : List PyData} {ρ : Rho} {n : Wo} {step : FStep} {Q : Rho → Wo → Prop} (I : Nat → Rho → Wo → Prop) (h0 : I 0 ρ n) (hs : ∀ (k : Nat) x ρ' n', xs[k]? = some x → I k ρ' n' → step x ρ' n' (I (k + 1))) (he : ∀ ρ' n', I xs.length ρ' n' → Q ρ' n') : ForR xs ρ n step Q := ⟨I, h0, hs, he⟩
end DL
namespace DL
open PySem PySem.Spec PyProof.Rows L2
variable {X : Cx} {Y : Fx}
theorem ite_imp {c A B A' B' : Prop} [Decidable c] (h1 : A → A') (h2 : B → B') (h : if c then A else B) : if c then A' else B' := by
  by_cases q : c
  · rw [if_pos q] at h ⊢; exact h1 h
  · rw [if_neg q] at h ⊢; exact h2 h
/-- a comprehension of a test and an element that change nothing -/
theorem compR_p {α : Type} (xs : List α) (enc : α → PyData) (p : α → Bool) (f : α → PyData) {n : Wo} {step : CStep} {R : List PyData → Wo → Prop} (hz : xs.length < sizeLine)
    (h : ∀ x ∈ xs, ∀ acc K, (if p x = true then acc.length < sizeLine ∧ K (acc ++ [f x]) n else K acc n) → step (enc x) acc n K) (hR : R ((xs.filter p).map f) n) : CompR (xs.map enc) n step R :=
  compR_fm xs enc p f hz (fun x hx acc K ha hK => h x hx acc K (by
    by_cases q : p x = true
    · rw [if_pos q] at hK ⊢; exact ⟨ha, hK⟩
    · rw [if_neg q] at hK ⊢; exact hK)) hR
theorem compR_m {α : Type} (xs : List α) (enc : α → PyData) (f : α → PyData) {n : Wo} {step : CStep} {R : List PyData → Wo → Prop} (hz : xs.length < sizeLine)
    (h : ∀ x ∈ xs, ∀ acc K, acc.length < sizeLine → K (acc ++ [f x]) n → step (enc x) acc n K) (hR : R (xs.map f) n) : CompR (xs.map enc) n step R :=
  compR_fm xs enc (fun _ => true) f hz (fun x hx acc K ha hK => h x hx acc K ha (by simpa using hK)) (by rwa [List.filter_eq_self.mpr (fun _ _ => rfl)])
theorem atI_mem {α : Type} {xs : List α} {i : Int} (h0 : 0 ≤ i) (h1 : i < xs.length) : ∃ d, atI xs i = some d ∧ d ∈ xs := by
  have hi : i.toNat < xs.length := by omega
  refine ⟨xs[i.toNat], ?_, List.getElem_mem _⟩
  unfold atI ixN
  rw [if_pos h0, if_pos h1]
  simp [hi]
theorem rngD_mem {lo : Int} {n : Nat} {k : Nat} {x : PyData} (h : (rngD lo n)[k]? = some x) : x = .int (lo + (k : Int)) ∧ k < n := rngD_get h
theorem line1000 {n : Nat} (h : n ≤ 1000) : n ≤ sizeLine := Nat.le_trans h (by decide)
def Wo.z : Wo := ⟨0, fun _ => none, fun _ => none⟩
theorem pss_any {α : Type} {X : Cx} {st : List Stmt} {t : α → TS} (h : ∀ a, PSs X st (t a)) : PSs X st (fun D σ H => ∃ a, t a D σ H) := ⟨fun p s σ H D I ⟨a, w⟩ => (h a).run p s σ H D I w⟩
section
variable {P : Program} {w : World} {K : PySem.W.Frag} {mg : Str → Option Value} {base : Heap}
theorem law_start {N : List Str} {kd : Bool} {st1 : Stmt} {rest : List Stmt} {sLaw : Stmt} {f : Addr} {fd : FuncData} {k m : Nat} {spD0 : PySem.W.Frag → Sp}
    (F : Fun K "law" "law" sLaw f fd) (S : FnScope N ["script"] (defScope sLaw)) (hbody : defBody sLaw = st1 :: rest) (hN : N.length = m + 2)
    (hsp : ∀ (a : Addr) (ns : List Int) (H : Hp) (Q : VK), SqL K H a (ns.map V.int) → ns.length ≤ 63 → (∀ (H' : Hp) (δ : DkS) (p : Addr), Same H H' → IsDk kd δ p → δ.at0 H' 0 → (∀ b, b ∈ δ.own → H' b ≠ none) → Q (.ref p) H') → spD0 K [.ref a] H Q E0)
    (h : ∀ (cdv : Value) (A : Around) (outer : List Env) (s : Shared) (H : Hp), A.guards = some [] → Room k (A.deeper (envOfC "law" (defScope sLaw) s.heap.objs.size f cdv)) →
      PS (cxOf CX0 P w K mg base N "law" (defScope sLaw) f cdv A outer s H E0).nox st1 (tAsg (fun σ H Q => tCons (tVar 0) tNil σ H fun vs H1 => spD0 K vs H1 Q E0) (gName 1)) ∧
      ∀ Y : Fx, ∃ t, DSs Y (cxOf CX0 P w K mg base N "law" (defScope sLaw) f cdv A outer s H E0).nox rest t ∧ t { nx := fun _ _ => False, rt := fun d _ => d = .bool true } (none :: some (.deck kd) :: List.replicate m none) Wo.z) :
    FnG P w K mg base (k + 1) f fd ["script"] (spLaw K) := by
  refine fng_of F S (fun vs H Q E ⟨a, ns, e, _⟩ => by rw [e]; rfl) fun cdv A outer s H vs Q hgd hr ⟨a, ns, e, hS, hlen, _, hk⟩ => ?_
  subst e
  obtain ⟨h1, h0⟩ := h cdv A outer s H hgd hr
  rw [hbody]
  refine ⟨_, pss_cons h1 (pss_any fun Y => (h0 Y).choose_spec.1), ?_⟩
  have hst : L2.start N [V.ref a] = some (.ref a) :: none :: List.replicate m none := by
    unfold L2.start
    rw [hN]
    rfl
  refine ⟨.ref a, by rw [hst]; rfl, hsp a ns H _ hS hlen fun H' δ p hs hd hat hne => ?_⟩
  refine ⟨⟨fun _ => none, H', δ⟩, ?_⟩
  obtain ⟨h2, h3⟩ := (h0 ⟨fun _ => none, H', δ⟩).choose_spec
  refine ⟨⟨fun _ => none, H', δ⟩, fun _ => none, none :: some (.deck kd) :: List.replicate m none, Wo.z, _, ⟨⟨fun _ _ q => (by cases q), ⟨hat, fun _ _ e => (nomatch e), fun _ _ e => (nomatch e)⟩, fun b hb => ⟨rfl, hne b hb⟩, Same.refl _, fun _ _ q => q, fun _ _ _ q _ => q, fun _ _ _ _ q => ⟨_, q⟩⟩, rfl, rfl, Gr.refl, ?_, fun i x q => ?_, fun i j b ds y _ q _ _ _ _ => ?_⟩, h3, ⟨fun _ _ _ _ _ q _ => q.elim, fun d n' F2 H2 v q _ r => ?_, fun _ _ _ _ _ q _ => q.elim, fun _ _ _ _ _ q _ => q.elim⟩⟩
  · rw [hst]; simp
  · rw [hst]
    have rep : ∀ (j : Nat) (z : Dv), (List.replicate m (none : Option Dv))[j]? ≠ some (some z) := fun j z e => by
      rw [List.getElem?_replicate] at e
      split at e <;> cases e
    match i, q with
    | 1, q => cases q; exact ⟨.ref p, rfl, p, rfl, hd⟩
    | j + 2, q => exact absurd q (rep j x)
  · have rep : ∀ (j : Nat) (z : Dv), (List.replicate m (none : Option Dv))[j]? ≠ some (some z) := fun j z e => by
      rw [List.getElem?_replicate] at e
      split at e <;> cases e
    match i, q with
    | j + 2, q => exact absurd q (rep j _)
  · have q' : d = .bool true := q
    subst q'
    simp only [Rp] at r
    subst r
    exact hk _
end
end DL
namespace DL
open PySem PySem.Spec PyProof.Rows L2
open Sem (wp) in
open AutoSeq1 (wpAny_loadPart') in
theorem meets_enumT (l : Addr) (items : Array Value) (n : Nat) (dct : Option Addr) (sl : Array (Option Value)) :
    Meets (Builtin.«enumerate.__new__» ⟨[.type "enumerate", .ref l], []⟩) (fun _ R s => s.heap.get? l = some { cls := .type "tuple", dict := dct, data := .seq items n, slots := sl } ∧
      R (.ok (.ret (.ref (s.heap.push { cls := .type "tuple_iterator", data := .fields #[.ref l, .int 0 0] }).objs.size)))
        { s with heap := (s.heap.push { cls := .type "tuple_iterator", data := .fields #[.ref l, .int 0 0] }).push { cls := .type "enumerate", data := .fields #[.none, .bool false, .ref s.heap.objs.size, rawInt 0, .none, .none] } }) :=
  .of_wp fun prog w A R s h => by
    obtain ⟨hp, g, d, tk, os⟩ := s; obtain ⟨hl, h⟩ := h
    have hsub := sub_enumerate
    have hL : Heap.IsTuple (Shared.heap ⟨hp, g, d, tk, os⟩) l items := ⟨_, hl, rfl, n, rfl⟩
    wp_walk using wpAny_loadPart' hl
    refine wpAny_stack_any fun st => wpAny_pure ?_
    split
    · rename_i c _ _ _ _ _
      cases (c == Value.type "enumerate")
      · wp_walk using wpAny_loadPart' hl, wpAny_pyIter_tuple hL
        exact ⟨_, rfl, h⟩
      · wp_walk using wpAny_loadPart' hl, wpAny_pyIter_tuple hL
        exact ⟨_, rfl, h⟩
    · wp_walk using wpAny_loadPart' hl, wpAny_pyIter_tuple hL
      exact ⟨_, rfl, h⟩
section
variable {prog : Program} {w : World} {A : Around} {E : Value → Shared → Prop} {s : Shared}
theorem call_enumT {l : Addr} {items : Array Value} {Q : Value → Shared → Prop} (hL : s.heap.IsTuple l items)
    (h : ∀ h', IsEnum h' (s.heap.objs.size + 1) s.heap.objs.size 0 .none → h'.IsTupleIter s.heap.objs.size l 0 → (∀ b o, s.heap.get? b = some o → h'.get? b = some o) → Q (.ref (s.heap.objs.size + 1)) { s with heap := h' }) :
    wpAny (model prog w) A (call (.type "enumerate") [.ref l]) Q E s := by
  obtain ⟨⟨c, dct, dt, sl⟩, hl, hc, n, hd⟩ := hL
  replace hc : c = .type "tuple" := hc
  replace hd : dt = .seq items n := hd
  subst hc hd
  refine callType_new F.called_enumerate (by decide) (F.typeCall_enumerate_1 _) (F.newCall_enumerate_1 _) (fun obj => F.args_object_init_2 obj _) F.entry_enumerate_new (meets_enumT l items n dct sl) ⟨hl, ?_⟩
  have hz : (s.heap.push { cls := .type "tuple_iterator", data := .fields #[.ref l, .int 0 0] }).objs.size = s.heap.objs.size + 1 := Heap.size_push ..
  show _ ∧ _
  rw [hz]
  have he : IsEnum ((s.heap.push { cls := .type "tuple_iterator", data := .fields #[.ref l, .int 0 0] }).push { cls := .type "enumerate", data := .fields #[.none, .bool false, .ref s.heap.objs.size, rawInt 0, .none, .none] }) (s.heap.objs.size + 1) s.heap.objs.size 0 .none := by
    have z := Heap.get?_push_size (s.heap.push { cls := .type "tuple_iterator", data := .fields #[.ref l, .int 0 0] }) (o := { cls := .type "enumerate", data := .fields #[.none, .bool false, .ref s.heap.objs.size, rawInt 0, .none, .none] }) rfl
    rw [hz] at z; exact z
  exact ⟨⟨_, he, rfl⟩, h _ he ⟨_, Heap.get?_push_of_some _ (Heap.get?_push_size _ rfl), rfl, rfl⟩ fun b o x => Heap.get?_push_of_some _ (Heap.get?_push_of_some _ x)⟩
theorem enumT_end {e it t : Addr} {i : Nat} {c : Int} {items : Array Value} {old : Value} {Q : Option Value → Shared → Prop} (hh : A.handled = none) (he : IsEnum s.heap e it c old) (hit : s.heap.IsTupleIter it t i) (ht : s.heap.IsTuple t items) (hx : items[i]? = none)
    (hQ : ∀ h', Heap.ExtBut it s.heap h' → Q none { s with heap := h' }) : wpAny (model prog w) A (pyNext (.ref e)) Q E s := by
  have hT : s.TypeIs (.ref e) "enumerate" := ⟨_, he, rfl⟩
  unfold pyNext
  refine wpAny_bind (wpAny_attempt (wpAny_callSpecial?_slot (name := Str.ofString "__next__") hT F.slot_enumerate_next (wpAny_call_entry F.slot_enumerate_next hT F.entry_enumerate_next ?_ (F.args_enumerate_next_1 _))))
  show wpAny _ _ (field (.ref e) 2 >>= _) _ _ _
  refine wpAny_bind (wpAny_field he rfl (x := .ref it) rfl (wpAny_bind (wpAny_nextOf_tuple_end hh hit ht hx fun h' x he' ⟨o, ho, hc⟩ => ?_)))
  exact wpAny_bind (wpAny_isInstance (T := "StopIteration") (b := true) ⟨o, ho, hc⟩ isSubtype_stop (wpAny_pure (hQ _ he')))
end
/-- the tuple at a, each item in a new pair -/
def ItET (K : PySem.W.Frag) (a : Addr) : It :=
  ⟨fun i H => ∃ (xs : List V) (x : V), SqT K H a xs ∧ xs[i]? = some x, fun i H v H' => ∃ T x, v = .ref T ∧ H T = none ∧ H' = upd H T (.tup [.int (i : Nat), x]) ∧ ∀ xs, SqT K H a xs → xs[i]? = some x, fun i H => ∃ xs : List V, SqT K H a xs ∧ xs.length ≤ i⟩
theorem turn_enumT {P : Program} {w : World} {K : PySem.W.Frag} {elts : List Expr} {kk : Nat} {tpos : Pos} (a e it : Addr) (hai : a ≠ it) (hae : a ≠ e) :
    Turn P w K (.Tuple elts kk tpos) (ItET K a) [e, it] e (fun i h => (∃ old, IsEnum h e it ((i : Nat) : Int) old) ∧ h.IsTupleIter it a i ∧ e ≠ it) where
  mem := by simp
  obj := fun i h st b hb => by
    obtain ⟨⟨old, he⟩, ⟨o, ho, hc, hd⟩, _⟩ := st
    rcases (show b = e ∨ b = it by simpa using hb) with z | z
    · rw [z]; exact ⟨_, he, fun v q => nomatch q⟩
    · rw [z]; exact ⟨o, ho, fun v q => by rw [hd] at q; cases q⟩
  keep := fun i h h' st k => let ⟨⟨old, he⟩, hi, hne⟩ := st; ⟨⟨old, k e (by simp) _ he⟩, hi.at fun o q => k it (by simp) o q, hne⟩
  item := by
    intro X hP hw hK hc i pins s σ H E I hf st hg
    subst hP hw hK
    obtain ⟨⟨old, he⟩, hit, hne⟩ := st
    obtain ⟨xs, x, hq, hx⟩ := hg
    obtain ⟨its, rv, p, hz⟩ := I.tuple hq
    obtain ⟨u, hu, ru⟩ := rv.get hx
    have hel : e < s.heap.objs.size := Heap.lt_size he
    have hil : it < s.heap.objs.size := by obtain ⟨_, q, _⟩ := hit; exact Heap.lt_size q
    have hin : i < its.toArray.size := by
      have := (List.getElem?_eq_some_iff.mp hu).1
      simpa using this
    refine wpAny_pyNext_enum_itemC (fp := [it, a]) (Draws.tuple (A := X.A.in1) (I.ok.hd hc) it a hai its.toArray) he (i := i) ⟨hit, p⟩ hin hne (by simp; exact ⟨hne, Ne.symm hae⟩) fun y h' tk hy ho hst hT hsz hk => ?_
    have ey : y = u := by
      have : its.toArray[i]? = some u := by simpa using hu
      rw [hy] at this; exact Option.some.inj this
    subst ey
    refine ⟨_, rfl, wpAny_letOwnedTupleGo_enum (s := { s with heap := h', toks := tk + 1 }) ho fun h'' he' sb => ?_⟩
    have hT2 : h''.get? s.heap.objs.size = some { cls := .type "tuple", data := .seq #[.int i tk, y] } := (sb.2 _ (Nat.ne_of_gt hel)).trans hT
    have new : ObjOk X.prog X.w (upd H s.heap.objs.size (.tup [.int (i : Nat), x])) h'' s.heap.objs.size (.tup [.int (i : Nat), x]) := ⟨by show 2 ≤ sizeLine; decide, [.int i tk, y], .cons ⟨_, rfl⟩ (.cons ru .nil), ⟨_, hT2, rfl, _, rfl⟩⟩
    have I1 : Inv X pins σ (upd H s.heap.objs.size (.tup [.int (i : Nat), x])) { s with heap := h'', toks := tk + 1 } :=
      I.turnedNew (ch := [e, it]) (fun b ob hb q => (sb.2 b (fun z => hb (by simp [z]))).trans (hk b ob (fun z => hb (by simp [z])) (fun z => hb (by simp [z])) q)) hf (Nat.le_refl _) new
    refine ⟨.ref s.heap.objs.size, _, I1, rfl, ⟨_, x, rfl, I.hok.fresh (Nat.le_refl _), rfl, fun ys hy => by rw [I.tuple_inj hy hq]; exact hx⟩, ⟨⟨y, ?_⟩, hst.1.at fun o q => (sb.2 it (Ne.symm hne)).trans q, hne⟩, fun b hb => ?_⟩
    · rw [show ((i + 1 : Nat) : Int) = (i : Int) + 1 by omega]
      exact he'
    · have hb' : b < s.heap.objs.size := by
        rcases (show b = e ∨ b = it by simpa using hb) with z | z
        · rw [z]; exact hel
        · rw [z]; exact hil
      rw [upd_ne (Nat.ne_of_lt hb')]
      exact (hf b hb).1
  done := by
    intro X hP hw hK hc i pins s σ H E I hf st hg
    subst hP hw hK
    obtain ⟨⟨old, he⟩, hit, hne⟩ := st
    obtain ⟨xs, hq, hx⟩ := hg
    obtain ⟨its, rv, p, hz⟩ := I.tuple hq
    obtain ⟨f0, f1, f2, f3, f4, f5⟩ := hf it (by simp)
    have hl := rv.length
    exact enumT_end (A := X.A) (I.ok.hd hc) he hit p (by simp; omega) fun h' eb => ⟨rfl, I.turned (t' := s.toks) (fun b o hb q => eb b o hb q) f0 f1 f3 f4 f5⟩
  self := fun A i s Q E st h => let ⟨⟨_, he⟩, _⟩ := st; wpAny_pyIter_enum he h
/-- enumerate of a list or a tuple -/
def iEnA (K : PySem.W.Frag) (ta : TA) : TI := fun σ H R => ta σ H fun vs H1 => ∃ a, vs = [.ref a] ∧ ((∃ xs, H1 a = some (.lst xs) ∧ R (Ite K a) H1) ∨ ∃ xs, Rd H1 a (.tup xs) ∧ R (ItET K a) H1)
variable {X : Cx} {Y : Fx}
theorem pi_enA {e : Expr} {ta : TA} {p pos tpos : Pos} {elts : List Expr} {kk : Nat} (hg : Gl X "enumerate") (hm : X.mg "enumerate" = none) (ha : PA X [e] ta) (hs : starEach [e] X.env = [(false, eval e X.env)] := by rfl) :
    PI X (.Tuple elts kk tpos) (.Call (.Name "enumerate" p) [e] [] pos) (iEnA X.K ta) := ⟨fun pins s σ H R I h => by
  refine Call_ (ld_blt I hg hm boot_enumerate (PyProof.Rows.callWith_type1 (thn (ha.run pos pins s σ H _ I h) fun us s1 ⟨vs, H1, I1, r1, a, ex, q⟩ => ?_) hs rfl))
  subst ex
  cases r1 with
  | cons r rr =>
    cases rr
    cases r
    have fresh : ∀ b ∈ [s1.heap.objs.size + 1, s1.heap.objs.size], FpOk X pins H1 b := fun b hb => by
      have hle : s1.heap.objs.size ≤ b := by
        rcases (show b = s1.heap.objs.size + 1 ∨ b = s1.heap.objs.size by simpa using hb) with z | z <;> omega
      exact I1.fpOk hle (I1.hok.fresh hle)
    rcases q with ⟨xs, hq, q⟩ | ⟨xs, hq, q⟩
    · obtain ⟨its, rv, p', hz⟩ := I1.list (SqL.of hq)
      refine call_enumerate_list p'.isList fun h' he hit hsz hk => wpAny_pyIter_enum he ?_
      exact ⟨s1.heap.objs.size + 1, [s1.heap.objs.size + 1, s1.heap.objs.size], _, _, H1, rfl, I1.kept (t' := s1.toks) hk, turn_enum a (s1.heap.objs.size + 1) s1.heap.objs.size, ⟨⟨.none, he⟩, hit, Nat.succ_ne_self _⟩, fresh, q⟩
    · obtain ⟨its, rv, p', hz⟩ := I1.tuple (sqtR hq)
      obtain ⟨ol, hol, _⟩ := id (show s1.heap.IsTuple a its.toArray from p')
      have hlt := Heap.lt_size hol
      refine call_enumT (show s1.heap.IsTuple a its.toArray from p') fun h' he hit hk => wpAny_pyIter_enum he ?_
      exact ⟨s1.heap.objs.size + 1, [s1.heap.objs.size + 1, s1.heap.objs.size], _, _, H1, rfl, I1.kept (t' := s1.toks) hk, turn_enumT a (s1.heap.objs.size + 1) s1.heap.objs.size (Nat.ne_of_lt hlt) (Nat.ne_of_lt (Nat.lt_succ_of_lt hlt)), ⟨⟨.none, he⟩, hit, Nat.succ_ne_self _⟩, fresh, q⟩⟩
theorem itOk_enT {K : PySem.W.Frag} {F : Hp} {a : Addr} {vs : List V} {ds : List PyData} (h : Rd F a (.tup vs)) (r : Rps K F ds vs) : ItOk K (ItET K a) F (enumD ds) where
  go := fun i H s hi => by
    rw [enumD_length] at hi
    exact ⟨vs, vs[i]'(by rw [← r.length]; exact hi), sqtR (rdS s h), by simp⟩
  stop := fun i H s hi => ⟨vs, sqtR (rdS s h), by rw [← r.length, ← enumD_length]; exact hi⟩
  yld := fun i H v H' x ⟨T, y, e1, e2, e3, e4⟩ s hx => by
    obtain ⟨d, q1, q2⟩ := enumD_get hx
    obtain ⟨w, q3, q4⟩ := r.get q1
    rw [e4 vs (sqtR (rdS s h))] at q3; cases q3
    exact .inr ⟨T, _, _, e1, e2, e3, q2, rps_cons (by simp [Rp]) (rps_cons q4 rps_nil)⟩
def dEnA (t : DTA) : DSrc := fun ρ n R => t ρ n fun xs n' => ∃ d ds, xs = [.dat d] ∧ seqD d = some ds ∧ R (enumD ds) n'
theorem di_enumA {e : Expr} {t : DTA} {p pos tpos : Pos} {elts : List Expr} {kk : Nat} (hg : Gl X "enumerate") (hm : X.mg "enumerate" = none) (ha : WA Y X [e] t) (hs : starEach [e] X.env = [(false, eval e X.env)] := by rfl) :
    DI Y X (.Tuple elts kk tpos) (.Call (.Name "enumerate" p) [e] [] pos) (dEnA t) :=
  pi_imp (pi_enA hg hm ha hs) fun σ H R ⟨Z, F, ρ, n, Q, r, ht, k⟩ => ⟨Z, F, ρ, n, _, r, ht, fun xs n1 F1 H1 vs ⟨d, ds, e, e2, hx⟩ g1 s1 d1 w1 => by
    subst e
    obtain ⟨v, rfl, w2⟩ := vr1 w1
    have w3 : Rp X.K F1 d v := w2
    cases d with
    | list es =>
      cases e2
      simp only [Rp] at w3
      obtain ⟨a, vs, rfl, h1, h2⟩ := w3
      exact ⟨a, rfl, .inl ⟨vs, s1 _ _ h1, k _ _ _ _ _ hx g1 s1 d1 (itOk_enum h1 h2)⟩⟩
    | tuple es =>
      cases e2
      simp only [Rp] at w3
      obtain ⟨a, vs, rfl, h1, h2⟩ := w3
      exact ⟨a, rfl, .inr ⟨vs, rdS s1 h1, k _ _ _ _ _ hx g1 s1 d1 (itOk_enT h1 h2)⟩⟩
    | _ => cases e2⟩
end DL
namespace DL
open PySem PySem.Spec PyProof.Rows L2
variable {X : Cx} {Y : Fx}
def dWhile (c : DTT) (b : DTS) : DTS := fun E ρ n => ∃ W : Nat → Rho → Wo → Prop, (∃ m, W m ρ n) ∧ ∀ m ρ' n', W m ρ' n' → c ρ' n' fun q n1 =>
  if q = true then b { E with nx := fun ρ2 n2 => ∃ m', m' < m ∧ W m' ρ2 n2, ct := fun ρ2 n2 => ∃ m', m' < m ∧ W m' ρ2 n2, bk := E.nx } ρ' n1 else E.nx ρ' n1
theorem ds_while {c : Expr} {body : List Stmt} {tc : DTT} {b : DTS} {pos : Pos} (hp : PassesOwn (model X.prog X.w) X.A X.env X.xe) (hc : WT Y X c tc) (hb : DSs Y X body b) : DS Y X (.While c body [] pos) (dWhile tc b) :=
  ps_imp (ps_while hp hc hb) fun D σ H ⟨Z, F, ρ, n, E, r, ⟨W, ⟨m0, w0⟩, hW⟩, k⟩ =>
    ⟨fun m σ H => ∃ F' ρ' n', SR Y X.K { Z with F0 := F } F' H σ ρ' n' ∧ W m ρ' n', ⟨m0, F, ρ, n, r.base, w0⟩, fun m σ2 H2 ⟨F2, ρ2, n2, r2, h2⟩ =>
      ⟨{ Z with F0 := F }, F2, ρ2, n2, _, r2, hW m ρ2 n2 h2, fun q n3 F3 H3 hx g3 s3 d3 => by
        have r3 := r2.step g3 s3 d3
        cases q with
        | true =>
          rw [if_pos rfl] at hx
          exact iteT ⟨fun σ' H' => ∃ m', m' < m ∧ ∃ F' ρ' n', SR Y X.K { Z with F0 := F } F' H' σ' ρ' n' ∧ W m' ρ' n', fun σ' H' z => z, { Z with F0 := F }, F3, ρ2, n3, _, r3, hx,
            ⟨fun F5 H5 σ5 ρ5 n5 ⟨m', lt, z⟩ r5 => ⟨m', lt, F5, ρ5, n5, r5, z⟩, fun d n5 F5 H5 v5 z b5 => k.rt _ _ _ _ _ z (r.b.back b5), fun F5 H5 σ5 ρ5 n5 z r5 => k.nx _ _ _ _ _ z (SR.back r.b r5), fun F5 H5 σ5 ρ5 n5 ⟨m', lt, z⟩ r5 => ⟨m', lt, F5, ρ5, n5, r5, z⟩⟩⟩
        | false =>
          rw [if_neg Bool.false_ne_true] at hx
          exact iteF (k.nx _ _ _ _ _ hx (SR.back r.b r3))⟩⟩
theorem Rps.erase {K : PySem.W.Frag} {F : Hp} : ∀ {ds : List PyData} {vs : List V} (j : Nat), Rps K F ds vs → Rps K F (ds.eraseIdx j) (vs.eraseIdx j)
  | [], _, _, h => by simp only [Rps] at h; subst h; simp [Rps]
  | d :: ds, _, 0, h => by
    simp only [Rps] at h
    obtain ⟨v, r, rfl, h1, h2⟩ := h
    exact h2
  | d :: ds, _, j + 1, h => by
    simp only [Rps] at h
    obtain ⟨v, r, rfl, h1, h2⟩ := h
    exact rps_cons h1 (Rps.erase j h2)
theorem seqIx {z : Int} {n : Nat} (h0 : 0 ≤ z) (h1 : z < n) : seqIndex? z n = some z.toNat := by
  unfold seqIndex?
  have e : ¬ z < 0 := by omega
  simp only [e, if_false]
  rw [if_pos (by simp; exact ⟨h0, h1⟩)]
def prD (p : Int × Int) : PyData := .tuple [.int p.1, .int p.2]
def oSortP : DCM := fun xs R => ∃ x, ∃ ps : List (Int × Int), xs = [x] ∧ x.toD = .list (ps.map prD) ∧ ∀ qs : List (Int × Int), qs.Perm ps → qs.Pairwise (fun p q => p.1 < q.1 ∨ (p.1 = q.1 ∧ p.2 ≤ q.2)) → R (qs.map prD)
/-- sorted of a list of pairs of ints, frozen ones too -/
def rSortedPR (K : PySem.W.Frag) : List V → Hp → VK → Prop := fun vs H Q => ∃ (a : Addr) (xs : List V) (k : V → Int × Int), vs = [V.ref a] ∧ SqL K H a xs ∧ (∀ x ∈ xs, ∃ t, x = V.ref t ∧ Rd H t (.tup [.int (k x).1, .int (k x).2])) ∧
  ∀ ys p, SrtO.Srtd (ltP k) ys → SrtO.Stb (ltP k) ys xs → H p = none → Q (.ref p) (upd H p (.lst ys))
theorem cr_sortedPO {X : Cx} : CallR X (.builtin "sorted") (rSortedPR X.K) := by
  intro pins s σ H vs us Q I r h
  obtain ⟨a, xs, k, rfl, hs, hx, q⟩ := h
  obtain ⟨its, rv, hl, hz⟩ := I.list hs
  obtain ⟨u, rfl, ru⟩ := vals1 r
  obtain rfl : u = Value.ref a := ru
  obtain ⟨e1, e2⟩ := refs_back rv fun x m => by
    obtain ⟨t, e, _⟩ := hx x m
    exact ⟨t, e⟩
  refine SrtO.sorted_pairsO (k := fun u => k (backV u)) hl.isList (by rw [← rv.length]; exact hz) (fun v hv => ?_) fun h' d out h1 h2 kp hd hn => ?_
  · obtain ⟨t, rfl⟩ := e2 v hv
    have hm : V.ref t ∈ xs := by rw [e1]; exact List.mem_map.mpr ⟨_, hv, rfl⟩
    obtain ⟨t', e, ht⟩ := hx _ hm
    cases e
    obtain ⟨its2, r2, ⟨o, ho, hc, n, hd⟩, _⟩ := I.tuple (sqtR ht)
    obtain ⟨u1, u2, rfl, ri, rj⟩ := vals2 r2
    obtain ⟨t1, rfl⟩ := ri
    obtain ⟨t2, rfl⟩ := rj
    exact ⟨t, o, t1, t2, n, rfl, ho, hc, hd⟩
  · have h3 : ∀ u ∈ out, ∃ a, u = Value.ref a := fun u hu => e2 u (h2.perm.mem_iff.mp hu)
    obtain ⟨n, hn⟩ := hn
    have hb : SrtO.Stb (ltP k) (out.map backV) xs := by
      rw [e1]
      exact SrtO.Stb.map (ltP_swo k) backV h2
    refine ⟨.ref d, upd H d (.lst (out.map backV)), I.laid (t' := s.toks) kp hd ⟨?_, out, n, vals_back h3, hn⟩, rfl, q _ d (SrtO.srtd_map h1) hb (I.hok.fresh hd)⟩
    rw [hb.len]
    exact hz
def keyV (F : Hp) (x : V) : Int × Int := match x with
  | .ref t => match F t with
    | some (.tup [.int a, .int b]) => (a, b)
    | some (.frz _ (.tup [.int a, .int b])) => (a, b)
    | _ => (0, 0)
  | _ => (0, 0)
theorem key_of {K : PySem.W.Frag} {F : Hp} {p : Int × Int} {v : V} (h : Rp K F (prD p) v) : ∃ t, v = .ref t ∧ Rd F t (.tup [.int p.1, .int p.2]) ∧ keyV F v = p := by
  unfold prD at h
  simp only [Rp] at h
  obtain ⟨a, xs, rfl, h1, h2⟩ := h
  obtain ⟨u, w, rfl, h3, h4⟩ := rps2 h2
  simp only [Rp] at h3 h4
  subst h3 h4
  exact ⟨a, rfl, h1, by
    show (match F a with | some (.tup [.int x, .int y]) => (x, y) | some (.frz _ (.tup [.int x, .int y])) => (x, y) | _ => (0, 0)) = p
    rcases h1 with h1 | ⟨o, h1⟩ <;> rw [h1]⟩
theorem keys_of {K : PySem.W.Frag} {F : Hp} : ∀ {ps : List (Int × Int)} {vs : List V}, Rps K F (ps.map prD) vs → vs.map (keyV F) = ps ∧ ∀ v ∈ vs, Rp K F (prD (keyV F v)) v
  | [], _, h => by simp only [List.map_nil, Rps] at h; subst h; exact ⟨rfl, fun _ z => (nomatch z)⟩
  | p :: ps, _, h => by
    simp only [List.map_cons, Rps] at h
    obtain ⟨v, r, rfl, h1, h2⟩ := h
    obtain ⟨_, _, _, e⟩ := key_of h1
    obtain ⟨i1, i2⟩ := keys_of h2
    refine ⟨by rw [List.map_cons, e, i1], fun u hu => ?_⟩
    rcases List.mem_cons.mp hu with rfl | hu
    · rw [e]; exact h1
    · exact i2 u hu
theorem rps_keys {K : PySem.W.Frag} {F : Hp} : ∀ {vs : List V}, (∀ v ∈ vs, Rp K F (prD (keyV F v)) v) → Rps K F ((vs.map (keyV F)).map prD) vs
  | [], _ => rps_nil
  | v :: vs, h => rps_cons (h v (by simp)) (rps_keys fun u hu => h u (by simp [hu]))
theorem ck_sortP {K : PySem.W.Frag} : CallOkM K (rSortedPR K) oSortP := fun δ F H xs vs R Q hs hv ⟨x, ps, e, e2, hr⟩ b => by
  subst e
  obtain ⟨v, rfl, h1⟩ := vr1 hv
  obtain ⟨a, us, rfl, h2, h3⟩ := h1.lst hs e2
  obtain ⟨k1, k2⟩ := keys_of h3
  refine ⟨a, us, keyV F, rfl, SqL.of h2, fun x hx => ?_, fun ys p hsd hst hp => ?_⟩
  · obtain ⟨t, e3, e4, e5⟩ := key_of (k2 x hx)
    exact ⟨t, e3, rdS hs e4⟩
  · have hm : ∀ v ∈ ys, Rp K F (prD (keyV F v)) v := fun v hv => k2 v (hst.perm.mem_iff.mp hv)
    refine b ((ys.map (keyV F)).map prD) ys p (hr _ ?_ ?_) hp (rps_keys hm)
    · rw [← k1]; exact hst.perm.map _
    · rw [List.pairwise_map]
      refine List.Pairwise.imp (fun {u w} h => ?_) hsd
      have := SrtO.lexB_no.mp h
      omega
end DL
namespace DL
open PySem PySem.Spec PyProof.Rows L2
variable {X : Cx} {Y : Fx}
structure ItOkV (K : PySem.W.Frag) (δ : DkS) (J : It) (F1 H1 : Hp) (xs : List PyData) : Prop where
  go : ∀ (i : Nat) H, (∀ a o, a ∉ δ.own → H1 a = some o → isIns o = false → H a = some o) → Same F1 H → i < xs.length → J.go i H
  stop : ∀ (i : Nat) H, (∀ a o, a ∉ δ.own → H1 a = some o → isIns o = false → H a = some o) → Same F1 H → xs.length ≤ i → J.stop i H
  yld : ∀ (i : Nat) H v H' x, J.yld i H v H' → (∀ a o, a ∉ δ.own → H1 a = some o → isIns o = false → H a = some o) → ∀ F2, Same F1 F2 → Same F2 H → xs[i]? = some x → ∃ F3, Gp F2 H F3 H' ∧ Same F3 H' ∧ Rp K F3 x v
theorem ItOk.toV {K : PySem.W.Frag} {δ : DkS} {J : It} {F1 H1 : Hp} {xs : List PyData} (h : ItOk K J F1 xs) : ItOkV K δ J F1 H1 xs :=
  ⟨fun i H _ s q => h.go i H s q, fun i H _ s q => h.stop i H s q, fun i H v H' x hy _ F2 s1 s2 hx => h.use s1 s2 hy hx⟩
theorem itOkV_list {K : PySem.W.Frag} {δ : DkS} {F H1 : Hp} {a : Addr} {vs : List V} {ds : List PyData} (h : H1 a = some (.lst vs)) (na : a ∉ δ.own) (r : Rps K F ds vs) : ItOkV K δ (Itl K a) F H1 ds where
  go := fun i H k s hi => ⟨vs, vs[i]'(by rw [← r.length]; exact hi), SqL.of (k _ _ na h rfl), by simp⟩
  stop := fun i H k s hi => ⟨vs, SqL.of (k _ _ na h rfl), by rw [← r.length]; exact hi⟩
  yld := fun i H v H' x ⟨e, y⟩ k F2 s1 s2 hx => by
    have h1 := y vs (SqL.of (k _ _ na h rfl))
    obtain ⟨w, e1, e2⟩ := r.get hx
    rw [h1] at e1; cases e1
    subst e
    exact ⟨F2, Gp.refl, s2, Rp.mono s1 x v e2⟩
def upIv (Y : Fx) (K : PySem.W.Frag) (t : DSrc) : TI := fun σ H R => ∃ Z F ρ n Q, SR Y K Z F H σ ρ n ∧ t ρ n Q ∧
  ∀ xs n' F' H' J, Q xs n' → Gr Z.δ F H F' H' → Same F' H' → Z.δ.at_ K F' H' n' → ItOkV K Z.δ J F' H' xs → R J H'
abbrev DIv (Y : Fx) (X : Cx) (tg iter : Expr) (t : DSrc) : Prop := PI X tg iter (upIv Y X.K t)
theorem div_of {tg iter : Expr} {t : DSrc} (h : DI Y X tg iter t) : DIv Y X tg iter t := pi_imp h fun σ H R ⟨Z, F, ρ, n, Q, r, ht, k⟩ => ⟨Z, F, ρ, n, Q, r, ht, fun xs n' F' H' J q g s d w => k xs n' F' H' J q g s d w.toV⟩
def dSrcV (t : DTE) : DSrc := fun ρ n R => t ρ n fun x n' => ∃ ds, seqD x.toD = some ds ∧ R ds n'
theorem di_seqV {tg e : Expr} {t : DTE} (he : WE Y X e t) : DIv Y X tg e (dSrcV t) := pi_imp (pi_seq he) fun σ H R ⟨Z, F, ρ, n, Q, r, ht, k⟩ =>
  ⟨Z, F, ρ, n, _, r, ht, fun x n1 F1 H1 v ⟨ds, e, hx⟩ g1 s1 d1 w1 => by
    cases x with
    | dat d =>
      cases d with
      | list es =>
        cases e
        simp only [VR, Rp] at w1
        obtain ⟨a, vs, rfl, h1, h2⟩ := w1
        exact ⟨a, rfl, .inl ⟨vs, s1 _ _ h1, k _ _ _ _ _ hx g1 s1 d1 (itOk_list h1 h2).toV⟩⟩
      | tuple es =>
        cases e
        simp only [VR, Rp] at w1
        obtain ⟨a, vs, rfl, h1, h2⟩ := w1
        exact ⟨a, rfl, .inr ⟨vs, rdS s1 h1, k _ _ _ _ _ hx g1 s1 d1 (itOk_tup h1 h2).toV⟩⟩
      | _ => cases e
    | vw es =>
      cases e
      obtain ⟨a, vs, rfl, h1, h2, h3⟩ := w1
      exact ⟨a, rfl, .inl ⟨vs, h1, k _ _ _ _ _ hx g1 s1 d1 (itOkV_list h1 h3 h2)⟩⟩
    | mt es => exact w1.elim
    | deck b => cases e
    | md _ _ => exact w1.elim⟩
theorem comp_imv {K : PySem.W.Frag} {s : DSrc} {t : TG} {g : DTG} {sl : List Nat} {tt : DTT} {te : DTE} {vs : List Nat} (hg : GOk K t g sl) (hv : ∀ i ∈ sl, i ∈ vs) : ∀ σ H Q, upM Y K (mComp s g tt te vs) σ H Q → tLc (upIv Y K s) t (upT Y K tt) (up Y K te) vs σ H Q :=
  fun σ H Q ⟨Z, F, ρ, n, R, r, ht, k⟩ => ⟨Z, F, ρ, n, _, r, ht, fun xs n1 F1 H1 J ⟨⟨I, h0, hstep, hend⟩⟩ g1 s1 d1 w1 => by
    have r1 := r.step g1 s1 d1
    intro D hD
    have hD0 : H D = none := by
      cases e : H D with
      | none => rfl
      | some o => exact absurd hD (g1.dH D (by rw [e]; nofun))
    have nD : D ∉ Z.δ.own := fun q => (r1.b.dkF D q).2 hD
    refine ⟨fun i m H2 => m = xs.length - i ∧ i ≤ xs.length ∧ ∃ F2 acc n2 us, Gr Z.δ F1 H1 F2 H2 ∧ Same F2 H2 ∧ Z.δ.at_ K F2 H2 n2 ∧ F2 D = none ∧ H2 D = some (.lst us) ∧ Rps K F2 acc us ∧ I i acc n2, ⟨xs.length, by simp, Nat.zero_le _, ?_⟩, ?_⟩
    · obtain ⟨g2, s2⟩ := Gp.newM (o := .lst []) hD s1
      exact ⟨F1, [], n1, [], g2.gr, s2, g2.dk r1.b, s1.free hD, upd_same, rps_nil, h0⟩
    · rintro i m H2 ⟨rfl, hi, F2, acc, n2, us, g2, s2, d2, f2, hD2, ra, h2⟩
      by_cases hlt : i < xs.length
      · refine .inr ⟨w1.go i H2 g2.kH (g2.sF.trans s2) hlt, fun H' => ∃ F2 acc n2 us, Gr Z.δ F1 H1 F2 H' ∧ Same F2 H' ∧ Z.δ.at_ K F2 H' n2 ∧ F2 D = none ∧ H' D = some (.lst us) ∧ Rps K F2 acc us ∧ I (i + 1) acc n2, fun H' q => ⟨xs.length - (i + 1), by omega, rfl, hlt, q⟩, fun v H3 hy => ?_⟩
        obtain ⟨x, hx⟩ : ∃ x, xs[i]? = some x := ⟨xs[i], by simp [hlt]⟩
        obtain ⟨F3, g3, s3, r3⟩ := w1.yld i H2 v H3 x hy g2.kH F2 g2.sF s2 hx
        have gg3 := g2.trans (g3.gr (δ := Z.δ))
        have r2 := (r1.step g2 s2 d2)
        have d3 := g3.dk r2.b
        have rw3 := (r1.step gg3 s3 d3).wipe vs
        have hD3 : H3 D = some (.lst us) := g3.sH _ _ hD2
        have f3 : F3 D = none := g3.nF D (by rw [hD2]; nofun) f2
        refine hg.im _ _ _ _ _ _ _ _ _ _ _ rw3 r3 (hstep i x acc n2 hx h2) fun σ4 ρ4 h4 r4 hw => ⟨by rw [hw vs hv, wipe_idem], ?_⟩
        refine ⟨Z, F3, ρ4, n2, _, r4, h4, fun b m5 F5 H5 h5 g5 s5 d5 => ?_⟩
        have hD5 : H5 D = some (.lst us) := g5.kH _ _ nD hD3 rfl
        have f5 : F5 D = none := g5.nF D (by rw [hD3]; nofun) f3
        have ra5 : Rps K F5 acc us := Rps.mono (g3.sF.trans g5.sF) acc us ra
        cases b with
        | false => exact ⟨F5, acc, m5, us, gg3.trans g5, s5, d5, f5, hD5, ra5, h5⟩
        | true =>
          refine ⟨Z, F5, ρ4, m5, _, r4.step g5 s5 d5, h5, fun y m6 F6 H6 v6 h6 g6 s6 d6 w6 => ?_⟩
          obtain ⟨d, rfl, hl, h6⟩ := needD_is h6
          have hD6 : H6 D = some (.lst us) := g6.kH _ _ nD hD5 rfl
          have f6 : F6 D = none := g6.nF D (by rw [hD5]; nofun) f5
          have ra6 : Rps K F6 acc us := Rps.mono g6.sF acc us ra5
          refine ⟨us, hD6, by rw [← ra.length]; exact hl, F6, acc ++ [d], m6, us ++ [v6], ?_, ?_, ?_, f6, upd_same, ra6.append (rps_cons w6 rps_nil), h6⟩
          · have gg6 := (gg3.trans g5).trans g6
            exact gg6.chg hD
          · exact fun a o e => by rw [upd_ne (ne_of_none e f6)]; exact s6 _ _ e
          · exact d6.chg nD hD6 rfl
      · have e : i = xs.length := by omega
        subst e
        exact .inl ⟨w1.stop _ H2 g2.kH (g2.sF.trans s2) (Nat.le_refl _), k _ _ _ _ _ _ (hend _ _ h2) (g1.trans g2) s2 d2 hD0 f2 hD2 ra⟩⟩
theorem me_compV {elt tg iter : Expr} {ifs : List Expr} {scope : Scope} {own : List (Str × Nat)} {pos : Pos} {s : DSrc} {t : TG} {g : DTG} {sl : List Nat} {tt : DTT} {te : DTE} (hc : X.calm = true) (hN : X.N.Nodup) (hi : DIv Y X tg iter s) (ok : BlkOk X.N X.env.scope scope own)
    (hk : GOk X.K t g sl) (hg : ∀ (s : Shared) (H : Hp) (C : Addr) (cl : List (Str × Addr)) (fp : List Addr), PG (X.blk s H scope (compEnvC scope cl C X.env) fp) tg t) (ht : ∀ (s : Shared) (H : Hp) (C : Addr) (cl : List (Str × Addr)) (fp : List Addr), WTs Y (X.blk s H scope (compEnvC scope cl C X.env) fp) ifs tt)
    (he : ∀ (s : Shared) (H : Hp) (C : Addr) (cl : List (Str × Addr)) (fp : List Addr), WE Y (X.blk s H scope (compEnvC scope cl C X.env) fp) elt te) (hv : ∀ i ∈ sl, i ∈ own.map (·.2)) (hs : ∀ x, foldedSetIterable iter X.env x = pure x := by intro _; rfl) :
    ME Y X (.ListComp elt [⟨tg, iter, ifs, 0⟩] scope pos) (mComp s g tt te (own.map (·.2))) :=
  pe_imp (pe_lc hc hN hi ok hg ht he hs) (comp_imv hk hv)
/-- name = [..] on one line -/
theorem ds_setLcV {i : Nat} {y : Str} {py : Pos} {elt tg iter : Expr} {ifs : List Expr} {scope : Scope} {own : List (Str × Nat)} {pos spos : Pos} {s : DSrc} {t : TG} {g : DTG} {sl : List Nat} {tt : DTT} {te : DTE} {u : DTE} (hc : X.calm = true) (hN : X.N.Nodup) (hy : X.N[i]? = some y) (hyl : X.env.scope.names.lookup y = some .local)
    (hsw : swapsWith (.ListComp elt [⟨tg, iter, ifs, 0⟩] scope pos) (some (.Name y py)) spos.line X.env = pure true) (hi : DIv Y X tg iter s) (ok : BlkOk X.N X.env.scope scope own)
    (hk : GOk X.K t g sl) (hg : ∀ (s : Shared) (H : Hp) (C : Addr) (cl : List (Str × Addr)) (fp : List Addr), PG (X.blk s H scope (compEnvC scope cl C X.env) fp) tg t) (ht : ∀ (s : Shared) (H : Hp) (C : Addr) (cl : List (Str × Addr)) (fp : List Addr), WTs Y (X.blk s H scope (compEnvC scope cl C X.env) fp) ifs tt)
    (he : ∀ (s : Shared) (H : Hp) (C : Addr) (cl : List (Str × Addr)) (fp : List Addr), WE Y (X.blk s H scope (compEnvC scope cl C X.env) fp) elt te) (hv : ∀ i ∈ sl, i ∈ own.map (·.2))
    (hu : ∀ σ H Q, upX Y X.K u σ H Q → upM Y X.K (mComp s g tt te (own.map (·.2))) σ H Q) (hs : ∀ x, foldedSetIterable iter X.env x = pure x := by intro _; rfl) :
    DS Y X (.Assign [.Name y py] (.ListComp elt [⟨tg, iter, ifs, 0⟩] scope pos) spos) (dAsg i u) :=
  ps_imp (ps_setLc hc hN hy hyl hsw hi ok hg ht he hs) fun D σ H h => by
    have h2 := asg_im D σ H h
    exact comp_imv hk hv _ _ _ (hu _ _ _ h2)
end DL
namespace DL
open PySem PySem.Spec PyProof.Rows L2
variable {X : Cx} {Y : Fx}
def rSetT (K : PySem.W.Frag) (w : World) : List V → Hp → VK → Prop := fun vs H Q => ∃ (a : Addr) (ns : List Int), vs = [.ref a] ∧ SqT K H a (ns.map V.int) ∧ ns.length ≤ 1000 ∧ ∀ p n, H p = none → n ≤ ns.length → Q (.ref p) (upd H p (SetO w p (fun j => decide (j ∈ ns)) n))
theorem cr_setT (hc : X.calm = true) : CallR X (.type "set") (rSetT X.K X.w) := by
  intro pins s σ H vs us Q I r h
  obtain ⟨a, ns, rfl, hs, hl, q⟩ := h
  obtain ⟨its, rv, p, hz⟩ := I.tuple hs
  rw [Vals.ref1 r]
  refine call_set_tupI ns (I.ok.hd hc) (show s.heap.IsTuple a its.toArray from p) (by simpa using intsAre_of rv) (Nat.lt_of_le_of_lt (Nat.succ_le_succ hl) (by decide)) fun h' tk c R hc' hk => ?_
  exact ⟨.ref _, upd H s.heap.objs.size (SetO X.w s.heap.objs.size (fun j => decide (j ∈ ns)) c), I.laid (t' := tk) hk (Nat.le_refl _) (setO_new R), rfl, q _ c (I.hok.fresh (Nat.le_refl _)) hc'⟩
def mSortSet (t : DTE) : DTM := fun ρ n R => t ρ n fun x n' => ∃ ns : List Int, x = .dat (.tuple (ns.map .int)) ∧ ns.length ≤ 60 ∧ ∀ ms : List Int, ms.Pairwise (· < ·) → (∀ k, k ∈ ms ↔ k ∈ ns) → R (ms.map .int) n'
theorem me_sortedSet {e : Expr} {t : DTE} {p p2 pos pos2 : Pos} (hc : X.calm = true) (hg : Gl X "sorted") (hm : X.mg "sorted" = none) (hg2 : Gl X "set") (hm2 : X.mg "set" = none) (he : WE Y X e t)
    (h1 : starEach [e] X.env = (false, eval e X.env) :: starEach [] X.env := by rfl) (h2 : (backTo pos2 (starEach [] X.env)).any (·.1) = false := by rfl)
    (h3 : starEach [.Call (.Name "set" p2) [e] [] pos2] X.env = (false, eval (.Call (.Name "set" p2) [e] [] pos2) X.env) :: starEach [] X.env := by rfl) (h4 : (backTo pos (starEach [] X.env)).any (·.1) = false := by rfl) :
    ME Y X (.Call (.Name "sorted" p) [.Call (.Name "set" p2) [e] [] pos2] [] pos) (mSortSet t) :=
  pe_imp (pe_callB (cr_sortedSet hc) hg hm PyProof.Rows.boot_sorted (pa_cons (pe_callTy (cr_setT hc) hg2 hm2 (by rfl) (pa_cons he pa_nil h1) (by decide) (by decide) h1 h2) pa_nil h3) (by decide) (by decide) h3 h4) fun σ H Q ⟨Z, F, ρ, n, R, r, ht, k⟩ =>
    ⟨Z, F, ρ, n, _, r, ht, fun x n1 F1 H1 v hx g1 s1 d1 w1 => by
      obtain ⟨ns, rfl, hl, hx⟩ := hx
      simp only [VR, Rp] at w1
      obtain ⟨a, us, rfl, e1, e2⟩ := w1
      rw [e2.ints] at e1
      have r1 := r.step g1 s1 d1
      refine ⟨a, ns, rfl, sqtR (rdS s1 e1), by omega, fun p c hp hcn => ⟨p, _, c, rfl, upd_same, by omega, fun ms q m1 m2 _ hq => ?_⟩⟩
      obtain ⟨g2, s2⟩ := Gp.newM (o := SetO X.w p (fun j => decide (j ∈ ns)) c) hp s1
      have r2 := r1.step g2.gr s2 (g2.dk r1.b)
      obtain ⟨g3, s3⟩ := Gp.newM (o := .lst (ms.map V.int)) hq s2
      have hq0 : H q = none := by
        cases e : H q with
        | none => rfl
        | some o => exact absurd hq ((g1.trans g2.gr).dH q (by rw [e]; nofun))
      exact k (ms.map .int) n1 F1 _ q _ (hx ms m1 fun k => (m2 k).trans (by simp)) ((g1.trans g2.gr).trans g3.gr) s3 (g3.dk r2.b) hq0 (s2.free hq) upd_same (rps_ints ms)⟩
end DL
namespace DL
open PySem PySem.Spec PyProof.Rows L2
variable {X : Cx} {Y : Fx}
theorem Rps.dropLast {K : PySem.W.Frag} {F : Hp} {ds : List PyData} {vs : List V} (h : Rps K F ds vs) : Rps K F ds.dropLast vs.dropLast := by
  rw [List.dropLast_eq_take, List.dropLast_eq_take, h.length]
  exact Rps.take _ h
end DL
namespace DL
open PySem PySem.Spec PyProof.Rows L2
variable {X : Cx} {Y : Fx}
def dAppPop (i j : Nat) (t : DTE) : DTS := fun E ρ n => ∃ xs ds, ρ[i]? = some (some (.mt xs)) ∧ ρ[j]? = some (some (.mt ds)) ∧ t ρ n fun x n' => ∃ (z : Int) (k : Nat) (d : PyData), x = .dat (.int z) ∧ (-(2 ^ 63) ≤ z ∧ z < 2 ^ 63) ∧ seqIndex? z ds.length = some k ∧ ds[k]? = some d ∧ xs.length < sizeLine ∧
  E.nx ((ρ.set j (some (.mt (ds.eraseIdx k)))).set i (some (.mt (xs ++ [d])))) n'
theorem ds_appPop {i j : Nat} {o o2 e : Expr} {t : DTE} {apos cpos apos2 cpos2 pos : Pos} (hij : i ≠ j) (ho : PE X o (tVar i)) (ho2 : PE X o2 (tVar j)) (he : WE Y X e t)
    (hbase : attributeBase o "append" X.env (eval o X.env) = eval o X.env := by rfl)
    (hfew : ((backTo cpos (starEach [.Call (.Attribute o2 "pop" apos2) [e] [] cpos2] X.env)).all (fun x => !x.1) && (backToKw cpos (keywordEach [] X.env)).all (fun x => x.1.isSome)
      && decide (([.Call (.Attribute o2 "pop" apos2) [e] [] cpos2] : List Expr).length + ([] : List Keyword).length + (if ([] : List Keyword).isEmpty then 0 else 1) < 30)) = true := by rfl)
    (hline : (apos.endLine == cpos.line) = true := by rfl) (hst : starEach [.Call (.Attribute o2 "pop" apos2) [e] [] cpos2] X.env = (false, eval (.Call (.Attribute o2 "pop" apos2) [e] [] cpos2) X.env) :: starEach [] X.env := by rfl) (hplain : (backTo cpos (starEach [] X.env)).any (·.1) = false := by rfl)
    (hbase2 : attributeBase o2 "pop" X.env (eval o2 X.env) = eval o2 X.env := by rfl)
    (hfew2 : ((backTo cpos2 (starEach [e] X.env)).all (fun x => !x.1) && (backToKw cpos2 (keywordEach [] X.env)).all (fun x => x.1.isSome)
      && decide (([e] : List Expr).length + ([] : List Keyword).length + (if ([] : List Keyword).isEmpty then 0 else 1) < 30)) = true := by rfl)
    (hline2 : (apos2.endLine == cpos2.line) = true := by rfl) (hst2 : starEach [e] X.env = (false, eval e X.env) :: starEach [] X.env := by rfl) (hplain2 : (backTo cpos2 (starEach [] X.env)).any (·.1) = false := by rfl)
    (hs : swapsWith (.Call (.Attribute o "append" apos) [.Call (.Attribute o2 "pop" apos2) [e] [] cpos2] [] cpos) none pos.line X.env = pure false := by rfl) :
    DS Y X (.Expr (.Call (.Attribute o "append" apos) [.Call (.Attribute o2 "pop" apos2) [e] [] cpos2] [] cpos) pos) (dAppPop i j t) :=
  ps_imp (ps_expr (pe_bm PySem.F.plainAttrs_list PySem.F.slot_list_append PySem.F.type_list_append mt_append ho (pa_cons (pe_bm PySem.F.plainAttrs_list PySem.F.slot_list_pop PySem.F.type_list_pop mt_popAt ho2 (pa_cons he pa_nil hst2) hbase2 hfew2 hline2 hst2 hplain2) pa_nil hst) hbase hfew hline hst hplain) hs) fun D σ H ⟨Z, F, ρ, n, E, r, ⟨xs, ds, e1, e2, ht⟩, k⟩ => by
    obtain ⟨b, us, p1, p2, p3⟩ := r.own e1
    obtain ⟨a, vs, q1, q2, q3⟩ := r.own e2
    refine ⟨_, p1, .inl ⟨rfl, us, SqL.of p2⟩, _, q1, .inl ⟨rfl, vs, SqL.of q2⟩, Z, F, ρ, n, _, r, ht, fun x n1 F1 H1 u hx g1 s1 d1 wx => ?_⟩
    obtain ⟨z, kk, d, rfl, hz, hk, hd, hl, hx⟩ := hx
    have r1 := r.step g1 s1 d1
    obtain ⟨a', vs', q5, q6, q7⟩ := r1.own e2
    rw [q1] at q5; cases q5
    obtain ⟨y, hy, ry⟩ := q7.get hd
    simp only [VR, Rp] at wx
    subst wx
    refine ⟨a, vs', z, kk, y, rfl, rfl, q6, hz.1, hz.2, by rw [← q7.length]; exact hk, hy, ?_⟩
    have r2 := r1.mut e2 q1 (q7.erase kk)
    have e1' : (ρ.set j (some (.mt (ds.eraseIdx kk))))[i]? = some (some (.mt xs)) := by rw [List.getElem?_set_ne (Ne.symm hij)]; exact e1
    obtain ⟨b', us', t5, t6, t7⟩ := r2.own e1'
    rw [p1] at t5; cases t5
    exact ⟨b, us', y, rfl, rfl, t6, by rw [← t7.length]; exact hl, k.nx _ _ _ _ _ hx (r2.mut e1' p1 (t7.append (rps_cons ry rps_nil)))⟩
end DL
namespace DL
open PySem PySem.Spec PyProof.Rows L2
variable {X : Cx} {Y : Fx}
def rInDT (K : PySem.W.Frag) (neg : Bool) : R2 := fun x y H Q => ∃ d ds, Dp K H x d ∧ Dp K H y (.tuple ds) ∧ SeqAt.shaped d = true ∧ SeqAt.shaped (.tuple ds) = true ∧ Q (.bl (if neg then !(ds.any fun z => PyData.eqv z d) else ds.any fun z => PyData.eqv z d)) H
theorem room_inT {ds : List PyData} {d : PyData} {u : Nat} (hs : SeqAt.shaped d = true) (hu : u + 65 < cLine) : u + 1 + min (PyData.depthAll ds) d.depth < cLine := by
  have := SeqAt.depth_of_shaped hs
  omega
theorem op_inDT (hu : X.A.units + 65 < cLine) : OpR X (compareOp .In) (rInDT X.K false) := by
  intro pins s σ H x y v u Q I rx ry ⟨d, ds, hd, he, sd, se, q⟩
  obtain ⟨as, r1⟩ := Dp.reads I d x v hd rx
  obtain ⟨bs, r2⟩ := Dp.reads I (.tuple ds) y u he ry
  exact SeqAt.in_tuple_reads r2 r1 (SeqAt.canLay_of_shaped se) (SeqAt.canLay_of_shaped sd) (room_inT sd hu) ⟨.bl _, H, I, rfl, q⟩
theorem op_notInDT (hu : X.A.units + 65 < cLine) : OpR X (compareOp .NotIn) (rInDT X.K true) := by
  intro pins s σ H x y v u Q I rx ry ⟨d, ds, hd, he, sd, se, q⟩
  obtain ⟨as, r1⟩ := Dp.reads I d x v hd rx
  obtain ⟨bs, r2⟩ := Dp.reads I (.tuple ds) y u he ry
  exact SeqAt.notIn_tuple_reads r2 r1 (SeqAt.canLay_of_shaped se) (SeqAt.canLay_of_shaped sd) (room_inT sd hu) ⟨.bl _, H, I, rfl, q⟩
def oInT (neg : Bool) : D2 := fun x y R => x.isDk = false ∧ y.isDk = false ∧ ∃ ds, y.toD = .tuple ds ∧ Sh x.toD ∧ Sh (.tuple ds) ∧ R (.bool (if neg then !(ds.any fun z => PyData.eqv z x.toD) else ds.any fun z => PyData.eqv z x.toD))
theorem bi_inT {K : PySem.W.Frag} (neg : Bool) : BinOk K (rInDT K neg) (oInT neg) := fun δ F H x y v u R Q hs hx hy ⟨n1, n2, ds, e, s1, s2, hr⟩ b =>
  ⟨x.toD, ds, Rp.dp _ _ (SeqAt.canLay_of_shaped s1) (hx.rp hs n1), Rp.dp _ _ (SeqAt.canLay_of_shaped s2) (e ▸ hy.rp hs n2), s1, s2, b.bl hs hr⟩
end DL
set_option maxHeartbeats 4000000
set_option maxHeartbeats 0
namespace DL
open PySem PySem.Spec PyProof.Rows L2
def sizesD (xs : List Int) : PyData := .tuple (xs.map .int)
def hallD (feet pairs : List Int) : PyData := .tuple [sizesD feet, sizesD pairs]
/-- sizes from 1 to h -/
abbrev In1 (h : Int) (xs : List Int) : Prop := ∀ x ∈ xs, 1 ≤ x ∧ x ≤ h
theorem pick3 {a b c : PyData} {r : Int} (h0 : 0 ≤ r) (h1 : r < 3) : ∃ d, atI [a, b, c] r = some d ∧ (d = a ∨ d = b ∨ d = c) := by
  obtain ⟨d, h, hm⟩ := atI_mem (xs := [a, b, c]) h0 (by simpa using h1)
  exact ⟨d, h, by simpa using hm⟩
/-- numbers as they were drawn -/
theorem ints_of {h : Int} : ∀ {ys : List PyData}, (∀ y ∈ ys, ∃ z : Int, y = .int z ∧ 1 ≤ z ∧ z ≤ h) → ∃ zs : List Int, ys = zs.map .int ∧ In1 h zs
  | [], _ => ⟨[], rfl, fun _ q => (by cases q)⟩
  | y :: ys, q => by
    obtain ⟨z, rfl, h1, h2⟩ := q y (by simp)
    obtain ⟨zs, rfl, h3⟩ := ints_of (ys := ys) fun x hx => q x (by simp [hx])
    exact ⟨z :: zs, rfl, fun x hx => by
      rcases List.mem_cons.mp hx with rfl | hx
      · exact ⟨h1, h2⟩
      · exact h3 x hx⟩
theorem map_get {α : Type} {xs : List α} {enc : α → PyData} {k : Nat} {x : PyData} (h : (xs.map enc)[k]? = some x) : ∃ z, xs[k]? = some z ∧ x = enc z := by
  rw [List.getElem?_map] at h
  obtain ⟨z, h1, h2⟩ := Option.map_eq_some_iff.mp h
  exact ⟨z, h1, h2.symm⟩
/-- the item at a place -/
def getI (xs : List Int) (j : Int) : Int := (xs[j.toNat]?).getD 0
def intsN (m : Nat) : List Int := (List.range m).map fun (k : Nat) => (k : Int)
theorem mem_intsN {m : Nat} {j : Int} (h : j ∈ intsN m) : 0 ≤ j ∧ j < m := by
  obtain ⟨k, hk, rfl⟩ := List.mem_map.mp h
  have := List.mem_range.mp hk
  omega
/-- one guest of a run by a list of liking -/
def stepF (feet pairs : List Int) (s : List Int × List (Int × Int)) (g : Int) : List Int × List (Int × Int) :=
  match s.1.filter fun j => decide (getI feet g ≤ getI pairs j) with
  | [] => (s.1, s.2 ++ [(g, -1)])
  | j :: _ => (s.1.erase j, s.2 ++ [(g, j)])
/-- the best of those seen -/
def bestS (key : Int → Int) (fits : Int → Bool) (b j : Int) : Int := if fits j = true then (if b = -1 ∨ key j < key b then j else b) else b
def stepL (key : Int → Int) (feet pairs : List Int) (s : List Int × List (Int × Int)) (g : Int) : List Int × List (Int × Int) :=
  (s.1.filter fun o => decide (o ≠ s.1.foldl (bestS key fun j => decide (getI feet g ≤ getI pairs j)) (-1)), s.2 ++ [(g, s.1.foldl (bestS key fun j => decide (getI feet g ≤ getI pairs j)) (-1))])
def ruled (key : Int → Int) (feet pairs order : List Int) : List (Int × Int) := (order.foldl (stepL key feet pairs) (intsN pairs.length, [])).2
theorem fold_take {α β : Type} {f : β → α → β} {b : β} {xs : List α} {k : Nat} {x : α} (h : xs[k]? = some x) : (xs.take (k + 1)).foldl f b = f ((xs.take k).foldl f b) x := by
  rw [List.take_add_one, h, List.foldl_append]; rfl
/-- what is best -/
def Lx (key : Int → Int) (a b : Int) : Prop := key a < key b ∨ (key a = key b ∧ a ≤ b)
theorem best_is (key : Int → Int) (fits : Int → Bool) : ∀ (l : List Int) (b : Int), (∀ x ∈ l, 0 ≤ x) → l.Pairwise (· < ·) → (b = -1 ∨ (0 ≤ b ∧ fits b = true ∧ ∀ x ∈ l, b < x)) →
    let r := l.foldl (bestS key fits) b
    (r = -1 ∧ b = -1 ∧ ∀ x ∈ l, fits x = false) ∨ ((r = b ∨ r ∈ l) ∧ 0 ≤ r ∧ fits r = true ∧ (∀ x ∈ l, fits x = true → Lx key r x) ∧ (b ≠ -1 → Lx key r b))
  | [], b, _, _, hb => by
    rcases hb with rfl | ⟨h1, h2, _⟩
    · exact .inl ⟨rfl, rfl, fun _ h => nomatch h⟩
    · exact .inr ⟨.inl rfl, h1, h2, fun _ h => (nomatch h), fun _ => .inr ⟨rfl, Int.le_refl _⟩⟩
  | y :: l, b, hn, hp, hb => by
    have hy : 0 ≤ y := hn y (by simp)
    obtain ⟨p1, p2⟩ := List.pairwise_cons.mp hp
    have hb' : bestS key fits b y = -1 ∨ (0 ≤ bestS key fits b y ∧ fits (bestS key fits b y) = true ∧ ∀ x ∈ l, bestS key fits b y < x) := by
      unfold bestS
      by_cases f : fits y = true
      · rw [if_pos f]
        by_cases c : b = -1 ∨ key y < key b
        · rw [if_pos c]; exact .inr ⟨hy, f, p1⟩
        · rw [if_neg c]
          rcases hb with rfl | ⟨h1, h2, h3⟩
          · exact absurd (.inl rfl) c
          · exact .inr ⟨h1, h2, fun x hx => h3 x (by simp [hx])⟩
      · rw [if_neg f]
        rcases hb with rfl | ⟨h1, h2, h3⟩
        · exact .inl rfl
        · exact .inr ⟨h1, h2, fun x hx => h3 x (by simp [hx])⟩
    have ih := best_is key fits l (bestS key fits b y) (fun x hx => hn x (by simp [hx])) p2 hb'
    show (let r := l.foldl (bestS key fits) (bestS key fits b y); _)
    simp only at ih ⊢
    rw [List.foldl_cons]
    rcases ih with ⟨e1, e2, e3⟩ | ⟨e1, e2, e3, e4, e5⟩
    · unfold bestS at e2
      by_cases f : fits y = true
      · rw [if_pos f] at e2
        by_cases c : b = -1 ∨ key y < key b
        · rw [if_pos c] at e2; omega
        · rw [if_neg c] at e2
          exact absurd (.inl e2) c
      · rw [if_neg f] at e2
        refine .inl ⟨e1, e2, fun x hx => ?_⟩
        rcases List.mem_cons.mp hx with rfl | hx
        · exact Bool.eq_false_iff.mpr f
        · exact e3 x hx
    · refine .inr ⟨?_, e2, e3, ?_, ?_⟩
      · have hq : bestS key fits b y = y ∨ bestS key fits b y = b := by
          unfold bestS
          split
          · split
            · exact .inl rfl
            · exact .inr rfl
          · exact .inr rfl
        rcases e1 with e1 | e1
        · rcases hq with hq | hq
          · exact .inr (by rw [e1, hq]; simp)
          · exact .inl (by rw [e1, hq])
        · exact .inr (by simp [e1])
      · intro x hx fx
        rcases List.mem_cons.mp hx with rfl | hx
        · have hb2 : Lx key (bestS key fits b x) x ∧ bestS key fits b x ≠ -1 := by
            unfold bestS
            rw [if_pos fx]
            by_cases c : b = -1 ∨ key x < key b
            · rw [if_pos c]; exact ⟨.inr ⟨rfl, Int.le_refl _⟩, by omega⟩
            · rw [if_neg c]
              rcases hb with rfl | ⟨h1, h2, h3⟩
              · exact absurd (.inl rfl) c
              · have := h3 x (by simp)
                have : ¬ key x < key b := fun q => c (.inr q)
                exact ⟨by unfold Lx; omega, by omega⟩
          have := e5 hb2.2
          have := hb2.1
          unfold Lx at *
          omega
        · exact e4 x hx fx
      · intro hne
        have hb2 : bestS key fits b y ≠ -1 ∧ Lx key (bestS key fits b y) b := by
          rcases hb with rfl | ⟨h1, h2, h3⟩
          · exact absurd rfl hne
          · unfold bestS
            by_cases f : fits y = true
            · rw [if_pos f]
              by_cases c : b = -1 ∨ key y < key b
              · rw [if_pos c]
                rcases c with c | c
                · exact absurd c hne
                · exact ⟨by omega, .inl c⟩
              · rw [if_neg c]; exact ⟨hne, .inr ⟨rfl, Int.le_refl _⟩⟩
            · rw [if_neg f]; exact ⟨hne, .inr ⟨rfl, Int.le_refl _⟩⟩
        have := e5 hb2.1
        have := hb2.2
        unfold Lx at *
        omega
theorem erase_filter {l : List Int} (h : l.Nodup) (j : Int) : l.erase j = l.filter fun o => decide (o ≠ j) := by
  rw [h.erase_eq_filter]
  congr 1
  funext o
  by_cases q : o = j <;> simp [q]
/-- the two ways step alike -/
theorem step_same (key : Int → Int) (feet pairs : List Int) (l1 l2 : List Int) (r : List (Int × Int)) (g : Int) (hp : l1.Perm l2) (hs : l1.Pairwise (Lx key)) (hl : l2.Pairwise (· < ·)) (hn : ∀ x ∈ l2, 0 ≤ x) :
    (stepF feet pairs (l1, r) g).2 = (stepL key feet pairs (l2, r) g).2 ∧ (stepF feet pairs (l1, r) g).1.Perm (stepL key feet pairs (l2, r) g).1 := by
  have hb := best_is key (fun j => decide (getI feet g ≤ getI pairs j)) l2 (-1) hn hl (.inl rfl)
  have nd2 : l2.Nodup := hl.imp fun h => Int.ne_of_lt h
  have nd1 : l1.Nodup := hp.nodup_iff.mpr nd2
  unfold stepF stepL
  simp only at hb ⊢
  generalize l2.foldl (bestS key fun j => decide (getI feet g ≤ getI pairs j)) (-1) = b at hb ⊢
  rcases hb with ⟨rfl, _, h3⟩ | ⟨h1, h2, h3, h4, _⟩
  · have e : (l1.filter fun j => decide (getI feet g ≤ getI pairs j)) = [] := List.filter_eq_nil_iff.mpr fun x hx => by
      rw [h3 x (hp.mem_iff.mp hx)]; exact Bool.false_ne_true
    rw [e]
    refine ⟨rfl, ?_⟩
    show l1.Perm _
    rw [List.filter_eq_self.mpr fun x hx => by have := hn x hx; simp; omega]
    exact hp
  · have hb1 : b ∈ l1 := by
      rcases h1 with q | q
      · omega
      · exact hp.mem_iff.mpr q
    have hbf : b ∈ l1.filter fun j => decide (getI feet g ≤ getI pairs j) := List.mem_filter.mpr ⟨hb1, h3⟩
    have hsf := hs.filter fun j => decide (getI feet g ≤ getI pairs j)
    cases e : l1.filter fun j => decide (getI feet g ≤ getI pairs j) with
    | nil => rw [e] at hbf; cases hbf
    | cons j js =>
      have ej : j = b := by
        rw [e] at hbf hsf
        rcases List.mem_cons.mp hbf with q | q
        · exact q.symm
        · have a1 : Lx key j b := (List.pairwise_cons.mp hsf).1 b q
          have hj : j ∈ l1.filter fun j => decide (getI feet g ≤ getI pairs j) := by rw [e]; simp
          obtain ⟨q1, q2⟩ := List.mem_filter.mp hj
          have a2 := h4 j (hp.mem_iff.mp q1) q2
          unfold Lx at a1 a2
          omega
      subst ej
      refine ⟨rfl, ?_⟩
      show (l1.erase j).Perm _
      rw [erase_filter nd1]
      exact hp.filter _
theorem run_same (key : Int → Int) (feet pairs : List Int) : ∀ (order : List Int) (l1 l2 : List Int) (r : List (Int × Int)), l1.Perm l2 → l1.Pairwise (Lx key) → l2.Pairwise (· < ·) → (∀ x ∈ l2, 0 ≤ x) →
    (order.foldl (stepF feet pairs) (l1, r)).2 = (order.foldl (stepL key feet pairs) (l2, r)).2
  | [], _, _, _, _, _, _, _ => rfl
  | g :: order, l1, l2, r, hp, hs, hl, hn => by
    obtain ⟨e1, e2⟩ := step_same key feet pairs l1 l2 r g hp hs hl hn
    rw [List.foldl_cons, List.foldl_cons]
    have sub2 : ∀ x ∈ (stepL key feet pairs (l2, r) g).1, x ∈ l2 := fun x hx => (List.mem_filter.mp hx).1
    have pw1 : (stepF feet pairs (l1, r) g).1.Pairwise (Lx key) := by
      unfold stepF
      simp only
      split
      · exact hs
      · exact hs.sublist List.erase_sublist
    have pw2 : (stepL key feet pairs (l2, r) g).1.Pairwise (· < ·) := hl.filter _
    have := run_same key feet pairs order (stepF feet pairs (l1, r) g).1 (stepL key feet pairs (l2, r) g).1 (stepF feet pairs (l1, r) g).2 e2 pw1 pw2 fun x hx => hn x (sub2 x hx)
    rw [show stepF feet pairs (l1, r) g = ((stepF feet pairs (l1, r) g).1, (stepF feet pairs (l1, r) g).2) from rfl, show stepL key feet pairs (l2, r) g = ((stepL key feet pairs (l2, r) g).1, (stepF feet pairs (l1, r) g).2) from by rw [e1]]
    exact this
theorem intsN_lt (m : Nat) : (intsN m).Pairwise (· < ·) := by
  unfold intsN
  rw [List.pairwise_map]
  exact List.pairwise_lt_range.imp fun h => by omega
/-- how many feet are less, how many pairs are at least s -/
def cF (feet : List Int) (s : Int) : Nat := (feet.filter fun x => decide (x < s)).length
def cP (pairs : List Int) (s : Int) : Nat := (pairs.filter fun x => decide (s ≤ x)).length
def IsMost (feet pairs : List Int) (m : Int) : Prop := (∃ s, m = (cF feet s : Int) + cP pairs s) ∧ ∀ s, m ≤ (cF feet s : Int) + cP pairs s
def IsFew (feet pairs : List Int) (m : Int) : Prop := (∃ s, m = (max (cF feet s) (cP pairs s) : Nat)) ∧ ∀ s, m ≤ (max (cF feet s) (cP pairs s) : Nat)
theorem cF_cons (f : Int) (fs : List Int) (s : Int) : cF (f :: fs) s = cF fs s + if f < s then 1 else 0 := by
  unfold cF
  rw [List.filter_cons]
  by_cases h : f < s
  · rw [if_pos (decide_eq_true h), if_pos h]; rfl
  · rw [if_neg (by simpa using h), if_neg h]; rfl
theorem cP_cons (p : Int) (ps : List Int) (s : Int) : cP (p :: ps) s = cP ps s + if s ≤ p then 1 else 0 := by
  unfold cP
  rw [List.filter_cons]
  by_cases h : s ≤ p
  · rw [if_pos (decide_eq_true h), if_pos h]; rfl
  · rw [if_neg (by simpa using h), if_neg h]; rfl
theorem cF_perm {a b : List Int} (h : a.Perm b) (s : Int) : cF a s = cF b s := (h.filter _).length_eq
theorem cP_perm {a b : List Int} (h : a.Perm b) (s : Int) : cP a s = cP b s := (h.filter _).length_eq
theorem cF_zero {l : List Int} {s : Int} (h : ∀ x ∈ l, s ≤ x) : cF l s = 0 := by
  unfold cF
  rw [List.filter_eq_nil_iff.mpr fun x hx => by have := h x hx; simp; omega]
  rfl
theorem cP_zero {l : List Int} {s : Int} (h : ∀ x ∈ l, x < s) : cP l s = 0 := by
  unfold cP
  rw [List.filter_eq_nil_iff.mpr fun x hx => by have := h x hx; simp; omega]
  rfl
theorem cF_le (l : List Int) (s : Int) : cF l s ≤ l.length := List.length_filter_le _ _
theorem cF_all {l : List Int} {s : Int} (h : ∀ x ∈ l, x < s) : cF l s = l.length := by
  unfold cF
  rw [List.filter_eq_self.mpr fun x hx => by simpa using h x hx]
/-- the largest pairs to the greatest feet that they fit: feet and pairs from the greatest on -/
def gr : List Int → List Int → Nat
  | [], _ => 0
  | f :: fs, [] => gr fs []
  | f :: fs, p :: ps => if f ≤ p then gr fs ps + 1 else gr fs (p :: ps)
theorem gr_le : ∀ (F P : List Int) (s : Int), gr F P ≤ cF F s + cP P s
  | [], _, _ => Nat.zero_le _
  | f :: fs, [], s => by
    have := gr_le fs [] s
    rw [cF_cons]
    unfold gr
    omega
  | f :: fs, p :: ps, s => by
    unfold gr
    by_cases h : f ≤ p
    · rw [if_pos h, cF_cons, cP_cons]
      have := gr_le fs ps s
      split <;> split <;> omega
    · rw [if_neg h, cF_cons]
      have := gr_le fs (p :: ps) s
      omega
theorem gr_ge (top : Int) : ∀ (F P : List Int), F.Pairwise (fun a b => b ≤ a) → P.Pairwise (fun a b => b ≤ a) → (∀ x ∈ F, x < top) → (∀ x ∈ P, x < top) → ∃ s, (s ∈ F ∨ s = top) ∧ cF F s + cP P s ≤ gr F P
  | [], P, _, _, _, hP => ⟨top, .inr rfl, by rw [cP_zero hP]; exact Nat.le_refl 0⟩
  | f :: fs, [], h1, h2, hF, hP => by
    obtain ⟨p1, p2⟩ := List.pairwise_cons.mp h1
    obtain ⟨s, hs, hle⟩ := gr_ge top fs [] p2 h2 (fun x hx => hF x (by simp [hx])) hP
    unfold gr
    rcases hs with hs | rfl
    · refine ⟨s, .inl (by simp [hs]), ?_⟩
      have := p1 s hs
      rw [cF_cons, if_neg (by omega)]
      exact hle
    · rw [cF_all fun x hx => hF x (by simp [hx])] at hle
      have h0 : gr fs [] ≤ 0 := by
        cases fs with
        | nil => exact Nat.le_refl 0
        | cons a l =>
          have := gr_le (a :: l) [] (((a :: l).getLast (by simp)))
          have q : cF (a :: l) ((a :: l).getLast (by simp)) = 0 := cF_zero fun x hx => by
            have hl : (a :: l) = (a :: l).dropLast ++ [(a :: l).getLast (by simp)] := (List.dropLast_concat_getLast (by simp)).symm
            rw [hl] at hx p2
            rcases List.mem_append.mp hx with z | z
            · exact (List.pairwise_append.mp p2).2.2 x z _ (by simp)
            · rw [List.mem_singleton.mp z]; simp
          rw [q] at this
          exact this
      have hl : fs.length = 0 := by omega
      have : fs = [] := List.eq_nil_of_length_eq_zero hl
      subst this
      exact ⟨f, .inl (by simp), by rw [cF_cons, if_neg (by omega)]; exact Nat.zero_le _⟩
  | f :: fs, p :: ps, h1, h2, hF, hP => by
    obtain ⟨p1, p2⟩ := List.pairwise_cons.mp h1
    obtain ⟨q1, q2⟩ := List.pairwise_cons.mp h2
    have hF' : ∀ x ∈ fs, x < top := fun x hx => hF x (by simp [hx])
    have hf := hF f (by simp)
    have hp := hP p (by simp)
    unfold gr
    by_cases h : f ≤ p
    · rw [if_pos h]
      obtain ⟨s, hs, hle⟩ := gr_ge top fs ps p2 q2 hF' fun x hx => hP x (by simp [hx])
      rcases hs with hs | rfl
      · refine ⟨s, .inl (by simp [hs]), ?_⟩
        have := p1 s hs
        rw [cF_cons, cP_cons, if_neg (by omega)]
        split <;> omega
      · refine ⟨s, .inr rfl, ?_⟩
        rw [cF_cons, cP_cons, if_neg (show ¬ s ≤ p by omega)]
        split <;> omega
    · rw [if_neg h]
      obtain ⟨s, hs, hle⟩ := gr_ge top fs (p :: ps) p2 h2 hF' hP
      rcases hs with hs | rfl
      · refine ⟨s, .inl (by simp [hs]), ?_⟩
        have := p1 s hs
        rw [cF_cons, if_neg (by omega)]
        omega
      · refine ⟨f, .inl (by simp), ?_⟩
        rw [cF_all hF'] at hle
        rw [cF_cons, if_neg (by omega), cP_zero fun x hx => by
          rcases List.mem_cons.mp hx with rfl | hx
          · omega
          · have := q1 x hx; omega]
        have := cF_le fs f
        omega
theorem most_of_gr {feet pairs F P : List Int} {top : Int} (hF : F.Perm feet) (hP : P.Perm pairs) (h1 : F.Pairwise fun a b => b ≤ a) (h2 : P.Pairwise fun a b => b ≤ a) (t1 : ∀ x ∈ feet, x < top) (t2 : ∀ x ∈ pairs, x < top) :
    IsMost feet pairs (gr F P : Nat) ∧ ∃ s, (s ∈ feet ∨ s = top) ∧ ((gr F P : Nat) : Int) = (cF feet s : Int) + cP pairs s := by
  obtain ⟨s, hs, hle⟩ := gr_ge top F P h1 h2 (fun x hx => t1 x (hF.mem_iff.mp hx)) fun x hx => t2 x (hP.mem_iff.mp hx)
  have hge := gr_le F P s
  rw [cF_perm hF, cP_perm hP] at hle hge
  refine ⟨⟨⟨s, by omega⟩, fun s' => ?_⟩, s, hs.imp (fun h => hF.mem_iff.mp h) id, by omega⟩
  have := gr_le F P s'
  rw [cF_perm hF, cP_perm hP] at this
  omega
/-- the smallest feet beside the largest pairs -/
def cz : List Int → List Int → Nat
  | f :: fs, p :: ps => cz fs ps + if f ≤ p then 1 else 0
  | _, _ => 0
theorem cz_le : ∀ (F P : List Int) (s : Int), F.Pairwise (fun a b => a ≤ b) → P.Pairwise (fun a b => b ≤ a) → cz F P ≤ max (cF F s) (cP P s)
  | [], _, _, _, _ => by unfold cz; exact Nat.zero_le _
  | f :: fs, [], _, _, _ => by unfold cz; exact Nat.zero_le _
  | f :: fs, p :: ps, s, h1, h2 => by
    obtain ⟨p1, p2⟩ := List.pairwise_cons.mp h1
    obtain ⟨q1, q2⟩ := List.pairwise_cons.mp h2
    have ih := cz_le fs ps s p2 q2
    unfold cz
    rw [cF_cons, cP_cons]
    by_cases h : f ≤ p
    · rw [if_pos h]
      by_cases a : f < s
      · rw [if_pos a]
        by_cases b : s ≤ p
        · rw [if_pos b]; omega
        · have : cP ps s = 0 := cP_zero fun x hx => by have := q1 x hx; omega
          omega
      · rw [if_neg a, if_pos (show s ≤ p by omega)]
        have : cF fs s = 0 := cF_zero fun x hx => by have := p1 x hx; omega
        omega
    · rw [if_neg h]; omega
theorem cz_ge (top : Int) : ∀ (F P : List Int), F.Pairwise (fun a b => a ≤ b) → P.Pairwise (fun a b => b ≤ a) → (∀ x ∈ P, x < top) → ∃ s, (s ∈ F ∨ s = top) ∧ max (cF F s) (cP P s) ≤ cz F P
  | [], P, _, _, hP => ⟨top, .inr rfl, by rw [cP_zero hP]; exact Nat.zero_le _⟩
  | f :: fs, [], h1, _, _ => by
    obtain ⟨p1, p2⟩ := List.pairwise_cons.mp h1
    refine ⟨f, .inl (by simp), ?_⟩
    rw [cF_zero fun x hx => by
      rcases List.mem_cons.mp hx with rfl | hx
      · exact Int.le_refl _
      · exact p1 x hx]
    exact Nat.zero_le _
  | f :: fs, p :: ps, h1, h2, hP => by
    obtain ⟨p1, p2⟩ := List.pairwise_cons.mp h1
    obtain ⟨q1, q2⟩ := List.pairwise_cons.mp h2
    unfold cz
    by_cases h : f ≤ p
    · obtain ⟨s, hs, hle⟩ := cz_ge top fs ps p2 q2 fun x hx => hP x (by simp [hx])
      refine ⟨s, hs.imp (fun h => by simp [h]) id, ?_⟩
      rw [cF_cons, cP_cons, if_pos h]
      split <;> split <;> omega
    · refine ⟨f, .inl (by simp), ?_⟩
      rw [cF_zero fun x hx => by
        rcases List.mem_cons.mp hx with rfl | hx
        · exact Int.le_refl _
        · exact p1 x hx, cP_zero fun x hx => by
        rcases List.mem_cons.mp hx with rfl | hx
        · omega
        · have := q1 x hx; omega]
      exact Nat.zero_le _
theorem few_of_cz {feet pairs F P : List Int} {top : Int} (hF : F.Perm feet) (hP : P.Perm pairs) (h1 : F.Pairwise fun a b => a ≤ b) (h2 : P.Pairwise fun a b => b ≤ a) (t2 : ∀ x ∈ pairs, x < top) :
    IsFew feet pairs (cz F P : Nat) ∧ ∃ s, (s ∈ feet ∨ s = top) ∧ ((cz F P : Nat) : Int) = (max (cF feet s) (cP pairs s) : Nat) := by
  obtain ⟨s, hs, hle⟩ := cz_ge top F P h1 h2 fun x hx => t2 x (hP.mem_iff.mp hx)
  have hge := cz_le F P s h1 h2
  rw [cF_perm hF, cP_perm hP] at hle hge
  refine ⟨⟨⟨s, by omega⟩, fun s' => ?_⟩, s, hs.imp (fun h => hF.mem_iff.mp h) id, by omega⟩
  have := cz_le F P s' h1 h2
  rw [cF_perm hF, cP_perm hP] at this
  omega
theorem atI_get {xs : List Int} {j : Int} (h0 : 0 ≤ j) (h1 : j < xs.length) : atI (xs.map PyData.int) j = some (.int (getI xs j)) := by
  have hj : j.toNat < xs.length := by omega
  unfold atI ixN getI
  rw [if_pos h0, if_pos (by rw [List.length_map]; exact h1)]
  simp [hj]
theorem sh_ints (ns : List Int) : Sh (.list (ns.map .int)) :=
  Bool.and_eq_true_iff.mpr ⟨by simp only [PyData.canLay0]; exact canAll fun d hd => by obtain ⟨_, _, rfl⟩ := List.mem_map.mp hd; rfl, decide_eq_true (by
    simp only [PyData.depth]
    exact Nat.le_trans (Nat.succ_le_succ (depthAll_le (k := 0) fun d hd => by obtain ⟨_, _, rfl⟩ := List.mem_map.mp hd; exact Nat.le_refl _)) (by decide))⟩
theorem eqv_nil (ds : List PyData) : PyData.eqv (.list ds) (.list []) = ds.isEmpty := by
  cases ds <;> rfl
theorem nodup_len : ∀ {ms l : List Int}, ms.Nodup → (∀ x ∈ ms, x ∈ l) → ms.length ≤ l.length
  | [], _, _, _ => Nat.zero_le _
  | x :: ms, l, h, hs => by
    obtain ⟨h1, h2⟩ := List.nodup_cons.mp h
    have hx := hs x (by simp)
    have ih := nodup_len (l := l.erase x) h2 fun y hy => (List.mem_erase_of_ne (fun e => h1 (by rw [← e]; exact hy))).mpr (hs y (by simp [hy]))
    rw [List.length_erase_of_mem hx] at ih
    have := List.length_pos_of_mem hx
    rw [List.length_cons]
    omega
def ins (a : Int) : List Int → List Int
  | [] => [a]
  | b :: l => if a ≤ b then a :: b :: l else b :: ins a l
theorem ins_perm (a : Int) : ∀ l, (ins a l).Perm (a :: l)
  | [] => List.Perm.refl _
  | b :: l => by
    unfold ins
    split
    · exact List.Perm.refl _
    · exact ((ins_perm a l).cons b).trans (List.Perm.swap _ _ _)
theorem ins_sorted (a : Int) : ∀ l : List Int, l.Pairwise (· ≤ ·) → (ins a l).Pairwise (· ≤ ·)
  | [], _ => List.pairwise_singleton _ _
  | b :: l, h => by
    obtain ⟨h1, h2⟩ := List.pairwise_cons.mp h
    unfold ins
    split
    · rename_i hab
      exact List.pairwise_cons.mpr ⟨fun x hx => by
        rcases List.mem_cons.mp hx with rfl | hx
        · exact hab
        · exact Int.le_trans hab (h1 x hx), h⟩
    · exact List.pairwise_cons.mpr ⟨fun x hx => by
        rcases List.mem_cons.mp ((ins_perm a l).mem_iff.mp hx) with rfl | hx
        · omega
        · exact h1 x hx, ins_sorted a l h2⟩
theorem exists_sorted : ∀ l : List Int, ∃ F : List Int, F.Perm l ∧ F.Pairwise (· ≤ ·)
  | [] => ⟨[], List.Perm.refl _, List.Pairwise.nil⟩
  | a :: l => by
    obtain ⟨F, h1, h2⟩ := exists_sorted l
    exact ⟨ins a F, (ins_perm a F).trans (h1.cons a), ins_sorted a F h2⟩
theorem rev_desc {F : List Int} (h : F.Pairwise (· ≤ ·)) : F.reverse.Pairwise fun a b => b ≤ a := List.pairwise_reverse.mpr h
/-- where the least number of both is attained -/
theorem most_at {feet pairs : List Int} {top : Int} (t1 : ∀ x ∈ feet, x < top) (t2 : ∀ x ∈ pairs, x < top) : ∃ s, (s ∈ feet ∨ s = top) ∧ ∀ s', (cF feet s : Int) + cP pairs s ≤ (cF feet s' : Int) + cP pairs s' := by
  obtain ⟨F, f1, f2⟩ := exists_sorted feet
  obtain ⟨Q, p1, p2⟩ := exists_sorted pairs
  obtain ⟨h, s, hs, e⟩ := most_of_gr ((List.reverse_perm F).trans f1) ((List.reverse_perm Q).trans p1) (rev_desc f2) (rev_desc p2) t1 t2
  exact ⟨s, hs, fun s' => by rw [← e]; exact h.2 s'⟩
theorem few_at {feet pairs : List Int} {top : Int} (t2 : ∀ x ∈ pairs, x < top) : ∃ s, (s ∈ feet ∨ s = top) ∧ ∀ s', ((max (cF feet s) (cP pairs s) : Nat) : Int) ≤ (max (cF feet s') (cP pairs s') : Nat) := by
  obtain ⟨F, f1, f2⟩ := exists_sorted feet
  obtain ⟨Q, p1, p2⟩ := exists_sorted pairs
  obtain ⟨h, s, hs, e⟩ := few_of_cz (top := top) f1 ((List.reverse_perm Q).trans p1) f2 (rev_desc p2) t2
  exact ⟨s, hs, fun s' => by rw [← e]; exact h.2 s'⟩
structure HallOk (feet pairs : List Int) : Prop where
  f1 : 1 ≤ feet.length
  f2 : feet.length ≤ 40
  p2 : pairs.length ≤ 40
  fi : In1 (10 ^ 6) feet
  pi : In1 (10 ^ 6) pairs
theorem stepL_ok (key : Int → Int) (feet pairs : List Int) (m : Int) : ∀ (order : List Int) (l : List Int) (r : List (Int × Int)), (∀ x ∈ l, 0 ≤ x ∧ x < m) → (∀ p ∈ r, -1 ≤ p.2 ∧ (p.2 < m ∨ p.2 = -1)) →
    (∀ p ∈ (order.foldl (stepL key feet pairs) (l, r)).2, -1 ≤ p.2 ∧ (p.2 < m ∨ p.2 = -1)) ∧ (order.foldl (stepL key feet pairs) (l, r)).2.map (·.1) = r.map (·.1) ++ order
  | [], l, r, _, hr => ⟨hr, by simp⟩
  | g :: order, l, r, hl, hr => by
    rw [List.foldl_cons]
    have hb : ∀ (l : List Int) (b : Int), (b = -1 ∨ (0 ≤ b ∧ b < m)) → (∀ x ∈ l, 0 ≤ x ∧ x < m) → (l.foldl (bestS key fun j => decide (getI feet g ≤ getI pairs j)) b = -1 ∨ (0 ≤ l.foldl (bestS key fun j => decide (getI feet g ≤ getI pairs j)) b ∧ l.foldl (bestS key fun j => decide (getI feet g ≤ getI pairs j)) b < m)) := by
      intro l
      induction l with
      | nil => intro b h _; exact h
      | cons y l ih =>
        intro b h hl
        rw [List.foldl_cons]
        refine ih _ ?_ fun x hx => hl x (by simp [hx])
        unfold bestS
        split
        · split
          · exact .inr (hl y (by simp))
          · exact h
        · exact h
    have h1 := hb l (-1) (.inl rfl) hl
    obtain ⟨a, b⟩ := stepL_ok key feet pairs m order (stepL key feet pairs (l, r) g).1 (stepL key feet pairs (l, r) g).2 (fun x hx => hl x (List.mem_filter.mp hx).1) (fun p hp => by
      rcases List.mem_append.mp hp with q | q
      · exact hr p q
      · rw [List.mem_singleton.mp q]
        rcases h1 with h1 | h1
        · rw [h1]; exact ⟨Int.le_refl _, .inr rfl⟩
        · exact ⟨Int.le_trans (by decide) h1.1, .inl h1.2⟩)
    refine ⟨a, b.trans ?_⟩
    unfold stepL
    simp
theorem ruled_ok (key : Int → Int) (feet pairs order : List Int) : (∀ p ∈ ruled key feet pairs order, -1 ≤ p.2 ∧ (p.2 < pairs.length ∨ p.2 = -1)) ∧ (ruled key feet pairs order).map (·.1) = order := by
  have := stepL_ok key feet pairs pairs.length order (intsN pairs.length) [] (fun x hx => mem_intsN hx) (fun _ h => nomatch h)
  exact ⟨this.1, this.2.trans (by simp)⟩
abbrev InR (m : Nat) (l : List Int) : Prop := ∀ j ∈ l, 0 ≤ j ∧ j < (m : Int)
theorem cons_erase {α : Type} : ∀ {l : List α} {k : Nat} (h : k < l.length), (l[k] :: l.eraseIdx k).Perm l
  | a :: l, 0, _ => List.Perm.refl _
  | a :: l, k + 1, h => by
    have ih := cons_erase (l := l) (k := k) (by simpa using h)
    show (l[k]'(by simpa using h) :: a :: l.eraseIdx k).Perm (a :: l)
    exact (List.Perm.swap _ _ _).trans (ih.cons a)
theorem eqv_int (a b : Int) : PyData.eqv (.int a) (.int b) = decide (a = b) := by rfl
theorem enum_ints (xs : List Int) : enumD (xs.map .int) = (intsN xs.length).map fun j => .tuple [.int j, .int (getI xs j)] := by
  apply List.ext_getElem?
  intro i
  unfold enumD intsN getI
  simp only [List.getElem?_map, List.getElem?_zipIdx, List.map_map]
  by_cases h : i < xs.length
  · simp [h]
  · simp [h]
theorem atI0 (j : Int) (js : List Int) : atI ((j :: js).map PyData.int) 0 = some (.int j) := by
  unfold atI ixN
  rw [if_pos (Int.le_refl 0), if_pos (by rw [List.length_map, List.length_cons]; omega)]
  rfl
theorem eraseIdx_map' {α β : Type} (f : α → β) : ∀ (l : List α) (k : Nat), (l.map f).eraseIdx k = (l.eraseIdx k).map f
  | [], _ => by simp
  | a :: l, 0 => rfl
  | a :: l, k + 1 => by simp [eraseIdx_map' f l k]
/-- a run, as pairs of numbers -/
structure RunOk (f p : Nat) (run : List (Int × Int)) : Prop where
  g : (run.map (·.1)).Perm (intsN f)
  s : ∀ q ∈ run, -1 ≤ q.2 ∧ (q.2 < (p : Int) ∨ q.2 = -1)
theorem intsN_len (m : Nat) : (intsN m).length = m := by simp [intsN]
theorem RunOk.len {f p : Nat} {run : List (Int × Int)} (h : RunOk f p run) : run.length = f := by
  have := h.g.length_eq
  rwa [List.length_map, intsN_len] at this
theorem RunOk.nd {f p : Nat} {run : List (Int × Int)} (h : RunOk f p run) : (run.map (·.1)).Nodup := h.g.nodup_iff.mpr ((intsN_lt f).imp fun h => Int.ne_of_lt h)
def shodL (f : Nat) (run : List (Int × Int)) : List Int := (intsN f).filter fun g => run.any fun q => decide (q.1 = g ∧ q.2 ≠ -1)
def leftL (p : Nat) (run : List (Int × Int)) : List Int := (intsN p).filter fun j => !(run.any fun q => decide (q.2 = j))
theorem sorted_uniq : ∀ {l m : List Int}, l.Perm m → l.Pairwise (· ≤ ·) → m.Pairwise (· ≤ ·) → l = m
  | [], m, hp, _, _ => hp.nil_eq
  | a :: l, [], hp, _, _ => hp.eq_nil
  | a :: l, b :: m, hp, h1, h2 => by
    obtain ⟨p1, p2⟩ := List.pairwise_cons.mp h1
    obtain ⟨q1, q2⟩ := List.pairwise_cons.mp h2
    have e : a = b := by
      have ha : a ∈ b :: m := hp.mem_iff.mp (by simp)
      have hb : b ∈ a :: l := hp.mem_iff.mpr (by simp)
      rcases List.mem_cons.mp ha with h | h
      · exact h
      · rcases List.mem_cons.mp hb with h' | h'
        · exact h'.symm
        · exact Int.le_antisymm (p1 b h') (q1 a h)
    subst e
    rw [sorted_uniq hp.cons_inv p2 q2]
theorem shod_uniq {f p : Nat} {run : List (Int × Int)} (h : RunOk f p run) {ns : List Int} (hp : ns.Perm ((run.filter fun q => decide (q.2 ≠ -1)).map (·.1))) (hs : ns.Pairwise (· ≤ ·)) : ns = shodL f run := by
  have nd2 : ((run.filter fun q => decide (q.2 ≠ -1)).map (·.1)).Nodup := h.nd.sublist ((List.filter_sublist).map _)
  have srt : (shodL f run).Pairwise (· < ·) := (intsN_lt f).filter _
  refine sorted_uniq (hp.trans ?_) hs (srt.imp fun h => Int.le_of_lt h)
  refine (List.perm_ext_iff_of_nodup nd2 (srt.imp fun h => Int.ne_of_lt h)).mpr fun g => ?_
  unfold shodL
  rw [List.mem_filter, List.mem_map, List.any_eq_true]
  constructor
  · rintro ⟨q, hq, rfl⟩
    obtain ⟨q1, q2⟩ := List.mem_filter.mp hq
    exact ⟨h.g.mem_iff.mp (List.mem_map_of_mem q1), q, q1, decide_eq_true ⟨rfl, of_decide_eq_true q2⟩⟩
  · rintro ⟨_, q, q1, q2⟩
    obtain ⟨rfl, q3⟩ := of_decide_eq_true q2
    exact ⟨q, List.mem_filter.mpr ⟨q1, decide_eq_true q3⟩, rfl⟩
theorem rng_ints (m : Nat) : rngD 0 ((m : Nat) : Int).toNat = (intsN m).map PyData.int := by
  unfold rngD intsN
  rw [List.map_map, Int.toNat_natCast]
  exact List.map_congr_left fun k _ => by show PyData.int (0 + (k : Int)) = PyData.int k; rw [Int.zero_add]
theorem any_eqv (l : List Int) (x : Int) : ((l.map PyData.int).any fun z => PyData.eqv z (.int x)) = l.any fun y => decide (y = x) := by
  rw [List.any_map]
  rfl
/-- a pair fits a guest -/
def fitG (feet pairs : List Int) (g j : Int) : Bool := decide (getI feet g ≤ getI pairs j)
/-- how the guests go: each takes a pair that fits, that the rule likes, or there is none -/
def Gs (rl : Int → Int → Prop) (feet pairs : List Int) : List Int → List (Int × Int) → Prop
  | _, [] => True
  | left, q :: r => ((∀ j ∈ left, fitG feet pairs q.1 j = false) ∧ q.2 = -1 ∧ Gs rl feet pairs left r) ∨
      (q.2 ∈ left ∧ fitG feet pairs q.1 q.2 = true ∧ (∀ i ∈ left, fitG feet pairs q.1 i = true → rl q.2 i) ∧ Gs rl feet pairs (left.erase q.2) r)
def srv (run : List (Int × Int)) : Nat := (run.filter fun q => decide (q.2 ≠ -1)).length
theorem srv_cons (q : Int × Int) (r : List (Int × Int)) : srv (q :: r) = srv r + if q.2 = -1 then 0 else 1 := by
  unfold srv
  rw [List.filter_cons]
  by_cases h : q.2 = -1
  · rw [if_pos h, if_neg (by simp [h])]; rfl
  · rw [if_neg h, if_pos (by simpa using h)]; rfl
theorem Gs.mono {rl rl' : Int → Int → Prop} {feet pairs : List Int} (h : ∀ a b, rl a b → rl' a b) : ∀ {run : List (Int × Int)} {left : List Int}, Gs rl feet pairs left run → Gs rl' feet pairs left run
  | [], _, _ => trivial
  | q :: r, left, g => by
    rcases g with ⟨a, b, c⟩ | ⟨a, b, c, d⟩
    · exact .inl ⟨a, b, c.mono h⟩
    · exact .inr ⟨a, b, fun i hi hf => h _ _ (c i hi hf), d.mono h⟩
theorem Gs.perm {rl : Int → Int → Prop} {feet pairs : List Int} : ∀ {run : List (Int × Int)} {left left' : List Int}, left.Perm left' → Gs rl feet pairs left run → Gs rl feet pairs left' run
  | [], _, _, _, _ => trivial
  | q :: r, left, left', hp, g => by
    rcases g with ⟨a, b, c⟩ | ⟨a, b, c, d⟩
    · exact .inl ⟨fun j hj => a j (hp.mem_iff.mpr hj), b, c.perm hp⟩
    · exact .inr ⟨hp.mem_iff.mp a, b, fun i hi => c i (hp.mem_iff.mpr hi), d.perm (hp.erase _)⟩
/-- feet and sizes that are still there -/
def ftR (feet : List Int) (run : List (Int × Int)) : List Int := run.map fun q => getI feet q.1
def szL (pairs left : List Int) : List Int := left.map (getI pairs)
theorem cP_erase (pairs : List Int) {left : List Int} {j : Int} (h : j ∈ left) (s : Int) : cP (szL pairs left) s = cP (szL pairs (left.erase j)) s + if s ≤ getI pairs j then 1 else 0 := by
  have := (List.perm_cons_erase h).map (getI pairs)
  unfold szL
  rw [cP_perm this, List.map_cons, cP_cons]
theorem cF_mono (l : List Int) {s t : Int} (h : s ≤ t) : cF l s ≤ cF l t := by
  unfold cF
  rw [← List.countP_eq_length_filter, ← List.countP_eq_length_filter]
  exact List.countP_mono_left fun x _ hx => decide_eq_true (Int.lt_of_lt_of_le (of_decide_eq_true hx) h)
theorem ne_of_left {left : List Int} (hn : ∀ j ∈ left, 0 ≤ j) {j : Int} (h : j ∈ left) : ¬ j = -1 := by have := hn j h; omega
theorem none_cP {feet pairs left : List Int} {g : Int} (a : ∀ j ∈ left, fitG feet pairs g j = false) : cP (szL pairs left) (getI feet g) = 0 := cP_zero fun x hx => by
  obtain ⟨j, hj, rfl⟩ := List.mem_map.mp hx
  have := of_decide_eq_false (a j hj)
  omega
/-- in each run at most as many are served as every size tells -/
theorem gs_upper {rl : Int → Int → Prop} {feet pairs : List Int} : ∀ {run : List (Int × Int)} {left : List Int}, (∀ j ∈ left, 0 ≤ j) → Gs rl feet pairs left run → ∀ s, srv run ≤ cF (ftR feet run) s + cP (szL pairs left) s
  | [], _, _, _, _ => Nat.zero_le _
  | q :: r, left, hn, g, s => by
    rw [srv_cons]
    show _ ≤ cF (getI feet q.1 :: ftR feet r) s + _
    rw [cF_cons]
    rcases g with ⟨_, b, c⟩ | ⟨a, b, _, d⟩
    · rw [if_pos b]
      have := gs_upper hn c s
      omega
    · have := gs_upper (fun j hj => hn j (List.mem_of_mem_erase hj)) d s
      rw [if_neg (ne_of_left hn a), cP_erase pairs a]
      have := of_decide_eq_true b
      split <;> split <;> omega
/-- .. and at least as many as some size tells -/
theorem gs_lower {rl : Int → Int → Prop} {feet pairs : List Int} (top : Int) : ∀ {run : List (Int × Int)} {left : List Int}, (∀ j ∈ left, 0 ≤ j) → (∀ j ∈ left, getI pairs j < top) → Gs rl feet pairs left run → ∃ s, max (cF (ftR feet run) s) (cP (szL pairs left) s) ≤ srv run
  | [], left, _, ht, _ => ⟨top, by
    have : cP (szL pairs left) top = 0 := cP_zero fun x hx => by obtain ⟨j, hj, rfl⟩ := List.mem_map.mp hx; exact ht j hj
    rw [this]
    exact Nat.le_refl _⟩
  | q :: r, left, hn, ht, g => by
    rw [srv_cons]
    rcases g with ⟨a, b, c⟩ | ⟨a, b, _, d⟩
    · rw [if_pos b]
      obtain ⟨s, hs⟩ := gs_lower top hn ht c
      by_cases h : s ≤ getI feet q.1
      · refine ⟨s, ?_⟩
        show max (cF (getI feet q.1 :: ftR feet r) s) _ ≤ _
        rw [cF_cons, if_neg (by omega)]
        exact hs
      · refine ⟨getI feet q.1, ?_⟩
        show max (cF (getI feet q.1 :: ftR feet r) _) _ ≤ _
        rw [cF_cons, if_neg (by omega), none_cP a]
        have := cF_mono (ftR feet r) (s := getI feet q.1) (t := s) (by omega)
        omega
    · rw [if_neg (ne_of_left hn a)]
      obtain ⟨s, hs⟩ := gs_lower top (fun j hj => hn j (List.mem_of_mem_erase hj)) (fun j hj => ht j (List.mem_of_mem_erase hj)) d
      refine ⟨s, ?_⟩
      show max (cF (getI feet q.1 :: ftR feet r) s) _ ≤ _
      rw [cF_cons, cP_erase pairs a]
      split <;> split <;> omega
/-- if all take the smallest pair, some size tells just their number -/
theorem gs_small {feet pairs : List Int} (top : Int) : ∀ {run : List (Int × Int)} {left : List Int}, (∀ j ∈ left, 0 ≤ j) → (∀ j ∈ left, getI pairs j < top) → Gs (fun a b => getI pairs a ≤ getI pairs b) feet pairs left run → ∃ s, cF (ftR feet run) s + cP (szL pairs left) s ≤ srv run
  | [], left, _, ht, _ => ⟨top, by
    have : cP (szL pairs left) top = 0 := cP_zero fun x hx => by obtain ⟨j, hj, rfl⟩ := List.mem_map.mp hx; exact ht j hj
    rw [this]
    exact Nat.le_refl _⟩
  | q :: r, left, hn, ht, g => by
    rw [srv_cons]
    rcases g with ⟨a, b, c⟩ | ⟨a, b, e, d⟩
    · rw [if_pos b]
      obtain ⟨s, hs⟩ := gs_small top hn ht c
      by_cases h : s ≤ getI feet q.1
      · refine ⟨s, ?_⟩
        show cF (getI feet q.1 :: ftR feet r) s + _ ≤ _
        rw [cF_cons, if_neg (by omega)]
        exact hs
      · refine ⟨getI feet q.1, ?_⟩
        show cF (getI feet q.1 :: ftR feet r) _ + _ ≤ _
        rw [cF_cons, if_neg (by omega), none_cP a]
        have := cF_mono (ftR feet r) (s := getI feet q.1) (t := s) (by omega)
        omega
    · rw [if_neg (ne_of_left hn a)]
      have hb := of_decide_eq_true b
      obtain ⟨s, hs⟩ := gs_small top (fun j hj => hn j (List.mem_of_mem_erase hj)) (fun j hj => ht j (List.mem_of_mem_erase hj)) d
      by_cases h : getI feet q.1 < s ∧ s ≤ getI pairs q.2
      · refine ⟨getI feet q.1, ?_⟩
        show cF (getI feet q.1 :: ftR feet r) _ + _ ≤ _
        rw [cF_cons, if_neg (by omega), cP_erase pairs a, if_pos hb]
        have h1 := cF_mono (ftR feet r) (s := getI feet q.1) (t := s) (by omega)
        have h2 : cP (szL pairs (left.erase q.2)) (getI feet q.1) ≤ cP (szL pairs (left.erase q.2)) s := by
          unfold cP
          rw [← List.countP_eq_length_filter, ← List.countP_eq_length_filter]
          refine List.countP_mono_left fun x hx hq => ?_
          obtain ⟨i, hi, rfl⟩ := List.mem_map.mp hx
          have := e i (List.mem_of_mem_erase hi) hq
          exact decide_eq_true (by omega)
        omega
      · refine ⟨s, ?_⟩
        show cF (getI feet q.1 :: ftR feet r) s + _ ≤ _
        rw [cF_cons, cP_erase pairs a]
        split <;> split <;> omega
/-- if the feet ascend and all take the largest pair, no more are served than every size tells -/
theorem gs_large {feet pairs : List Int} : ∀ {run : List (Int × Int)} {left : List Int}, (∀ j ∈ left, 0 ≤ j) → (ftR feet run).Pairwise (· ≤ ·) → Gs (fun a b => getI pairs b ≤ getI pairs a) feet pairs left run → ∀ s, srv run ≤ max (cF (ftR feet run) s) (cP (szL pairs left) s)
  | [], _, _, _, _, _ => Nat.zero_le _
  | q :: r, left, hn, hp, g, s => by
    rw [srv_cons]
    obtain ⟨p1, p2⟩ : (∀ x ∈ ftR feet r, getI feet q.1 ≤ x) ∧ (ftR feet r).Pairwise (· ≤ ·) := List.pairwise_cons.mp hp
    show _ ≤ max (cF (getI feet q.1 :: ftR feet r) s) _
    rw [cF_cons]
    rcases g with ⟨a, b, c⟩ | ⟨a, b, e, d⟩
    · rw [if_pos b]
      have h0 := gs_large hn p2 c (getI feet q.1)
      rw [none_cP a, cF_zero p1] at h0
      omega
    · rw [if_neg (ne_of_left hn a)]
      have hb := of_decide_eq_true b
      have hs := gs_large (fun j hj => hn j (List.mem_of_mem_erase hj)) p2 d s
      rw [cP_erase pairs a]
      by_cases h1 : s ≤ getI feet q.1
      · rw [if_neg (show ¬ getI feet q.1 < s by omega), if_pos (show s ≤ getI pairs q.2 by omega)]
        have : cF (ftR feet r) s = 0 := cF_zero fun x hx => Int.le_trans h1 (p1 x hx)
        omega
      · by_cases h2 : s ≤ getI pairs q.2
        · rw [if_pos (show getI feet q.1 < s by omega), if_pos h2]; omega
        · rw [if_pos (show getI feet q.1 < s by omega), if_neg h2]
          have : cP (szL pairs (left.erase q.2)) s = 0 := cP_zero fun x hx => by
            obtain ⟨i, hi, rfl⟩ := List.mem_map.mp hx
            have hi' := List.mem_of_mem_erase hi
            by_cases f : fitG feet pairs q.1 i = true
            · have := e i hi' f; omega
            · have := of_decide_eq_false (Bool.eq_false_iff.mpr f); omega
          omega
/-- the guests one after another, by a list of liking -/
def byL (feet pairs : List Int) : List Int → List Int → List (Int × Int)
  | _, [] => []
  | left, g :: order =>
    match left.filter fun j => decide (getI feet g ≤ getI pairs j) with
    | [] => (g, -1) :: byL feet pairs left order
    | j :: _ => (g, j) :: byL feet pairs (left.erase j) order
theorem byL_nil {feet pairs left : List Int} {g : Int} {order : List Int} (e : (left.filter fun j => decide (getI feet g ≤ getI pairs j)) = []) : byL feet pairs left (g :: order) = (g, -1) :: byL feet pairs left order := by
  rw [byL]; simp only [e]
theorem byL_cons {feet pairs left : List Int} {g j : Int} {js order : List Int} (e : (left.filter fun j => decide (getI feet g ≤ getI pairs j)) = j :: js) : byL feet pairs left (g :: order) = (g, j) :: byL feet pairs (left.erase j) order := by
  rw [byL]; simp only [e]
theorem byL_fold (feet pairs : List Int) : ∀ (order left : List Int) (r : List (Int × Int)), (order.foldl (stepF feet pairs) (left, r)).2 = r ++ byL feet pairs left order
  | [], _, r => by simp [byL]
  | g :: order, left, r => by
    rw [List.foldl_cons]
    cases e : left.filter fun j => decide (getI feet g ≤ getI pairs j) with
    | nil =>
      rw [show stepF feet pairs (left, r) g = (left, r ++ [(g, -1)]) by unfold stepF; simp only [e], byL_fold feet pairs order, byL_nil e, List.append_assoc]
      rfl
    | cons j js =>
      rw [show stepF feet pairs (left, r) g = (left.erase j, r ++ [(g, j)]) by unfold stepF; simp only [e], byL_fold feet pairs order, byL_cons e, List.append_assoc]
      rfl
theorem byL_fst (feet pairs : List Int) : ∀ (order left : List Int), (byL feet pairs left order).map (·.1) = order
  | [], _ => rfl
  | g :: order, left => by
    unfold byL
    split
    · rw [List.map_cons, byL_fst feet pairs order]
    · rw [List.map_cons, byL_fst feet pairs order]
theorem byL_gs {rl : Int → Int → Prop} (hr : ∀ a, rl a a) (feet pairs : List Int) : ∀ (order left : List Int), left.Pairwise rl → Gs rl feet pairs left (byL feet pairs left order)
  | [], _, _ => trivial
  | g :: order, left, hp => by
    unfold byL
    split
    · rename_i e
      refine .inl ⟨fun j hj => ?_, rfl, byL_gs hr feet pairs order left hp⟩
      have := List.filter_eq_nil_iff.mp e j hj
      exact Bool.eq_false_iff.mpr this
    · rename_i j js e
      have hj : j ∈ left.filter fun j => decide (getI feet g ≤ getI pairs j) := by rw [e]; simp
      obtain ⟨h1, h2⟩ := List.mem_filter.mp hj
      refine .inr ⟨h1, h2, fun i hi hf => ?_, byL_gs hr feet pairs order (left.erase j) (hp.sublist List.erase_sublist)⟩
      have hi : i ∈ left.filter fun j => decide (getI feet g ≤ getI pairs j) := List.mem_filter.mpr ⟨hi, hf⟩
      have hps := hp.filter fun j => decide (getI feet g ≤ getI pairs j)
      rw [e] at hi hps
      rcases List.mem_cons.mp hi with rfl | hi
      · exact hr _
      · exact (List.pairwise_cons.mp hps).1 i hi
/-- a run of the hall -/
structure RunV (rl : Int → Int → Prop) (feet pairs : List Int) (run : List (Int × Int)) : Prop where
  g : (run.map (·.1)).Perm (intsN feet.length)
  s : Gs rl feet pairs (intsN pairs.length) run
abbrev anyR : Int → Int → Prop := fun _ _ => True
theorem RunV.any {rl : Int → Int → Prop} {feet pairs : List Int} {run : List (Int × Int)} (h : RunV rl feet pairs run) : RunV anyR feet pairs run := ⟨h.g, h.s.mono fun _ _ _ => trivial⟩
theorem szL_ints (xs : List Int) : szL xs (intsN xs.length) = xs := by
  unfold szL intsN
  rw [List.map_map]
  apply List.ext_getElem?
  intro i
  rw [List.getElem?_map]
  by_cases h : i < xs.length
  · simp [h, getI]
  · simp [h]
theorem ftR_perm {rl : Int → Int → Prop} {feet pairs : List Int} {run : List (Int × Int)} (h : RunV rl feet pairs run) : (ftR feet run).Perm feet := by
  have := h.g.map (getI feet)
  rw [List.map_map] at this
  have e := szL_ints feet
  unfold szL at e
  rw [e] at this
  exact this
theorem run_le {rl : Int → Int → Prop} {feet pairs : List Int} {run : List (Int × Int)} (h : RunV rl feet pairs run) (s : Int) : srv run ≤ cF feet s + cP pairs s := by
  have := gs_upper (fun j hj => (mem_intsN hj).1) h.s s
  rwa [cF_perm (ftR_perm h), szL_ints] at this
theorem getI_lt {xs : List Int} {top : Int} (h : ∀ x ∈ xs, x < top) {j : Int} (hj : j ∈ intsN xs.length) : getI xs j < top := by
  have := mem_intsN hj
  have hk : j.toNat < xs.length := by omega
  unfold getI
  rw [List.getElem?_eq_getElem hk]
  exact h _ (List.getElem_mem hk)
theorem exists_top (xs : List Int) : ∃ top : Int, ∀ x ∈ xs, x < top := by
  induction xs with
  | nil => exact ⟨0, fun _ h => nomatch h⟩
  | cons a l ih =>
    obtain ⟨t, h⟩ := ih
    refine ⟨max (a + 1) t, fun x hx => ?_⟩
    rcases List.mem_cons.mp hx with rfl | hx
    · omega
    · have := h x hx; omega
theorem run_ge {rl : Int → Int → Prop} {feet pairs : List Int} {run : List (Int × Int)} (h : RunV rl feet pairs run) : ∃ s, max (cF feet s) (cP pairs s) ≤ srv run := by
  obtain ⟨top, ht⟩ := exists_top pairs
  obtain ⟨s, hs⟩ := gs_lower top (fun j hj => (mem_intsN hj).1) (fun j hj => getI_lt ht hj) h.s
  rw [cF_perm (ftR_perm h), szL_ints] at hs
  exact ⟨s, hs⟩
theorem run_most {rl : Int → Int → Prop} {feet pairs : List Int} {run : List (Int × Int)} (h : RunV rl feet pairs run) {m : Int} (hm : IsMost feet pairs m) : (srv run : Int) ≤ m := by
  obtain ⟨⟨s, e⟩, _⟩ := hm
  have := run_le h s
  omega
theorem run_few {rl : Int → Int → Prop} {feet pairs : List Int} {run : List (Int × Int)} (h : RunV rl feet pairs run) {m : Int} (hm : IsFew feet pairs m) : m ≤ (srv run : Int) := by
  obtain ⟨s, e⟩ := run_ge h
  have := hm.2 s
  omega
theorem run_small {feet pairs : List Int} {run : List (Int × Int)} (h : RunV (fun a b => getI pairs a ≤ getI pairs b) feet pairs run) {m : Int} (hm : IsMost feet pairs m) : (srv run : Int) = m := by
  obtain ⟨top, ht⟩ := exists_top pairs
  obtain ⟨s, hs⟩ := gs_small top (fun j hj => (mem_intsN hj).1) (fun j hj => getI_lt ht hj) h.s
  rw [cF_perm (ftR_perm h), szL_ints] at hs
  have := hm.2 s
  have := run_most h hm
  omega
theorem run_large {feet pairs : List Int} {run : List (Int × Int)} (h : RunV (fun a b => getI pairs b ≤ getI pairs a) feet pairs run) (hs : (ftR feet run).Pairwise (· ≤ ·)) {m : Int} (hm : IsFew feet pairs m) : (srv run : Int) = m := by
  obtain ⟨s, e⟩ := hm.1
  have h1 := gs_large (fun j hj => (mem_intsN hj).1) hs h.s s
  rw [cF_perm (ftR_perm h), szL_ints] at h1
  have := run_few h hm
  omega
instance (key : Int → Int) (a b : Int) : Decidable (Lx key a b) := inferInstanceAs (Decidable (_ ∨ _))
def likeO (key : Int → Int) (m : Nat) : List Int := (intsN m).mergeSort fun a b => decide (Lx key a b)
theorem likeO_perm (key : Int → Int) (m : Nat) : (likeO key m).Perm (intsN m) := List.mergeSort_perm _ _
theorem likeO_sorted (key : Int → Int) (m : Nat) : (likeO key m).Pairwise (Lx key) := by
  refine (List.pairwise_mergeSort (fun a b c h1 h2 => ?_) (fun a b => ?_) (intsN m)).imp fun h => of_decide_eq_true h
  · have h1 := of_decide_eq_true h1
    have h2 := of_decide_eq_true h2
    refine decide_eq_true ?_
    unfold Lx at *
    omega
  · rw [Bool.or_eq_true, decide_eq_true_eq, decide_eq_true_eq]
    unfold Lx
    omega
theorem Lx_uniq {key : Int → Int} : ∀ {l m : List Int}, l.Perm m → l.Pairwise (Lx key) → m.Pairwise (Lx key) → l = m
  | [], m, hp, _, _ => hp.nil_eq
  | a :: l, [], hp, _, _ => hp.eq_nil
  | a :: l, b :: m, hp, h1, h2 => by
    obtain ⟨p1, p2⟩ := List.pairwise_cons.mp h1
    obtain ⟨q1, q2⟩ := List.pairwise_cons.mp h2
    have e : a = b := by
      have ha : a ∈ b :: m := hp.mem_iff.mp (by simp)
      have hb : b ∈ a :: l := hp.mem_iff.mpr (by simp)
      rcases List.mem_cons.mp ha with h | h
      · exact h
      · rcases List.mem_cons.mp hb with h' | h'
        · exact h'.symm
        · have x := p1 b h'
          have y := q1 a h
          unfold Lx at x y
          omega
    subst e
    rw [Lx_uniq hp.cons_inv p2 q2]
theorem ruled_byL (key : Int → Int) (feet pairs order : List Int) : ruled key feet pairs order = byL feet pairs (likeO key pairs.length) order := by
  unfold ruled
  rw [← run_same key feet pairs order (likeO key pairs.length) (intsN pairs.length) [] (likeO_perm _ _) (likeO_sorted _ _) (intsN_lt _) fun x hx => (mem_intsN hx).1, byL_fold]
  rfl
theorem ruled_runV (key : Int → Int) (feet pairs : List Int) {order : List Int} (h : order.Perm (intsN feet.length)) : RunV (Lx key) feet pairs (ruled key feet pairs order) := by
  rw [ruled_byL]
  exact ⟨by rw [byL_fst]; exact h, (byL_gs (fun a => .inr ⟨rfl, Int.le_refl a⟩) feet pairs order _ (likeO_sorted _ _)).perm (likeO_perm _ _)⟩
theorem ruled_small (feet pairs : List Int) {order : List Int} (h : order.Perm (intsN feet.length)) : RunV (fun a b => getI pairs a ≤ getI pairs b) feet pairs (ruled (getI pairs) feet pairs order) :=
  let r := ruled_runV (getI pairs) feet pairs h
  ⟨r.g, r.s.mono fun a b h => by unfold Lx at h; omega⟩
theorem ruled_large (feet pairs : List Int) {order : List Int} (h : order.Perm (intsN feet.length)) : RunV (fun a b => getI pairs b ≤ getI pairs a) feet pairs (ruled (fun j => -getI pairs j) feet pairs order) :=
  let r := ruled_runV (fun j => -getI pairs j) feet pairs h
  ⟨r.g, r.s.mono fun a b h => by unfold Lx at h; simp only at h; omega⟩
def obf (feet : List Int) : List Int := likeO (getI feet) feet.length
theorem obf_perm (feet : List Int) : (obf feet).Perm (intsN feet.length) := likeO_perm _ _
theorem obf_rise (feet pairs : List Int) (key : Int → Int) : (ftR feet (ruled key feet pairs (obf feet))).Pairwise (· ≤ ·) := by
  have e : ftR feet (ruled key feet pairs (obf feet)) = (obf feet).map (getI feet) := by
    unfold ftR
    rw [ruled_byL]
    conv => rhs; rw [← byL_fst feet pairs (obf feet) (likeO key pairs.length), List.map_map]
    rfl
  rw [e, List.pairwise_map]
  exact (likeO_sorted _ _).imp fun h => by unfold Lx at h; omega
theorem obf_few (feet pairs : List Int) {m : Int} (hm : IsFew feet pairs m) : (srv (ruled (fun j => -getI pairs j) feet pairs (obf feet)) : Int) = m :=
  run_large (ruled_large feet pairs (obf_perm feet)) (obf_rise _ _ _) hm
/-- sorted, each once -/
def insU (a : Int) : List Int → List Int
  | [] => [a]
  | b :: l => if a < b then a :: b :: l else if a = b then b :: l else b :: insU a l
theorem mem_insU {a x : Int} : ∀ {l : List Int}, x ∈ insU a l ↔ x = a ∨ x ∈ l
  | [] => by simp [insU]
  | b :: l => by
    unfold insU
    split
    · simp
    · split
      · rename_i h; subst h; simp
      · rw [List.mem_cons, mem_insU (l := l), List.mem_cons]
        constructor
        · rintro (h | h | h) <;> simp [h]
        · rintro (h | h | h) <;> simp [h]
theorem insU_sorted (a : Int) : ∀ {l : List Int}, l.Pairwise (· < ·) → (insU a l).Pairwise (· < ·)
  | [], _ => List.pairwise_singleton _ _
  | b :: l, h => by
    obtain ⟨h1, h2⟩ := List.pairwise_cons.mp h
    unfold insU
    split
    · rename_i hab
      exact List.pairwise_cons.mpr ⟨fun x hx => by
        rcases List.mem_cons.mp hx with rfl | hx
        · exact hab
        · exact Int.lt_trans hab (h1 x hx), h⟩
    · split
      · exact h
      · refine List.pairwise_cons.mpr ⟨fun x hx => ?_, insU_sorted a h2⟩
        rcases mem_insU.mp hx with rfl | hx
        · omega
        · exact h1 x hx
def sd (xs : List Int) : List Int := xs.foldr insU []
theorem sd_sorted : ∀ xs : List Int, (sd xs).Pairwise (· < ·)
  | [] => List.Pairwise.nil
  | x :: xs => insU_sorted x (sd_sorted xs)
theorem mem_sd {k : Int} : ∀ {xs : List Int}, k ∈ sd xs ↔ k ∈ xs
  | [] => Iff.rfl
  | x :: xs => by
    show k ∈ insU x (sd xs) ↔ _
    rw [mem_insU, mem_sd (xs := xs), List.mem_cons]
theorem sd_uniq {xs ms : List Int} (h : ms.Pairwise (· < ·)) (hm : ∀ k, k ∈ ms ↔ k ∈ xs) : ms = sd xs := by
  have hp : ms.Perm (sd xs) := (List.perm_ext_iff_of_nodup (h.imp fun h => Int.ne_of_lt h) ((sd_sorted xs).imp fun h => Int.ne_of_lt h)).mpr fun k => (hm k).trans mem_sd.symm
  exact Lx_uniq (key := id) hp (h.imp fun h => .inl h) ((sd_sorted xs).imp fun h => .inl h)
theorem like_of {key : Int → Int} {m : Nat} {qs : List (Int × Int)} (hp : qs.Perm ((intsN m).map fun j => (key j, j))) (hs : qs.Pairwise fun p q => p.1 < q.1 ∨ (p.1 = q.1 ∧ p.2 ≤ q.2)) : qs.map (·.2) = likeO key m := by
  have hp2 : (qs.map (·.2)).Perm (intsN m) := by
    have := hp.map (·.2)
    rw [List.map_map] at this
    rwa [show ((fun x : Int × Int => x.2) ∘ fun j => (key j, j)) = id from rfl, List.map_id] at this
  refine Lx_uniq (hp2.trans (likeO_perm key m).symm) ?_ (likeO_sorted key m)
  rw [List.pairwise_map]
  refine hs.imp_of_mem fun {a b} ha hb h => ?_
  obtain ⟨x, _, rfl⟩ := List.mem_map.mp (hp.mem_iff.mp ha)
  obtain ⟨y, _, rfl⟩ := List.mem_map.mp (hp.mem_iff.mp hb)
  exact h
theorem RunV.len {rl : Int → Int → Prop} {feet pairs : List Int} {run : List (Int × Int)} (h : RunV rl feet pairs run) : run.length = feet.length := by
  have := h.g.length_eq
  rwa [List.length_map, intsN_len] at this
theorem RunV.nd {rl : Int → Int → Prop} {feet pairs : List Int} {run : List (Int × Int)} (h : RunV rl feet pairs run) : (run.map (·.1)).Nodup := h.g.nodup_iff.mpr ((intsN_lt _).imp fun h => Int.ne_of_lt h)
theorem gs_snd {rl : Int → Int → Prop} {feet pairs : List Int} : ∀ {run : List (Int × Int)} {left : List Int}, Gs rl feet pairs left run → ∀ q ∈ run, q.2 = -1 ∨ q.2 ∈ left
  | [], _, _, _, h => nomatch h
  | p :: r, left, g, q, hq => by
    rcases List.mem_cons.mp hq with rfl | hq
    · rcases g with ⟨_, b, _⟩ | ⟨a, _⟩
      · exact .inl b
      · exact .inr a
    · rcases g with ⟨_, _, c⟩ | ⟨_, _, _, d⟩
      · exact gs_snd c q hq
      · exact (gs_snd d q hq).imp id List.mem_of_mem_erase
theorem RunV.snd {rl : Int → Int → Prop} {feet pairs : List Int} {run : List (Int × Int)} (h : RunV rl feet pairs run) {q : Int × Int} (hq : q ∈ run) : -1 ≤ q.2 ∧ (q.2 < (pairs.length : Int) ∨ q.2 = -1) := by
  rcases gs_snd h.s q hq with e | e
  · exact ⟨by omega, .inr e⟩
  · have := mem_intsN e; exact ⟨by omega, .inl this.2⟩
def leftT (m : Nat) (taken : List Int) : List Int := (intsN m).filter fun j => decide (j ∉ taken)
theorem leftT_nil (m : Nat) : leftT m [] = intsN m := List.filter_eq_self.mpr fun x _ => by simp
theorem leftT_lt (m : Nat) (taken : List Int) : (leftT m taken).Pairwise (· < ·) := (intsN_lt m).filter _
theorem leftT_erase (m : Nat) (taken : List Int) (j : Int) : (leftT m taken).erase j = leftT m (taken ++ [j]) := by
  rw [erase_filter ((leftT_lt m taken).imp fun h => Int.ne_of_lt h)]
  unfold leftT
  rw [List.filter_filter]
  refine List.filter_congr fun x _ => ?_
  by_cases h : x = j <;> by_cases h2 : x ∈ taken <;> simp [h, h2]
theorem ifN {b : Bool} {A B : Prop} (hb : b = true) (h : B) : if (!b) = true then A else B := by subst hb; exact h
theorem ifNF {b : Bool} {A B : Prop} (hb : b = false) (h : A) : if (!b) = true then A else B := by subst hb; exact h
theorem inT {l : List Int} {x : Int} : ((l.map PyData.int).any fun z => PyData.eqv z (.int x)) = decide (x ∈ l) := by
  rw [any_eqv]
  by_cases h : x ∈ l
  · rw [decide_eq_true h, List.any_eq_true]
    exact ⟨x, h, by simp⟩
  · rw [decide_eq_false h, List.any_eq_false]
    intro y hy
    simp
    rintro rfl
    exact h hy
theorem ninF {l : List Int} {x : Int} {A B : Prop} (h : x ∈ l) (hB : B) : if (!((l.map PyData.int).any fun z => PyData.eqv z (.int x))) = true then A else B := ifN (by rw [inT]; exact decide_eq_true h) hB
theorem ninT {l : List Int} {x : Int} {A B : Prop} (h : x ∉ l) (hB : A) : if (!((l.map PyData.int).any fun z => PyData.eqv z (.int x))) = true then A else B := ifNF (by rw [inT]; exact decide_eq_false h) hB
def runD (run : List (Int × Int)) : PyData := .tuple (run.map prD)
def largeR (feet pairs : List Int) : List (Int × Int) := ruled (fun j => -getI pairs j) feet pairs (obf feet)
theorem large_v (feet pairs : List Int) : RunV (fun a b => getI pairs b ≤ getI pairs a) feet pairs (largeR feet pairs) := ruled_large feet pairs (obf_perm feet)
theorem large_n {feet pairs : List Int} {m : Int} (h : IsFew feet pairs m) : (srv (largeR feet pairs) : Int) = m := obf_few feet pairs h
def srt (P : List Int) : List Int := P.mergeSort fun a b => decide (a ≤ b)
theorem srt_perm (P : List Int) : (srt P).Perm P := List.mergeSort_perm _ _
theorem le_tot (a b : Int) : (decide (a ≤ b) || decide (b ≤ a)) = true := by
  rw [Bool.or_eq_true, decide_eq_true_eq, decide_eq_true_eq]
  exact Int.le_total a b
theorem srt_sorted (P : List Int) : (srt P).Pairwise (· ≤ ·) :=
  (List.pairwise_mergeSort (le := fun a b : Int => decide (a ≤ b)) (fun a b c h1 h2 => decide_eq_true (Int.le_trans (of_decide_eq_true h1) (of_decide_eq_true h2))) le_tot P).imp fun h => of_decide_eq_true h
theorem find_some {n k : Nat} {p : Nat → Bool} (h1 : k < n) (h2 : p k = true) (h3 : ∀ j < k, p j = false) : (List.range n).find? p = some k :=
  List.find?_range_eq_some.mpr ⟨h2, List.mem_range.mpr h1, fun j hj => by rw [h3 j hj]; rfl⟩
theorem find_none {n : Nat} {p : Nat → Bool} (h : ∀ j < n, p j = false) : (List.range n).find? p = none :=
  List.find?_range_eq_none.mpr fun j hj => by rw [h j hj]; rfl
theorem of_some {n k : Nat} {p : Nat → Bool} (h : (List.range n).find? p = some k) : k < n ∧ p k = true ∧ ∀ j < k, p j = false := by
  obtain ⟨a, b, c⟩ := List.find?_range_eq_some.mp h
  exact ⟨List.mem_range.mp b, a, fun j hj => by have := c j hj; simpa using this⟩
theorem of_none {n : Nat} {p : Nat → Bool} (h : (List.range n).find? p = none) : ∀ j < n, p j = false := fun j hj => by
  have := List.find?_range_eq_none.mp h j hj
  simpa using this
theorem cut_drop {α : Type} (xs : List α) (k : Nat) : cutG xs (some (k : Int)) none = xs.drop k := by
  unfold cutG
  have e1 : HT.sIx xs.length 0 (some (k : Int)) = min k xs.length := HT.sIx_nat _ _ _
  have e2 : HT.sIx xs.length xs.length none = xs.length := rfl
  rw [e1, e2]
  by_cases h : k ≤ xs.length
  · rw [Nat.min_eq_left h]
    exact List.take_of_length_le (by rw [List.length_drop]; omega)
  · rw [Nat.min_eq_right (by omega), List.drop_length, List.drop_of_length_le (by omega)]
    simp
theorem cut_take {α : Type} (xs : List α) (k : Nat) : cutG xs none (some (k : Int)) = xs.take k := by
  unfold cutG
  have e1 : HT.sIx xs.length xs.length (some (k : Int)) = min k xs.length := HT.sIx_nat _ _ _
  have e2 : HT.sIx xs.length 0 none = 0 := rfl
  rw [e1, e2, List.drop_zero, Nat.sub_zero]
  by_cases h : k ≤ xs.length
  · rw [Nat.min_eq_left h]
  · rw [Nat.min_eq_right (by omega), List.take_length, List.take_of_length_le (by omega)]
theorem neB {a b : Bool} {A B : Prop} (e : a = b) (h : B) : if (!PyData.eqv (.bool a) (.bool b)) = true then A else B := by
  subst e
  cases a <;> exact iteF h
theorem neg_not (m : Nat) (T : List Int) : (-1 : Int) ∉ leftT m T := fun h => by
  have := (mem_intsN (List.mem_filter.mp h).1).1
  omega
def okq (feet pairs left : List Int) (q : Int × Int) : Prop := ((∀ j ∈ left, fitG feet pairs q.1 j = false) ∧ q.2 = -1) ∨ (q.2 ∈ left ∧ fitG feet pairs q.1 q.2 = true)
theorem gs_append {feet pairs : List Int} {m : Nat} (q : Int × Int) : ∀ (r : List (Int × Int)) (T : List Int), Gs anyR feet pairs (leftT m T) (r ++ [q]) ↔ (Gs anyR feet pairs (leftT m T) r ∧ okq feet pairs (leftT m (T ++ r.map (·.2))) q)
  | [], T => by
    rw [List.nil_append, List.map_nil, List.append_nil]
    constructor
    · rintro (⟨a, b, _⟩ | ⟨a, b, _, _⟩)
      · exact ⟨trivial, .inl ⟨a, b⟩⟩
      · exact ⟨trivial, .inr ⟨a, b⟩⟩
    · rintro ⟨_, ⟨a, b⟩ | ⟨a, b⟩⟩
      · exact .inl ⟨a, b, trivial⟩
      · exact .inr ⟨a, b, fun _ _ _ => trivial, trivial⟩
  | p :: r, T => by
    have ih := gs_append (feet := feet) (pairs := pairs) (m := m) q r (T ++ [p.2])
    have e : T ++ (p :: r).map (·.2) = T ++ [p.2] ++ r.map (·.2) := by simp
    rw [e]
    constructor
    · rintro (⟨a, b, c⟩ | ⟨a, b, c, d⟩)
      · have e1 : leftT m T = leftT m (T ++ [p.2]) := by rw [← leftT_erase, b, List.erase_of_not_mem (neg_not m T)]
        have c' := c
        rw [e1] at c'
        obtain ⟨h1, h2⟩ := ih.mp c'
        exact ⟨.inl ⟨a, b, by rw [e1]; exact h1⟩, h2⟩
      · rw [leftT_erase] at d
        obtain ⟨h1, h2⟩ := ih.mp d
        exact ⟨.inr ⟨a, b, c, by rw [leftT_erase]; exact h1⟩, h2⟩
    · rintro ⟨⟨a, b, c⟩ | ⟨a, b, c, d⟩, h2⟩
      · have e1 : leftT m T = leftT m (T ++ [p.2]) := by rw [← leftT_erase, b, List.erase_of_not_mem (neg_not m T)]
        have c' := c
        rw [e1] at c'
        exact .inl ⟨a, b, by rw [e1]; exact ih.mpr ⟨c', h2⟩⟩
      · rw [leftT_erase] at d
        exact .inr ⟨a, b, c, by rw [leftT_erase]; exact ih.mpr ⟨d, h2⟩⟩
def choices (feet pairs left : List Int) (g : Int) : List Int := if left.filter (fitG feet pairs g) = [] then [-1] else left.filter (fitG feet pairs g)
theorem mem_choices {feet pairs : List Int} {m : Nat} {T : List Int} {g j : Int} : j ∈ choices feet pairs (leftT m T) g ↔ okq feet pairs (leftT m T) (g, j) := by
  unfold choices okq
  by_cases h : (leftT m T).filter (fitG feet pairs g) = []
  · rw [if_pos h, List.mem_singleton]
    have h' := List.filter_eq_nil_iff.mp h
    constructor
    · intro e
      exact .inl ⟨fun i hi => by simpa using h' i hi, e⟩
    · rintro (⟨_, b⟩ | ⟨a, b⟩)
      · exact b
      · exact absurd b (h' j a)
  · rw [if_neg h, List.mem_filter]
    constructor
    · exact fun ⟨a, b⟩ => .inr ⟨a, b⟩
    · rintro (⟨a, _⟩ | ⟨a, b⟩)
      · exact absurd (List.filter_eq_nil_iff.mpr fun i hi => by rw [show fitG feet pairs g i = false from a i hi]; exact Bool.false_ne_true) h
      · exact ⟨a, b⟩
def begun1 (feet pairs : List Int) (row : List (Int × Int)) (g : Int) : List (List (Int × Int)) := (choices feet pairs (leftT pairs.length (row.map (·.2))) g).map fun j => row ++ [(g, j)]
def begunR (feet pairs : List Int) (rows : List (List (Int × Int))) (g : Int) : List (List (Int × Int)) := rows.flatMap fun row => begun1 feet pairs row g
theorem nodup_perm {l m : List Int} (h1 : l.Nodup) (h2 : m.Nodup) (hs : ∀ x ∈ l, x ∈ m) (hl : m.length ≤ l.length) : l.Perm m := by
  refine (List.perm_ext_iff_of_nodup h1 h2).mpr fun a => ⟨hs a, fun ha => ?_⟩
  refine Classical.byContradiction fun hn => ?_
  have := nodup_len (ms := a :: l) (l := m) (List.nodup_cons.mpr ⟨hn, h1⟩) fun x hx => by
    rcases List.mem_cons.mp hx with rfl | hx
    · exact ha
    · exact hs x hx
  rw [List.length_cons] at this
  omega
theorem sh_tints (ns : List Int) : Sh (.tuple (ns.map .int)) :=
  Bool.and_eq_true_iff.mpr ⟨by simp only [PyData.canLay0]; exact canAll fun d hd => by obtain ⟨_, _, rfl⟩ := List.mem_map.mp hd; rfl, decide_eq_true (by
    simp only [PyData.depth]
    exact Nat.le_trans (Nat.succ_le_succ (depthAll_le (k := 0) fun d hd => by obtain ⟨_, _, rfl⟩ := List.mem_map.mp hd; exact Nat.le_refl _)) (by decide))⟩
def bySz (pairs ps : List Int) : List Int := ps.mergeSort fun a b => decide (Lx (getI pairs) a b)
theorem Lx_trans {key : Int → Int} {a b c : Int} (h1 : Lx key a b) (h2 : Lx key b c) : Lx key a c := by unfold Lx at *; omega
theorem Lx_tot (key : Int → Int) (a b : Int) : (decide (Lx key a b) || decide (Lx key b a)) = true := by
  rw [Bool.or_eq_true, decide_eq_true_eq, decide_eq_true_eq]
  unfold Lx
  omega
theorem bySz_perm (pairs ps : List Int) : (bySz pairs ps).Perm ps := List.mergeSort_perm _ _
theorem bySz_sorted (pairs ps : List Int) : (bySz pairs ps).Pairwise (Lx (getI pairs)) :=
  (List.pairwise_mergeSort (le := fun a b : Int => decide (Lx (getI pairs) a b)) (fun a b c h1 h2 => decide_eq_true (Lx_trans (of_decide_eq_true h1) (of_decide_eq_true h2))) (Lx_tot (getI pairs)) ps).imp fun h => of_decide_eq_true h
theorem bySz_of {pairs ps : List Int} {qs : List (Int × Int)} (hp : qs.Perm (ps.map fun j => (getI pairs j, j))) (hs : qs.Pairwise fun p q => p.1 < q.1 ∨ (p.1 = q.1 ∧ p.2 ≤ q.2)) : qs.map (·.2) = bySz pairs ps := by
  have hp2 : (qs.map (·.2)).Perm ps := by
    have := hp.map (·.2)
    rw [List.map_map] at this
    rwa [show ((fun x : Int × Int => x.2) ∘ fun j => (getI pairs j, j)) = id from rfl, List.map_id] at this
  refine Lx_uniq (hp2.trans (bySz_perm pairs ps).symm) ?_ (bySz_sorted pairs ps)
  rw [List.pairwise_map]
  refine hs.imp_of_mem fun {a b} ha hb h => ?_
  obtain ⟨x, _, rfl⟩ := List.mem_map.mp (hp.mem_iff.mp ha)
  obtain ⟨y, _, rfl⟩ := List.mem_map.mp (hp.mem_iff.mp hb)
  exact h
def fitL (feet pairs : List Int) (g : Int) : List Int := (intsN pairs.length).filter fun j => decide (getI feet g ≤ getI pairs j)
def smallL (feet pairs : List Int) (g : Int) : List Int := (intsN pairs.length).filter fun j => decide (getI pairs j < getI feet g)
def othersG (n : Nat) (g : Int) : List Int := (intsN n).filter fun o => decide (o ≠ g)
def againstO (feet : List Int) (others : List Int) : List Int := (obf feet).filter fun o => decide (o ∈ others)
def againstR (feet pairs others : List Int) (g : Int) : List (Int × Int) := byL feet pairs (bySz pairs (fitL feet pairs g) ++ smallL feet pairs g) (againstO feet others ++ [g])
def canTake (F S : List Int) : Bool := S.all fun z => decide ((S.filter fun o => decide (o ≤ z)).length ≤ (F.filter fun f => decide (f ≤ z)).length)
/-- who leaves first the pairs that fit g -/
def rlG (feet pairs : List Int) (g : Int) (i j : Int) : Prop := getI feet g ≤ getI pairs j → (getI feet g ≤ getI pairs i ∧ getI pairs i ≤ getI pairs j)
theorem rlG_refl (feet pairs : List Int) (g a : Int) : rlG feet pairs g a a := fun h => ⟨h, Int.le_refl _⟩
theorem liking_rl (feet pairs : List Int) (g : Int) : (bySz pairs (fitL feet pairs g) ++ smallL feet pairs g).Pairwise (rlG feet pairs g) := by
  rw [List.pairwise_append]
  refine ⟨(bySz_sorted pairs _).imp_of_mem fun {a b} ha hb h => fun _ => ?_, ?_, ?_⟩
  · have ha := of_decide_eq_true (List.mem_filter.mp ((bySz_perm pairs _).mem_iff.mp ha)).2
    unfold Lx at h
    exact ⟨ha, by omega⟩
  · refine List.pairwise_iff_forall_sublist.mpr fun {a b} h hb => ?_
    have := of_decide_eq_true (List.mem_filter.mp (h.subset (show b ∈ [a, b] by simp))).2
    omega
  · intro a ha b hb h
    have := of_decide_eq_true (List.mem_filter.mp hb).2
    omega
theorem liking_perm (feet pairs : List Int) (g : Int) : (bySz pairs (fitL feet pairs g) ++ smallL feet pairs g).Perm (intsN pairs.length) := by
  refine ((bySz_perm pairs _).append_right _).trans ?_
  unfold fitL smallL
  have h := List.filter_append_perm (fun j => decide (getI feet g ≤ getI pairs j)) (intsN pairs.length)
  have e : (intsN pairs.length).filter (fun j => decide (getI pairs j < getI feet g)) = (intsN pairs.length).filter (fun j => !decide (getI feet g ≤ getI pairs j)) := by
    refine List.filter_congr fun x _ => ?_
    by_cases q : getI feet g ≤ getI pairs x
    · rw [decide_eq_true q, decide_eq_false (by omega)]; rfl
    · rw [decide_eq_false q, decide_eq_true (by omega)]; rfl
  rw [e]
  exact h
theorem order_perm {n : Nat} {l : List Int} (h : l.Perm (intsN n)) {g : Int} (hg : g ∈ intsN n) : (l.filter (fun o => decide (o ∈ othersG n g)) ++ [g]).Perm (intsN n) := by
  have nd : (intsN n).Nodup := (intsN_lt n).imp fun h => Int.ne_of_lt h
  have e : l.filter (fun o => decide (o ∈ othersG n g)) = l.filter fun o => decide (o ≠ g) := by
    refine List.filter_congr fun x hx => ?_
    refine decide_eq_decide.mpr ?_
    unfold othersG
    rw [List.mem_filter, decide_eq_true_eq]
    exact ⟨fun q => q.2, fun q => ⟨h.mem_iff.mp hx, q⟩⟩
  rw [e, ← erase_filter (h.nodup_iff.mpr nd)]
  exact (List.perm_append_comm.trans (List.perm_cons_erase (h.mem_iff.mpr hg)).symm).trans h
/-- the run against g -/
theorem against_v {feet pairs : List Int} {g : Int} (hg : g ∈ intsN feet.length) : RunV (rlG feet pairs g) feet pairs (againstR feet pairs (othersG feet.length g) g) := by
  unfold againstR
  refine ⟨by rw [byL_fst]; exact order_perm (obf_perm feet) hg, ?_⟩
  exact (byL_gs (rlG_refl feet pairs g) feet pairs _ _ (liking_rl feet pairs g)).perm (liking_perm feet pairs g)
theorem byL_last (feet pairs : List Int) (g : Int) : ∀ (order left : List Int), ∃ (a : List (Int × Int)) (j : Int), byL feet pairs left (order ++ [g]) = a ++ [(g, j)]
  | [], left => by
    show ∃ a j, byL feet pairs left [g] = a ++ [(g, j)]
    cases e : left.filter fun j => decide (getI feet g ≤ getI pairs j) with
    | nil => exact ⟨[], -1, by rw [byL_nil e]; rfl⟩
    | cons j js => exact ⟨[], j, by rw [byL_cons e]; rfl⟩
  | o :: order, left => by
    rw [List.cons_append]
    cases e : left.filter fun j => decide (getI feet o ≤ getI pairs j) with
    | nil =>
      obtain ⟨a, j, h⟩ := byL_last feet pairs g order left
      exact ⟨(o, -1) :: a, j, by rw [byL_nil e, h]; rfl⟩
    | cons i is =>
      obtain ⟨a, j, h⟩ := byL_last feet pairs g order (left.erase i)
      exact ⟨(o, i) :: a, j, by rw [byL_cons e, h]; rfl⟩
def tkn (a : List (Int × Int)) : List Int := (a.filter fun q => decide (q.2 ≠ -1)).map (·.2)
theorem gs_after {rl : Int → Int → Prop} {feet pairs : List Int} {q : Int × Int} {b : List (Int × Int)} : ∀ {a : List (Int × Int)} {left : List Int}, left.Nodup → (∀ j ∈ left, 0 ≤ j) → Gs rl feet pairs left (a ++ q :: b) →
    ∃ left', (∀ j, j ∈ left' ↔ (j ∈ left ∧ j ∉ tkn a)) ∧ (tkn a).Nodup ∧ (∀ j ∈ tkn a, j ∈ left) ∧ Gs rl feet pairs left' (q :: b) ∧
      (∀ p ∈ a, p.2 ≠ -1 → fitG feet pairs p.1 p.2 = true) ∧ (∀ p ∈ a, ∀ i ∈ left', fitG feet pairs p.1 i = true → p.2 ≠ -1 ∧ rl p.2 i)
  | [], left, nd, h0, h => ⟨left, fun j => by simp [tkn], List.nodup_nil, fun _ h => (nomatch h), h, fun _ h => (nomatch h), fun _ h => (nomatch h)⟩
  | p :: a, left, nd, h0, h => by
    rcases h with ⟨x, y, z⟩ | ⟨x, y, u, z⟩
    · obtain ⟨l', m1, m2, m3, m4, m5, m6⟩ := gs_after nd h0 z
      have e : tkn (p :: a) = tkn a := by unfold tkn; rw [List.filter_cons, if_neg (by simp [y])]
      refine ⟨l', by rw [e]; exact m1, by rw [e]; exact m2, by rw [e]; exact m3, m4, fun r hr => ?_, fun r hr i hi hf => ?_⟩
      · rcases List.mem_cons.mp hr with rfl | hr
        · exact fun q => absurd y q
        · exact m5 r hr
      · rcases List.mem_cons.mp hr with rfl | hr
        · have := x i ((m1 i).mp hi).1
          rw [this] at hf; exact absurd hf Bool.false_ne_true
        · exact m6 r hr i hi hf
    · have hp0 := h0 p.2 x
      have hne : p.2 ≠ -1 := by omega
      obtain ⟨l', m1, m2, m3, m4, m5, m6⟩ := gs_after (nd.sublist List.erase_sublist) (fun j hj => h0 j (List.mem_of_mem_erase hj)) z
      have e : tkn (p :: a) = p.2 :: tkn a := by unfold tkn; rw [List.filter_cons, if_pos (by simpa using hne)]; rfl
      have me : ∀ j, j ∈ left.erase p.2 ↔ (j ∈ left ∧ j ≠ p.2) := fun j => by rw [nd.mem_erase_iff]; exact And.comm
      refine ⟨l', fun j => ?_, ?_, fun j hj => ?_, m4, fun r hr => ?_, fun r hr i hi hf => ?_⟩
      · rw [e, m1 j, me j, List.mem_cons]
        constructor
        · rintro ⟨⟨q1, q2⟩, q3⟩; exact ⟨q1, fun q => q.elim q2 q3⟩
        · rintro ⟨q1, q2⟩; exact ⟨⟨q1, fun q => q2 (.inl q)⟩, fun q => q2 (.inr q)⟩
      · rw [e, List.nodup_cons]
        exact ⟨fun q => ((me _).mp (m3 _ q)).2 rfl, m2⟩
      · rw [e] at hj
        rcases List.mem_cons.mp hj with rfl | hj
        · exact x
        · exact List.mem_of_mem_erase (m3 j hj)
      · rcases List.mem_cons.mp hr with rfl | hr
        · exact fun _ => y
        · exact m5 r hr
      · rcases List.mem_cons.mp hr with rfl | hr
        · exact ⟨hne, u i (List.mem_of_mem_erase ((m1 i).mp hi).1) hf⟩
        · exact m6 r hr i hi hf
/-- feet of the others, sizes that fit -/
def othF (feet : List Int) (g : Int) : List Int := (othersG feet.length g).map (getI feet)
def fitS (feet pairs : List Int) (g : Int) : List Int := pairs.filter fun z => decide (getI feet g ≤ z)
theorem fitS_eq (feet pairs : List Int) (g : Int) : fitS feet pairs g = (fitL feet pairs g).map (getI pairs) := by
  unfold fitS fitL
  conv => lhs; rw [← szL_ints pairs]
  unfold szL
  rw [List.filter_map]
  rfl
theorem cnt_S (feet pairs : List Int) (g z : Int) : ((fitS feet pairs g).filter fun o => decide (o ≤ z)).length = ((fitL feet pairs g).filter fun j => decide (getI pairs j ≤ z)).length := by
  rw [fitS_eq, List.filter_map, List.length_map]
  rfl
theorem cnt_F (feet : List Int) (g z : Int) : ((othF feet g).filter fun f => decide (f ≤ z)).length = ((othersG feet.length g).filter fun o => decide (getI feet o ≤ z)).length := by
  unfold othF
  rw [List.filter_map, List.length_map]
  rfl
theorem take_iff {F S : List Int} : canTake F S = true ↔ ∀ z ∈ S, (S.filter fun o => decide (o ≤ z)).length ≤ (F.filter fun f => decide (f ≤ z)).length := by
  unfold canTake
  rw [List.all_eq_true]
  exact ⟨fun h z hz => of_decide_eq_true (h z hz), fun h z hz => decide_eq_true (h z hz)⟩
theorem tkn_mem {a : List (Int × Int)} {j : Int} : j ∈ tkn a ↔ ∃ p ∈ a, p.2 ≠ -1 ∧ p.2 = j := by
  unfold tkn
  rw [List.mem_map]
  constructor
  · rintro ⟨p, hp, rfl⟩
    obtain ⟨h1, h2⟩ := List.mem_filter.mp hp
    exact ⟨p, h1, of_decide_eq_true h2, rfl⟩
  · rintro ⟨p, hp, h, rfl⟩
    exact ⟨p, List.mem_filter.mpr ⟨hp, decide_eq_true h⟩, rfl⟩
theorem fst_split {n : Nat} {a b : List (Int × Int)} {q : Int × Int} (h : ((a ++ q :: b).map (·.1)).Perm (intsN n)) : (a.map (·.1)).Nodup ∧ ∀ p ∈ a, p.1 ∈ othersG n q.1 := by
  have nd := h.nodup_iff.mpr ((intsN_lt n).imp fun h => Int.ne_of_lt h)
  rw [List.map_append, List.nodup_append] at nd
  refine ⟨nd.1, fun p hp => List.mem_filter.mpr ⟨h.mem_iff.mp (List.mem_map_of_mem (List.mem_append_left _ hp)), decide_eq_true fun e => ?_⟩⟩
  exact nd.2.2 p.1 (List.mem_map_of_mem hp) q.1 (by simp) e
/-- who goes without in a run: the others could take all pairs that fit -/
theorem miss_take {rl : Int → Int → Prop} {feet pairs : List Int} {run : List (Int × Int)} (h : RunV rl feet pairs run) {g : Int} (hm : (g, (-1 : Int)) ∈ run) : canTake (othF feet g) (fitS feet pairs g) = true := by
  obtain ⟨a, b, rfl⟩ := List.append_of_mem hm
  obtain ⟨l', m1, m2, m3, m4, m5, m6⟩ := gs_after ((intsN_lt _).imp fun h => Int.ne_of_lt h) (fun j hj => (mem_intsN hj).1) h.s
  obtain ⟨n1, n2⟩ := fst_split h.g
  have hno : ∀ j ∈ l', fitG feet pairs g j = false := by
    rcases m4 with ⟨x, _, _⟩ | ⟨x, _, _, _⟩
    · exact x
    · have := (mem_intsN ((m1 _).mp x).1).1
      exact absurd (show (0 : Int) ≤ -1 from this) (by decide)
  rw [take_iff]
  intro z _
  rw [cnt_S, cnt_F]
  -- the takers
  have t1 : ((fitL feet pairs g).filter fun j => decide (getI pairs j ≤ z)).length ≤ ((a.filter fun q => decide (getI feet q.1 ≤ z)).map (·.2)).length := by
    refine nodup_len ?_ fun j hj => ?_
    · exact (((intsN_lt _).imp fun h => Int.ne_of_lt h).filter _).filter _
    · obtain ⟨q1, q2⟩ := List.mem_filter.mp hj
      obtain ⟨q3, q4⟩ := List.mem_filter.mp q1
      have q2 := of_decide_eq_true q2
      have hj' : j ∈ tkn a := Classical.byContradiction fun hn => by
        have := hno j ((m1 j).mpr ⟨q3, hn⟩)
        unfold fitG at this
        rw [this] at q4
        exact absurd q4 Bool.false_ne_true
      obtain ⟨p, hp, hp1, rfl⟩ := tkn_mem.mp hj'
      have hf := of_decide_eq_true (m5 p hp hp1)
      exact List.mem_map_of_mem (List.mem_filter.mpr ⟨hp, decide_eq_true (by omega)⟩)
  have t2 : ((a.filter fun q => decide (getI feet q.1 ≤ z)).map (·.1)).length ≤ ((othersG feet.length g).filter fun o => decide (getI feet o ≤ z)).length := by
    refine nodup_len (n1.sublist (List.filter_sublist.map _)) fun o ho => ?_
    obtain ⟨p, hp, rfl⟩ := List.mem_map.mp ho
    obtain ⟨q1, q2⟩ := List.mem_filter.mp hp
    exact List.mem_filter.mpr ⟨n2 p q1, q2⟩
  rw [List.length_map] at t1 t2
  omega
/-- who leaves last, after the others took what fits, goes without if they can take all -/
theorem take_miss {feet pairs : List Int} {g j : Int} {a : List (Int × Int)} (h : RunV (rlG feet pairs g) feet pairs (a ++ [(g, j)])) (ht : canTake (othF feet g) (fitS feet pairs g) = true) : j = -1 := by
  obtain ⟨l', m1, m2, m3, m4, m5, m6⟩ := gs_after ((intsN_lt _).imp fun h => Int.ne_of_lt h) (fun j hj => (mem_intsN hj).1) h.s
  obtain ⟨n1, n2⟩ := fst_split h.g
  rcases m4 with ⟨_, y, _⟩ | ⟨x, y, _, _⟩
  · exact y
  exfalso
  have x : j ∈ l' := x
  have y : getI feet g ≤ getI pairs j := of_decide_eq_true y
  obtain ⟨x1, x2⟩ := (m1 j).mp x
  have hjf : j ∈ fitL feet pairs g := List.mem_filter.mpr ⟨x1, decide_eq_true y⟩
  have hz := (take_iff.mp ht) (getI pairs j) (by rw [fitS_eq]; exact List.mem_map_of_mem hjf)
  rw [cnt_S, cnt_F] at hz
  -- all others with feet up to this size took another such pair
  have hlen : (a.map (·.1)).length = (othersG feet.length g).length := by
    have h1 := h.g.length_eq
    rw [List.map_append, List.length_append, intsN_len] at h1
    have h2 := (order_perm (List.Perm.refl (intsN feet.length)) (g := g) (h.g.mem_iff.mp (by simp))).length_eq
    rw [List.length_append, intsN_len] at h2
    have e : (intsN feet.length).filter (fun o => decide (o ∈ othersG feet.length g)) = othersG feet.length g := by
      conv => rhs; unfold othersG
      refine List.filter_congr fun x hx => decide_eq_decide.mpr ?_
      unfold othersG
      rw [List.mem_filter, decide_eq_true_eq]
      exact ⟨fun q => q.2, fun q => ⟨hx, q⟩⟩
    rw [e] at h2
    have h3 : ([(g, j)].map (·.1)).length = 1 := rfl
    have h4 : [g].length = 1 := rfl
    omega
  have hall : ∀ o ∈ othersG feet.length g, o ∈ a.map (·.1) := fun o ho => by
    have nd : (othersG feet.length g).Nodup := ((intsN_lt _).imp fun h => Int.ne_of_lt h).filter _
    exact (nodup_perm n1 nd (fun x hx => by obtain ⟨p, hp, rfl⟩ := List.mem_map.mp hx; exact n2 p hp) (by omega)).mem_iff.mpr ho
  have t1 : ((othersG feet.length g).filter fun o => decide (getI feet o ≤ getI pairs j)).length ≤ ((a.filter fun q => decide (getI feet q.1 ≤ getI pairs j)).map (·.1)).length := by
    refine nodup_len (((intsN_lt _).imp fun h => Int.ne_of_lt h).filter _ |>.filter _) fun o ho => ?_
    obtain ⟨q1, q2⟩ := List.mem_filter.mp ho
    obtain ⟨p, hp, rfl⟩ := List.mem_map.mp (hall o q1)
    exact List.mem_map_of_mem (List.mem_filter.mpr ⟨hp, q2⟩)
  have t2 : (j :: (a.filter fun q => decide (getI feet q.1 ≤ getI pairs j)).map (·.2)).length ≤ ((fitL feet pairs g).filter fun i => decide (getI pairs i ≤ getI pairs j)).length := by
    have hg2 : ∀ p ∈ a.filter (fun q => decide (getI feet q.1 ≤ getI pairs j)), p ∈ a ∧ p.2 ≠ -1 ∧ rlG feet pairs g p.2 j := fun p hp => by
      obtain ⟨q1, q2⟩ := List.mem_filter.mp hp
      obtain ⟨r1, r2⟩ := m6 p q1 j x q2
      exact ⟨q1, r1, r2⟩
    have sub : ((a.filter fun q => decide (getI feet q.1 ≤ getI pairs j)).map (·.2)).Sublist (tkn a) := by
      unfold tkn
      have e : (a.filter fun q => decide (getI feet q.1 ≤ getI pairs j)) = (a.filter fun q => decide (q.2 ≠ -1)).filter fun q => decide (getI feet q.1 ≤ getI pairs j) := by
        rw [List.filter_filter]
        refine List.filter_congr fun p hp => ?_
        by_cases c : getI feet p.1 ≤ getI pairs j
        · have := (hg2 p (List.mem_filter.mpr ⟨hp, decide_eq_true c⟩)).2.1
          rw [decide_eq_true c, decide_eq_true this]; rfl
        · rw [decide_eq_false c]; rfl
      rw [e]
      exact List.filter_sublist.map _
    refine nodup_len (List.nodup_cons.mpr ⟨fun q => x2 (sub.subset q), m2.sublist sub⟩) fun i hi => ?_
    rcases List.mem_cons.mp hi with rfl | hi
    · exact List.mem_filter.mpr ⟨hjf, decide_eq_true (Int.le_refl _)⟩
    · obtain ⟨p, hp, rfl⟩ := List.mem_map.mp hi
      obtain ⟨r1, r2, r3⟩ := hg2 p hp
      obtain ⟨r4, r5⟩ := r3 y
      exact List.mem_filter.mpr ⟨List.mem_filter.mpr ⟨m3 _ (tkn_mem.mpr ⟨p, r1, r2, rfl⟩), decide_eq_true r4⟩, decide_eq_true r5⟩
  rw [List.length_map] at t1
  rw [List.length_cons, List.length_map] at t2
  omega
theorem eqv_pr (a b c d : Int) : PyData.eqv (.tuple [.int a, .int b]) (.tuple [.int c, .int d]) = (decide (a = c) && decide (b = d)) := by
  rw [show PyData.eqv (.tuple [.int a, .int b]) (.tuple [.int c, .int d]) = (decide (a = c) && (decide (b = d) && true)) from rfl, Bool.and_true]
theorem atI_lastG {α : Type} (l : List α) (p : α) : atI (l ++ [p]) (-1) = some p := by
  unfold atI ixN
  rw [if_neg (by decide)]
  rw [List.length_append, List.length_singleton, if_pos (by omega), show (-1 + ((l.length + 1 : Nat) : Int)).toNat = l.length by omega]
  show (l ++ [p])[l.length]? = _
  rw [List.getElem?_append_right (Nat.le_refl _), Nat.sub_self]
  rfl
def withoutD (feet pairs : List Int) (g : Int) : PyData := if canTake (othF feet g) (fitS feet pairs g) = true then runD (againstR feet pairs (othersG feet.length g) g) else .none
theorem without_form {feet pairs : List Int} {g : Int} (hg : g ∈ intsN feet.length) : (canTake (othF feet g) (fitS feet pairs g) = true ∧ ∃ W, withoutD feet pairs g = runD W ∧ RunV anyR feet pairs W ∧ (g, (-1 : Int)) ∈ W) ∨ (canTake (othF feet g) (fitS feet pairs g) = false ∧ withoutD feet pairs g = .none) := by
  unfold withoutD
  cases hc : canTake (othF feet g) (fitS feet pairs g) with
  | true =>
    have hv := against_v (pairs := pairs) hg
    obtain ⟨a, j, ha⟩ : ∃ a j, againstR feet pairs (othersG feet.length g) g = a ++ [(g, j)] := byL_last feet pairs g _ _
    refine .inl ⟨rfl, _, if_pos rfl, hv.any, ?_⟩
    rw [ha] at hv ⊢
    rw [take_miss hv hc]
    simp
  | false => exact .inr ⟨rfl, if_neg (by decide)⟩
theorem mem_ints {n : Nat} {g : Int} (h1 : 0 ≤ g) (h2 : g < n) : g ∈ intsN n := List.mem_map.mpr ⟨g.toNat, List.mem_range.mpr (by omega), by omega⟩
def canServe (F S : List Int) : Bool := F.all fun f => decide ((F.filter fun o => decide (f ≤ o)).length ≤ (S.filter fun z => decide (f ≤ z)).length)
theorem serve_iff {F S : List Int} : canServe F S = true ↔ ∀ f ∈ F, (F.filter fun o => decide (f ≤ o)).length ≤ (S.filter fun z => decide (f ≤ z)).length := by
  unfold canServe
  rw [List.all_eq_true]
  exact ⟨fun h z hz => of_decide_eq_true (h z hz), fun h z hz => decide_eq_true (h z hz)⟩
def firstF (feet pairs : List Int) (p : Int) : List Int := feet.filter fun f => decide (f ≤ getI pairs p)
def othS (pairs : List Int) (p : Int) : List Int := (othersG pairs.length p).map (getI pairs)
def leavingR (feet pairs : List Int) (p : Int) : List (Int × Int) := byL feet pairs (bySz pairs (othersG pairs.length p) ++ [p]) (obf feet)
def leavingD (feet pairs : List Int) (p : Int) : PyData := if canServe (firstF feet pairs p) (othS pairs p) = true then runD (leavingR feet pairs p) else .none
def leaves (run : List (Int × Int)) (p : Int) : Bool := decide (p ∉ run.map (·.2))
/-- the smallest of the others first, p last -/
def rlP (pairs : List Int) (p i j : Int) : Prop := (i = j) ∨ (i ≠ p ∧ (j ≠ p → getI pairs i ≤ getI pairs j))
theorem likeP_rl (pairs : List Int) (p : Int) : (bySz pairs (othersG pairs.length p) ++ [p]).Pairwise (rlP pairs p) := by
  have hm : ∀ j ∈ bySz pairs (othersG pairs.length p), j ≠ p := fun j hj => of_decide_eq_true (List.mem_filter.mp ((bySz_perm pairs _).mem_iff.mp hj)).2
  rw [List.pairwise_append]
  refine ⟨(bySz_sorted pairs _).imp_of_mem fun {a b} ha hb h => .inr ⟨hm a ha, fun _ => by unfold Lx at h; omega⟩, List.pairwise_singleton _ _, fun a ha b hb => .inr ⟨hm a ha, fun q => absurd (List.mem_singleton.mp hb) q⟩⟩
theorem others_snoc {m : Nat} {p : Int} (hp : p ∈ intsN m) : (othersG m p ++ [p]).Perm (intsN m) := by
  have nd : (intsN m).Nodup := (intsN_lt m).imp fun h => Int.ne_of_lt h
  unfold othersG
  rw [← erase_filter nd]
  exact List.perm_append_comm.trans (List.perm_cons_erase hp).symm
theorem likeP_perm {pairs : List Int} {p : Int} (hp : p ∈ intsN pairs.length) : (bySz pairs (othersG pairs.length p) ++ [p]).Perm (intsN pairs.length) :=
  ((bySz_perm pairs _).append_right _).trans (others_snoc hp)
theorem leaving_v {feet pairs : List Int} {p : Int} (hp : p ∈ intsN pairs.length) : RunV (rlP pairs p) feet pairs (leavingR feet pairs p) := by
  unfold leavingR
  exact ⟨by rw [byL_fst]; exact obf_perm feet, (byL_gs (fun a => .inl rfl) feet pairs _ _ (likeP_rl pairs p)).perm (likeP_perm hp)⟩
theorem leaves_tkn {run : List (Int × Int)} {p : Int} (hp : 0 ≤ p) : leaves run p = true ↔ p ∉ tkn run := by
  unfold leaves
  rw [decide_eq_true_eq, tkn_mem, List.mem_map]
  constructor
  · rintro h ⟨q, hq, _, e⟩
    exact h ⟨q, hq, e⟩
  · rintro h ⟨q, hq, e⟩
    exact h ⟨q, hq, by omega, e⟩
theorem cnt_first (feet pairs : List Int) (p f : Int) : ((firstF feet pairs p).filter fun o => decide (f ≤ o)).length = ((intsN feet.length).filter fun g => decide (f ≤ getI feet g) && decide (getI feet g ≤ getI pairs p)).length := by
  unfold firstF
  rw [List.filter_filter]
  conv => lhs; rw [← szL_ints feet]
  unfold szL
  rw [List.filter_map, List.length_map]
  rfl
theorem cnt_oth (pairs : List Int) (p f : Int) : ((othS pairs p).filter fun z => decide (f ≤ z)).length = ((othersG pairs.length p).filter fun j => decide (f ≤ getI pairs j)).length := by
  unfold othS
  rw [List.filter_map, List.length_map]
  rfl
theorem gs_end {rl : Int → Int → Prop} {feet pairs : List Int} : ∀ {a : List (Int × Int)} {left : List Int}, left.Nodup → (∀ j ∈ left, 0 ≤ j) → Gs rl feet pairs left a →
    (tkn a).Nodup ∧ (∀ j ∈ tkn a, j ∈ left) ∧ (∀ p ∈ a, p.2 ≠ -1 → fitG feet pairs p.1 p.2 = true) ∧ (∀ p ∈ a, ∀ i ∈ left, i ∉ tkn a → fitG feet pairs p.1 i = true → p.2 ≠ -1)
  | [], left, nd, h0, h => ⟨List.nodup_nil, fun _ h => (nomatch h), fun _ h => (nomatch h), fun _ h => (nomatch h)⟩
  | p :: a, left, nd, h0, h => by
    rcases h with ⟨x, y, z⟩ | ⟨x, y, u, z⟩
    · obtain ⟨m2, m3, m5, m6⟩ := gs_end nd h0 z
      have e : tkn (p :: a) = tkn a := by unfold tkn; rw [List.filter_cons, if_neg (by simp [y])]
      refine ⟨by rw [e]; exact m2, by rw [e]; exact m3, fun r hr => ?_, fun r hr i hi hn hf => ?_⟩
      · rcases List.mem_cons.mp hr with rfl | hr
        · exact fun q => absurd y q
        · exact m5 r hr
      · rcases List.mem_cons.mp hr with rfl | hr
        · have := x i hi
          rw [this] at hf; exact absurd hf Bool.false_ne_true
        · exact m6 r hr i hi (by rw [e] at hn; exact hn) hf
    · have hp0 := h0 p.2 x
      have hne : p.2 ≠ -1 := by omega
      obtain ⟨m2, m3, m5, m6⟩ := gs_end (nd.sublist List.erase_sublist) (fun j hj => h0 j (List.mem_of_mem_erase hj)) z
      have e : tkn (p :: a) = p.2 :: tkn a := by unfold tkn; rw [List.filter_cons, if_pos (by simpa using hne)]; rfl
      refine ⟨?_, fun j hj => ?_, fun r hr => ?_, fun r hr i hi hn hf => ?_⟩
      · rw [e, List.nodup_cons]
        exact ⟨fun q => (nd.mem_erase_iff.mp (m3 _ q)).1 rfl, m2⟩
      · rw [e] at hj
        rcases List.mem_cons.mp hj with rfl | hj
        · exact x
        · exact List.mem_of_mem_erase (m3 j hj)
      · rcases List.mem_cons.mp hr with rfl | hr
        · exact fun _ => y
        · exact m5 r hr
      · rcases List.mem_cons.mp hr with rfl | hr
        · exact hne
        · rw [e, List.mem_cons] at hn
          exact m6 r hr i (nd.mem_erase_iff.mpr ⟨fun q => hn (.inl q), hi⟩) (fun q => hn (.inr q)) hf
/-- a pair that is left: the others serve all whom it fits -/
theorem left_serve {rl : Int → Int → Prop} {feet pairs : List Int} {run : List (Int × Int)} (h : RunV rl feet pairs run) {p : Int} (hp : p ∈ intsN pairs.length) (hl : leaves run p = true) : canServe (firstF feet pairs p) (othS pairs p) = true := by
  obtain ⟨m2, m3, m5, m6⟩ := gs_end ((intsN_lt _).imp fun h => Int.ne_of_lt h) (fun j hj => (mem_intsN hj).1) h.s
  have hpt := (leaves_tkn (mem_intsN hp).1).mp hl
  have nd := h.nd
  rw [serve_iff]
  intro f _
  rw [cnt_first, cnt_oth]
  have hall : ∀ g ∈ intsN feet.length, ∃ q ∈ run, q.1 = g := fun g hg => by
    obtain ⟨q, hq, e⟩ := List.mem_map.mp (h.g.mem_iff.mpr hg)
    exact ⟨q, hq, e⟩
  have t1 : ((intsN feet.length).filter fun g => decide (f ≤ getI feet g) && decide (getI feet g ≤ getI pairs p)).length ≤ ((run.filter fun q => decide (f ≤ getI feet q.1) && decide (getI feet q.1 ≤ getI pairs p)).map (·.1)).length := by
    refine nodup_len (((intsN_lt _).imp fun h => Int.ne_of_lt h).filter _) fun g hg => ?_
    obtain ⟨q1, q2⟩ := List.mem_filter.mp hg
    obtain ⟨q, hq, rfl⟩ := hall g q1
    exact List.mem_map_of_mem (List.mem_filter.mpr ⟨hq, q2⟩)
  have hg2 : ∀ q ∈ run.filter (fun q => decide (f ≤ getI feet q.1) && decide (getI feet q.1 ≤ getI pairs p)), q ∈ run ∧ q.2 ≠ -1 ∧ f ≤ getI pairs q.2 := fun q hq => by
    obtain ⟨q1, q2⟩ := List.mem_filter.mp hq
    rw [Bool.and_eq_true, decide_eq_true_eq, decide_eq_true_eq] at q2
    have hne := m6 q q1 p hp hpt (decide_eq_true q2.2)
    have := of_decide_eq_true (m5 q q1 hne)
    exact ⟨q1, hne, by omega⟩
  have sub : ((run.filter fun q => decide (f ≤ getI feet q.1) && decide (getI feet q.1 ≤ getI pairs p)).map (·.2)).Sublist (tkn run) := by
    unfold tkn
    have e : (run.filter fun q => decide (f ≤ getI feet q.1) && decide (getI feet q.1 ≤ getI pairs p)) = (run.filter fun q => decide (q.2 ≠ -1)).filter fun q => decide (f ≤ getI feet q.1) && decide (getI feet q.1 ≤ getI pairs p) := by
      rw [List.filter_filter]
      refine List.filter_congr fun q hq => ?_
      cases c : (decide (f ≤ getI feet q.1) && decide (getI feet q.1 ≤ getI pairs p)) with
      | true => rw [decide_eq_true (hg2 q (List.mem_filter.mpr ⟨hq, c⟩)).2.1]; rfl
      | false => rfl
    rw [e]
    exact List.filter_sublist.map _
  have t2 : ((run.filter fun q => decide (f ≤ getI feet q.1) && decide (getI feet q.1 ≤ getI pairs p)).map (·.2)).length ≤ ((othersG pairs.length p).filter fun j => decide (f ≤ getI pairs j)).length := by
    refine nodup_len (m2.sublist sub) fun j hj => ?_
    have hjt := sub.subset hj
    obtain ⟨q, hq, rfl⟩ := List.mem_map.mp hj
    exact List.mem_filter.mpr ⟨List.mem_filter.mpr ⟨m3 _ hjt, decide_eq_true fun e => hpt (e ▸ hjt)⟩, decide_eq_true (hg2 q hq).2.2⟩
  rw [List.length_map] at t1 t2
  omega
/-- who takes p: a small run of the others till then -/
theorem without_p {feet pairs : List Int} {p h : Int} {b : List (Int × Int)} : ∀ {a : List (Int × Int)} {left : List Int}, left.Nodup → (∀ j ∈ left, 0 ≤ j) → p ∈ left → p ∉ tkn a → Gs (rlP pairs p) feet pairs left (a ++ (h, p) :: b) →
    Gs (fun i j => getI pairs i ≤ getI pairs j) feet pairs (left.erase p) (a ++ [(h, -1)])
  | [], left, nd, h0, hp, _, g => by
    rcases g with ⟨_, y, _⟩ | ⟨_, _, u, _⟩
    · have := h0 p hp; exact absurd (show p = -1 from y) (by omega)
    · refine .inl ⟨fun i hi => Bool.eq_false_iff.mpr fun hf => ?_, rfl, trivial⟩
      obtain ⟨i1, i2⟩ := nd.mem_erase_iff.mp hi
      rcases u i i2 hf with e | ⟨e, _⟩
      · exact i1 e.symm
      · exact e rfl
  | q :: a, left, nd, h0, hp, ht, g => by
    rcases g with ⟨x, y, z⟩ | ⟨x, y, u, z⟩
    · have e : tkn (q :: a) = tkn a := by unfold tkn; rw [List.filter_cons, if_neg (by simp [y])]
      exact .inl ⟨fun j hj => x j (List.mem_of_mem_erase hj), y, without_p nd h0 hp (by rw [e] at ht; exact ht) z⟩
    · have hq0 := h0 q.2 x
      have e : tkn (q :: a) = q.2 :: tkn a := by unfold tkn; rw [List.filter_cons, if_pos (by simp; omega)]; rfl
      rw [e, List.mem_cons] at ht
      have hne : q.2 ≠ p := fun q => ht (.inl q.symm)
      refine .inr ⟨nd.mem_erase_iff.mpr ⟨hne, x⟩, y, fun i hi hf => ?_, ?_⟩
      · obtain ⟨i1, i2⟩ := nd.mem_erase_iff.mp hi
        rcases u i i2 hf with e | ⟨_, e⟩
        · rw [e]; exact Int.le_refl _
        · exact e i1
      · rw [List.erase_comm]
        exact without_p (nd.sublist List.erase_sublist) (fun j hj => h0 j (List.mem_of_mem_erase hj)) (nd.mem_erase_iff.mpr ⟨fun q => hne q.symm, hp⟩) (fun q => ht (.inr q)) z
theorem srv_tkn (a : List (Int × Int)) : srv a ≤ a.length := List.length_filter_le _ _
theorem cF_cnt (F : List Int) (s : Int) : cF F s + (F.filter fun x => decide (s ≤ x)).length = F.length := by
  unfold cF
  induction F with
  | nil => rfl
  | cons x F ih =>
    rw [List.filter_cons, List.filter_cons, List.length_cons]
    by_cases h : x < s
    · rw [if_pos (decide_eq_true h), if_neg (by simp; omega), List.length_cons]; omega
    · rw [if_neg (by simp; omega), if_pos (decide_eq_true (by omega)), List.length_cons]; omega
theorem least_ge : ∀ (F : List Int) (s : Int), (F.filter fun x => decide (s ≤ x)) ≠ [] → ∃ t ∈ F, s ≤ t ∧ ∀ x ∈ F, s ≤ x → t ≤ x
  | [], _, h => absurd rfl h
  | a :: F, s, h => by
    by_cases hF : (F.filter fun x => decide (s ≤ x)) = []
    · rw [List.filter_cons, hF] at h
      by_cases ha : s ≤ a
      · refine ⟨a, by simp, ha, fun x hx hs => ?_⟩
        rcases List.mem_cons.mp hx with rfl | hx
        · exact Int.le_refl _
        · exact absurd (decide_eq_true hs) (List.filter_eq_nil_iff.mp hF x hx)
      · rw [if_neg (by simpa using ha)] at h; exact absurd rfl h
    · obtain ⟨t, ht, h1, h2⟩ := least_ge F s hF
      by_cases ha : s ≤ a ∧ a < t
      · refine ⟨a, by simp, ha.1, fun x hx hs => ?_⟩
        rcases List.mem_cons.mp hx with rfl | hx
        · exact Int.le_refl _
        · have := h2 x hx hs; omega
      · refine ⟨t, by simp [ht], h1, fun x hx hs => ?_⟩
        rcases List.mem_cons.mp hx with rfl | hx
        · omega
        · exact h2 x hx hs
/-- if the others serve all whom p fits, p is left -/
theorem serve_left {feet pairs : List Int} {p : Int} (hp : p ∈ intsN pairs.length) (hc : canServe (firstF feet pairs p) (othS pairs p) = true) : leaves (leavingR feet pairs p) p = true := by
  have hv := leaving_v (feet := feet) hp
  have hrise : (ftR feet (leavingR feet pairs p)).Pairwise (· ≤ ·) := by
    have e : ftR feet (leavingR feet pairs p) = (obf feet).map (getI feet) := by
      unfold ftR leavingR
      conv => rhs; rw [← byL_fst feet pairs (obf feet) (bySz pairs (othersG pairs.length p) ++ [p]), List.map_map]
      rfl
    rw [e, List.pairwise_map]
    exact (likeO_sorted _ _).imp fun h => by unfold Lx at h; omega
  generalize leavingR feet pairs p = run at hv hrise ⊢
  have hp0 := (mem_intsN hp).1
  rw [leaves_tkn hp0, tkn_mem]
  rintro ⟨⟨h, p'⟩, hq, hne, e⟩
  have e : p' = p := e
  subst e
  obtain ⟨a, b, rfl⟩ := List.append_of_mem hq
  have nd : (intsN pairs.length).Nodup := (intsN_lt _).imp fun h => Int.ne_of_lt h
  obtain ⟨l', m1, m2, m3, m4, m5, m6⟩ := gs_after nd (fun j hj => (mem_intsN hj).1) hv.s
  have hpt : p' ∉ tkn a := by
    rcases m4 with ⟨_, y, _⟩ | ⟨x, _⟩
    · exact absurd (show p' = -1 from y) (by omega)
    · exact ((m1 _).mp x).2
  have hfit : getI feet h ≤ getI pairs p' := by
    rcases m4 with ⟨_, y, _⟩ | ⟨_, x, _⟩
    · exact absurd (show p' = -1 from y) (by omega)
    · exact of_decide_eq_true x
  have hs := without_p nd (fun j hj => (mem_intsN hj).1) hp hpt hv.s
  have eo : (intsN pairs.length).erase p' = othersG pairs.length p' := by unfold othersG; rw [erase_filter nd]
  rw [eo] at hs
  obtain ⟨top, ht⟩ := exists_top ((othersG pairs.length p').map (getI pairs))
  obtain ⟨s, hss⟩ := gs_small (left := othersG pairs.length p') top (fun j hj => (mem_intsN (List.mem_filter.mp hj).1).1) (fun j hj => ht _ (List.mem_map_of_mem hj)) hs
  have hsrv : srv (a ++ [(h, -1)]) ≤ a.length := by
    have e : srv (a ++ [(h, -1)]) = srv a := by unfold srv; rw [List.filter_append]; simp
    rw [e]; exact srv_tkn a
  have hcF := cF_cnt (ftR feet (a ++ [(h, -1)])) s
  have hlen : (ftR feet (a ++ [(h, -1)])).length = a.length + 1 := by unfold ftR; rw [List.length_map, List.length_append]; rfl
  have hle : ∀ x ∈ ftR feet (a ++ [(h, -1)]), x ≤ getI pairs p' := fun x hx => by
    unfold ftR at hx hrise
    rw [List.map_append, List.mem_append] at hx
    rw [List.map_append, List.map_cons, List.pairwise_append] at hrise
    rcases hx with hx | hx
    · have := hrise.2.2 x hx (getI feet h) (by simp)
      omega
    · have : x = getI feet h := by simpa using hx
      omega
  have hne2 : ((ftR feet (a ++ [(h, -1)])).filter fun x => decide (s ≤ x)) ≠ [] := fun q => by
    rw [q] at hcF
    simp only [List.length_nil] at hcF
    omega
  obtain ⟨t, htm, ht1, ht2⟩ := least_ge _ _ hne2
  -- t is the foot of a guest whom p fits
  obtain ⟨q, hqm, hqt⟩ := List.mem_map.mp htm
  have hgm : ∀ q ∈ a ++ [(h, (-1 : Int))], q.1 ∈ intsN feet.length := fun q hq => by
    refine hv.g.mem_iff.mp ?_
    rw [List.map_append, List.map_cons]
    rcases List.mem_append.mp hq with hq | hq
    · exact List.mem_append_left _ (List.mem_map_of_mem hq)
    · rw [List.mem_singleton.mp hq]; simp
  have htf : t ∈ firstF feet pairs p' := by
    refine List.mem_filter.mpr ⟨?_, decide_eq_true (hle t htm)⟩
    rw [← hqt]
    have := hgm q hqm
    have h2 := mem_intsN this
    unfold getI
    rw [List.getElem?_eq_getElem (show q.1.toNat < feet.length by omega)]
    exact List.getElem_mem _
  have hc := (serve_iff.mp hc) t htf
  rw [cnt_first, cnt_oth] at hc
  have u1 : ((ftR feet (a ++ [(h, -1)])).filter fun x => decide (s ≤ x)).length ≤ ((intsN feet.length).filter fun g => decide (t ≤ getI feet g) && decide (getI feet g ≤ getI pairs p')).length := by
    have e : ((ftR feet (a ++ [(h, -1)])).filter fun x => decide (s ≤ x)).length = (((a ++ [(h, (-1 : Int))]).filter fun q => decide (s ≤ getI feet q.1)).map (·.1)).length := by
      unfold ftR
      rw [List.filter_map, List.length_map, List.length_map]
      rfl
    rw [e]
    refine nodup_len ?_ fun g hg => ?_
    · have nd2 := hv.nd
      have sub : ((a ++ [(h, (-1 : Int))]).map (·.1)).Sublist ((a ++ (h, p') :: b).map (·.1)) := by
        rw [List.map_append, List.map_append, List.map_cons]
        exact (List.Sublist.refl _).append (by simp)
      exact nd2.sublist ((List.filter_sublist.map _).trans sub)
    · obtain ⟨q, hq, rfl⟩ := List.mem_map.mp hg
      obtain ⟨q1, q2⟩ := List.mem_filter.mp hq
      have hx : getI feet q.1 ∈ ftR feet (a ++ [(h, (-1 : Int))]) := List.mem_map_of_mem (f := fun q : Int × Int => getI feet q.1) q1
      refine List.mem_filter.mpr ⟨hgm q q1, ?_⟩
      rw [Bool.and_eq_true, decide_eq_true_eq, decide_eq_true_eq]
      exact ⟨ht2 _ hx (of_decide_eq_true q2), hle _ hx⟩
  have u2 : ((othersG pairs.length p').filter fun j => decide (t ≤ getI pairs j)).length ≤ cP (szL pairs (othersG pairs.length p')) s := by
    unfold cP szL
    rw [List.filter_map, List.length_map]
    refine nodup_len ((nd.filter _).filter _) fun j hj => ?_
    obtain ⟨q1, q2⟩ := List.mem_filter.mp hj
    exact List.mem_filter.mpr ⟨q1, decide_eq_true (by have := of_decide_eq_true q2; show s ≤ getI pairs j; omega)⟩
  omega
theorem leaving_form {feet pairs : List Int} {p : Int} (hp : p ∈ intsN pairs.length) : (canServe (firstF feet pairs p) (othS pairs p) = true ∧ leavingD feet pairs p = runD (leavingR feet pairs p) ∧ RunV anyR feet pairs (leavingR feet pairs p) ∧ leaves (leavingR feet pairs p) p = true) ∨ (canServe (firstF feet pairs p) (othS pairs p) = false ∧ leavingD feet pairs p = .none) := by
  unfold leavingD
  cases hc : canServe (firstF feet pairs p) (othS pairs p) with
  | true => exact .inl ⟨rfl, if_pos rfl, (leaving_v hp).any, serve_left hp hc⟩
  | false => exact .inr ⟨rfl, if_neg (by decide)⟩
theorem leftL_mem {m : Nat} {run : List (Int × Int)} {p : Int} (hp : p ∈ intsN m) : p ∈ leftL m run ↔ leaves run p = true := by
  unfold leftL leaves
  rw [List.mem_filter, decide_eq_true_eq]
  constructor
  · rintro ⟨_, h⟩ hm
    obtain ⟨q, hq, e⟩ := List.mem_map.mp hm
    have : (run.any fun q => decide (q.2 = p)) = true := List.any_eq_true.mpr ⟨q, hq, decide_eq_true e⟩
    rw [this] at h; cases h
  · intro h
    refine ⟨hp, ?_⟩
    have : (run.any fun q => decide (q.2 = p)) = false := List.any_eq_false.mpr fun q hq e => h (List.mem_map.mpr ⟨q, hq, of_decide_eq_true e⟩)
    rw [this]; rfl
theorem RunV.ok {rl : Int → Int → Prop} {F P : List Int} {run : List (Int × Int)} (h : RunV rl F P run) : RunOk F.length P.length run := ⟨h.g, fun _ hq => h.snd hq⟩
theorem shod_len {f p : Nat} {run : List (Int × Int)} (h : RunOk f p run) : (shodL f run).length = srv run := by
  rw [← shod_uniq h (srt_perm _) (srt_sorted _), (srt_perm _).length_eq, List.length_map]
  rfl
theorem leaving_isN {F P : List Int} {p : Int} (hp : p ∈ intsN P.length) : isN (leavingD F P p) = !canServe (firstF F P p) (othS P p) := by
  rcases leaving_form (feet := F) hp with ⟨h, e, _⟩ | ⟨h, e⟩
  · rw [e, h]; rfl
  · rw [e, h]; rfl
inductive Cv where
  | run (r : List (Int × Int))
  | tab (ws : List Str)
  | siz (z : Int)
def Cv.d : Cv → PyData
  | .run r => .tuple [.str "run", runD r]
  | .tab ws => .tuple [.str "table", .tuple (ws.map .str)]
  | .siz z => .tuple [.str "size", .int z]
def Cv.pos (feet pairs : List Int) (num : Int) : Cv → Bool
  | .run r => decide (num ≤ (srv r : Int))
  | .tab _ => false
  | .siz z => decide ((cF feet z : Int) + cP pairs z < num)
theorem leftL_leftT (m : Nat) (run : List (Int × Int)) : leftL m run = leftT m (run.map (·.2)) := by
  unfold leftL leftT
  refine List.filter_congr fun j _ => ?_
  rw [Bool.eq_iff_iff, Bool.not_eq_true', decide_eq_true_eq, List.any_eq_false]
  constructor
  · intro h hm
    obtain ⟨q, hq, e⟩ := List.mem_map.mp hm
    exact h q hq (decide_eq_true e)
  · intro h q hq e
    exact h (of_decide_eq_true e ▸ List.mem_map_of_mem hq)
theorem gs_pre {rl : Int → Int → Prop} {feet pairs : List Int} {b : List (Int × Int)} : ∀ (a : List (Int × Int)) (left : List Int), Gs rl feet pairs left (a ++ b) → Gs rl feet pairs left a
  | [], _, _ => trivial
  | q :: a, left, h => by
    rcases h with ⟨x, y, z⟩ | ⟨x, y, u, z⟩
    · exact .inl ⟨x, y, gs_pre a _ z⟩
    · exact .inr ⟨x, y, u, gs_pre a _ z⟩
theorem gs_app {feet pairs : List Int} {m : Nat} {b : List (Int × Int)} : ∀ (a : List (Int × Int)) (T : List Int), Gs anyR feet pairs (leftT m T) a → Gs anyR feet pairs (leftT m (T ++ a.map (·.2))) b → Gs anyR feet pairs (leftT m T) (a ++ b)
  | [], T, _, h => by rwa [List.map_nil, List.append_nil] at h
  | q :: a, T, h, hb => by
    have e : T ++ (q :: a).map (·.2) = (T ++ [q.2]) ++ a.map (·.2) := by rw [List.append_assoc]; rfl
    rw [e] at hb
    have e2 : (leftT m T).erase q.2 = leftT m (T ++ [q.2]) := leftT_erase m T q.2
    rcases h with ⟨x, y, z⟩ | ⟨x, y, u, z⟩
    · have e3 : leftT m (T ++ [q.2]) = leftT m T := by rw [← e2, y, List.erase_of_not_mem (neg_not m T)]
      have ih := gs_app a (T ++ [q.2]) (by rw [e3]; exact z) hb
      rw [e3] at ih
      exact .inl ⟨x, y, ih⟩
    · rw [e2] at z
      have ih := gs_app a (T ++ [q.2]) z hb
      rw [← e2] at ih
      exact .inr ⟨x, y, u, ih⟩
def bigA (feet pairs : List Int) (k : Nat) : List (Int × Int) := (largeR feet pairs).take k
def smallB (feet pairs : List Int) (k : Nat) : List (Int × Int) := byL feet pairs (bySz pairs (leftL pairs.length (bigA feet pairs k))) ((obf feet).drop k)
def ltsR (feet pairs : List Int) (k : Nat) : List (Int × Int) := bigA feet pairs k ++ smallB feet pairs k
theorem large_fst (feet pairs : List Int) : (largeR feet pairs).map (·.1) = obf feet := by
  unfold largeR
  rw [ruled_byL, byL_fst]
theorem smallB_gs (feet pairs : List Int) (k : Nat) : Gs (fun a b => getI pairs a ≤ getI pairs b) feet pairs (leftL pairs.length (bigA feet pairs k)) (smallB feet pairs k) := by
  have h := byL_gs (rl := Lx (getI pairs)) (fun a => .inr ⟨rfl, Int.le_refl a⟩) feet pairs ((obf feet).drop k) _ (bySz_sorted pairs (leftL pairs.length (bigA feet pairs k)))
  exact (h.perm (bySz_perm _ _)).mono fun a b h => by unfold Lx at h; omega
theorem bigA_gs (feet pairs : List Int) (k : Nat) : Gs anyR feet pairs (leftT pairs.length []) (bigA feet pairs k) := by
  have h := (large_v feet pairs).any.s
  rw [← leftT_nil, show largeR feet pairs = bigA feet pairs k ++ (largeR feet pairs).drop k from (List.take_append_drop k _).symm] at h
  exact gs_pre _ _ h
theorem lts_v (feet pairs : List Int) (k : Nat) : RunV anyR feet pairs (ltsR feet pairs k) := by
  constructor
  · unfold ltsR smallB
    rw [List.map_append, byL_fst]
    unfold bigA
    rw [List.map_take, large_fst, List.take_append_drop]
    exact obf_perm feet
  · rw [← leftT_nil]
    refine gs_app _ [] (bigA_gs feet pairs k) ?_
    rw [List.nil_append, ← leftL_leftT]
    exact (smallB_gs feet pairs k).mono fun _ _ _ => trivial
theorem lts_zero {feet pairs : List Int} {m : Int} (hm : IsMost feet pairs m) : (srv (ltsR feet pairs 0) : Int) = m := by
  have e : ltsR feet pairs 0 = smallB feet pairs 0 := rfl
  rw [e]
  refine run_small ⟨?_, ?_⟩ hm
  · unfold smallB
    rw [byL_fst]
    exact obf_perm feet
  · have := smallB_gs feet pairs 0
    rwa [leftL_leftT, show (bigA feet pairs 0).map (·.2) = [] from rfl, leftT_nil] at this
theorem lts_all {feet pairs : List Int} {m : Int} (hm : IsFew feet pairs m) : (srv (ltsR feet pairs feet.length) : Int) = m := by
  have l1 : (largeR feet pairs).length = feet.length := (large_v feet pairs).len
  have l2 : (obf feet).length = feet.length := by rw [(obf_perm feet).length_eq, intsN_len]
  unfold ltsR smallB bigA
  rw [List.drop_of_length_le (by omega), List.take_of_length_le (by omega)]
  show (srv (largeR feet pairs ++ []) : Int) = m
  rw [List.append_nil]
  exact large_n hm
theorem srv_append (a b : List (Int × Int)) : srv (a ++ b) = srv a + srv b := by
  unfold srv
  rw [List.filter_append, List.length_append]
theorem smallB_ft (feet pairs : List Int) (k : Nat) : ftR feet (smallB feet pairs k) = ((obf feet).drop k).map (getI feet) := by
  unfold ftR smallB
  conv => rhs; rw [← byL_fst feet pairs ((obf feet).drop k) (bySz pairs (leftL pairs.length (bigA feet pairs k)))]
  rw [List.map_map]
  rfl
/-- one guest more who takes the largest: at most one less -/
theorem lts_step {feet pairs : List Int} {k : Nat} (hk : k < feet.length) : srv (ltsR feet pairs k) ≤ srv (ltsR feet pairs (k + 1)) + 1 := by
  have l1 : (largeR feet pairs).length = feet.length := (large_v feet pairs).len
  have l2 : (obf feet).length = feet.length := by rw [(obf_perm feet).length_eq, intsN_len]
  obtain ⟨q, hq⟩ : ∃ q, (largeR feet pairs)[k]? = some q := ⟨_, List.getElem?_eq_getElem (by omega)⟩
  have hA : bigA feet pairs (k + 1) = bigA feet pairs k ++ [q] := by
    unfold bigA
    rw [List.take_add_one, hq]
    rfl
  have hg : (obf feet).drop k = q.1 :: (obf feet).drop (k + 1) := by
    have h2 : (obf feet)[k]? = some q.1 := by rw [← large_fst feet pairs, List.getElem?_map, hq]; rfl
    obtain ⟨h3, h4⟩ := List.getElem?_eq_some_iff.mp h2
    rw [List.drop_eq_getElem_cons h3, h4]
  have hG := bigA_gs feet pairs (k + 1)
  rw [hA] at hG
  obtain ⟨_, hok⟩ := (gs_append q (bigA feet pairs k) []).mp hG
  rw [List.nil_append, ← leftL_leftT] at hok
  have hL : leftL pairs.length (bigA feet pairs (k + 1)) = (leftL pairs.length (bigA feet pairs k)).erase q.2 := by
    rw [leftL_leftT, leftL_leftT, hA, List.map_append, leftT_erase]
    rfl
  unfold ltsR
  rw [srv_append, srv_append, hA, srv_append]
  rcases hok with ⟨h1, h2⟩ | ⟨h1, h2⟩
  · -- nothing fits
    have hL2 : leftL pairs.length (bigA feet pairs (k + 1)) = leftL pairs.length (bigA feet pairs k) := by
      rw [hL, h2, leftL_leftT, List.erase_of_not_mem (neg_not _ _)]
    have e : smallB feet pairs k = (q.1, -1) :: smallB feet pairs (k + 1) := by
      unfold smallB
      rw [hL2, hg]
      refine byL_nil (List.filter_eq_nil_iff.mpr fun j hj => ?_)
      have := h1 j ((bySz_perm _ _).mem_iff.mp hj)
      unfold fitG at this
      rw [this]; exact Bool.false_ne_true
    rw [e, srv_cons, if_pos rfl]
    omega
  · have hq0 : q.2 ≠ -1 := by
      have := (mem_intsN (List.mem_filter.mp h1).1).1
      omega
    have e1 : srv [q] = 1 := by
      rw [show [q] = q :: [] from rfl, srv_cons, if_neg hq0]
      rfl
    have nn : ∀ n, ∀ j ∈ leftL pairs.length (bigA feet pairs n), 0 ≤ j := fun n j hj => (mem_intsN (List.mem_filter.mp hj).1).1
    obtain ⟨top, ht⟩ := exists_top pairs
    obtain ⟨s, hs⟩ := gs_small top (nn (k + 1)) (fun j hj => getI_lt ht (List.mem_filter.mp hj).1) (smallB_gs feet pairs (k + 1))
    have hu := gs_upper (nn k) (smallB_gs feet pairs k) s
    rw [smallB_ft] at hs hu
    rw [hg, List.map_cons] at hu
    rw [hL] at hs
    rw [cP_erase pairs h1 s] at hu
    have hc : cF (getI feet q.1 :: ((obf feet).drop (k + 1)).map (getI feet)) s ≤ cF (((obf feet).drop (k + 1)).map (getI feet)) s + 1 := by
      unfold cF
      rw [List.filter_cons]
      split
      · rw [List.length_cons]; omega
      · omega
    have hc2 : (if s ≤ getI pairs q.2 then 1 else 0) ≤ 1 := by split <;> omega
    omega
/-- each number between occurs -/
theorem lts_between {feet pairs : List Int} {f m num : Int} (hf : IsFew feet pairs f) (hm : IsMost feet pairs m) (h1 : f ≤ num) (h2 : num ≤ m) : ∃ k, k ≤ feet.length ∧ (srv (ltsR feet pairs k) : Int) = num := by
  have h0 := lts_zero hm
  have hn := lts_all hf
  refine Classical.byContradiction fun hno => ?_
  have hall : ∀ k, k ≤ feet.length → num < (srv (ltsR feet pairs k) : Int) := by
    intro k
    induction k with
    | zero =>
      intro hk
      have : (srv (ltsR feet pairs 0) : Int) ≠ num := fun e => hno ⟨0, hk, e⟩
      omega
    | succ k ih =>
      intro hk
      have i1 := ih (by omega)
      have i2 := lts_step (feet := feet) (pairs := pairs) (k := k) (by omega)
      have : (srv (ltsR feet pairs (k + 1)) : Int) ≠ num := fun e => hno ⟨k + 1, hk, e⟩
      omega
  have := hall feet.length (Nat.le_refl _)
  omega
/-- what run_with finds -/
def withR (feet pairs : List Int) (num : Int) : Option Nat := (List.range (feet.length + 1)).find? fun k => decide ((srv (ltsR feet pairs k) : Int) = num)
def withD (feet pairs : List Int) (num : Int) : PyData := match withR feet pairs num with
  | some k => runD (ltsR feet pairs k)
  | none => .none
theorem with_form {feet pairs : List Int} {f m : Int} (hf : IsFew feet pairs f) (hm : IsMost feet pairs m) (num : Int) : (f ≤ num ∧ num ≤ m ∧ ∃ W, withD feet pairs num = runD W ∧ RunV anyR feet pairs W ∧ (srv W : Int) = num) ∨ (¬ (f ≤ num ∧ num ≤ m) ∧ withD feet pairs num = .none) := by
  unfold withD
  cases e : withR feet pairs num with
  | some k =>
    obtain ⟨_, h2, _⟩ := of_some e
    have h2 := of_decide_eq_true h2
    have hv := lts_v feet pairs k
    have := run_few hv hf
    have := run_most hv hm
    exact .inl ⟨by omega, by omega, _, rfl, hv, h2⟩
  | none =>
    refine .inr ⟨fun ⟨a, b⟩ => ?_, rfl⟩
    obtain ⟨k, hk, he⟩ := lts_between hf hm a b
    have := of_none e k (by omega)
    rw [decide_eq_true he] at this
    exact absurd this (by decide)
end DL
namespace DL
open PySem PySem.Spec PyProof.Rows L2
/-- pairs of at least a size, up to another; feet up to a size -/
def cgS (pairs : List Int) (s : Int) (left : List Int) (z : Int) : Nat := left.countP fun j => decide (s ≤ getI pairs j) && decide (getI pairs j ≤ z)
def cgF (feet ord : List Int) (z : Int) : Nat := ord.countP fun b => decide (getI feet b ≤ z)
theorem cgF_cons (feet ord : List Int) (b z : Int) : cgF feet (b :: ord) z = cgF feet ord z + if getI feet b ≤ z then 1 else 0 := by
  unfold cgF
  rw [List.countP_cons]
  simp
theorem cgF_mono (feet ord : List Int) {y z : Int} (h : y ≤ z) : cgF feet ord y ≤ cgF feet ord z := List.countP_mono_left fun x _ hx => decide_eq_true (Int.le_trans (of_decide_eq_true hx) h)
theorem cgS_erase {pairs : List Int} {s : Int} {left : List Int} {j : Int} (h : j ∈ left) (z : Int) : cgS pairs s left z = cgS pairs s (left.erase j) z + if s ≤ getI pairs j ∧ getI pairs j ≤ z then 1 else 0 := by
  unfold cgS
  rw [(List.perm_cons_erase h).countP_eq, List.countP_cons]
  simp
theorem cgS_cut {pairs : List Int} {s : Int} {left : List Int} {y z : Int} (hy : y ≤ z) (h : ∀ j ∈ left, s ≤ getI pairs j → getI pairs j ≤ z → getI pairs j ≤ y) : cgS pairs s left z = cgS pairs s left y := by
  refine List.countP_congr fun j hj => ?_
  simp only [Bool.and_eq_true, decide_eq_true_eq]
  exact ⟨fun ⟨a, b⟩ => ⟨a, h j hj a b⟩, fun ⟨a, b⟩ => ⟨a, Int.le_trans b hy⟩⟩
theorem gs_count {feet pairs : List Int} {s : Int} {b : List (Int × Int)} : ∀ {r : List (Int × Int)} {left : List Int}, Gs anyR feet pairs left (r ++ b) → ∃ left', Gs anyR feet pairs left' b ∧ (∀ j ∈ left', j ∈ left) ∧ ∀ z, cgS pairs s left z ≤ cgF feet (r.map (·.1)) z + cgS pairs s left' z
  | [], left, g => ⟨left, g, fun _ h => h, fun z => by show _ ≤ 0 + _; omega⟩
  | q :: r, left, g => by
    rcases g with ⟨a, b1, c⟩ | ⟨a, b1, c, d⟩
    · obtain ⟨l, h1, h2, h3⟩ := gs_count (s := s) c
      refine ⟨l, h1, h2, fun z => ?_⟩
      rw [List.map_cons, cgF_cons]
      have := h3 z
      omega
    · obtain ⟨l, h1, h2, h3⟩ := gs_count (s := s) d
      refine ⟨l, h1, fun j hj => List.mem_of_mem_erase (h2 j hj), fun z => ?_⟩
      rw [List.map_cons, cgF_cons, cgS_erase a]
      have := h3 z
      have hf := of_decide_eq_true b1
      split <;> split <;> omega
/-- who goes without: those before could take all pairs that fit -/
theorem gs_miss {feet pairs : List Int} {g : Int} {b r : List (Int × Int)} {left : List Int} (h0 : ∀ j ∈ left, 0 ≤ j) (h : Gs anyR feet pairs left (r ++ (g, -1) :: b)) (z : Int) : cgS pairs (getI feet g) left z ≤ cgF feet (r.map (·.1)) z := by
  obtain ⟨l, h1, h2, h3⟩ := gs_count (s := getI feet g) h
  have hz := h3 z
  have hn : ∀ j ∈ l, fitG feet pairs g j = false := by
    rcases h1 with ⟨a, _, _⟩ | ⟨a, _, _, _⟩
    · exact a
    · have := h0 _ (h2 _ a)
      have this : (0 : Int) ≤ -1 := this
      omega
  have : cgS pairs (getI feet g) l z = 0 := List.countP_eq_zero.mpr fun j hj => by
    have := of_decide_eq_false (hn j hj)
    simp [this]
  omega
theorem first_rl {rl : Int → Int → Prop} {p : Int → Bool} : ∀ {left : List Int} {j : Int} {js : List Int}, left.Pairwise rl → left.filter p = j :: js → ∀ i ∈ left, p i = true → i = j ∨ rl j i := by
  intro left j js hp e i hi hpi
  have h1 := hp.filter p
  rw [e, List.pairwise_cons] at h1
  have h2 : i ∈ left.filter p := List.mem_filter.mpr ⟨hi, hpi⟩
  rw [e] at h2
  rcases List.mem_cons.mp h2 with q | q
  · exact .inl q
  · exact .inr (h1.1 i q)
/-- who likes what fits g, the smallest first, takes all of it, if that can be -/
theorem byL_miss {feet pairs : List Int} {g : Int} {rest : List Int} : ∀ {ord left : List Int}, left.Pairwise (rlG feet pairs g) → (∀ z, cgS pairs (getI feet g) left z ≤ cgF feet ord z) → ∃ left', byL feet pairs left (ord ++ g :: rest) = byL feet pairs left ord ++ (g, -1) :: byL feet pairs left' rest
  | [], left, hp, hc => by
    have e : (left.filter fun j => decide (getI feet g ≤ getI pairs j)) = [] := List.filter_eq_nil_iff.mpr fun j hj hfit => by
      have h1 := hc (getI pairs j)
      have h2 : 0 < cgS pairs (getI feet g) left (getI pairs j) := List.countP_pos_iff.mpr ⟨j, hj, by simpa using of_decide_eq_true hfit⟩
      have h3 : cgF feet [] (getI pairs j) = 0 := rfl
      omega
    exact ⟨left, byL_nil e⟩
  | b :: ord, left, hp, hc => by
    -- no pair of those that fit g, up to z, fits b
    have key : ∀ z, getI feet b ≤ z → (∀ i ∈ left, getI feet g ≤ getI pairs i → getI feet b ≤ getI pairs i → z < getI pairs i) → cgS pairs (getI feet g) left z ≤ cgF feet ord z := fun z hz hn => by
      have h1 := cgS_cut (pairs := pairs) (s := getI feet g) (left := left) (y := getI feet b - 1) (z := z) (by omega) fun i hi a c => by
        by_cases q : getI feet b ≤ getI pairs i
        · have := hn i hi a q; omega
        · omega
      have h2 := hc (getI feet b - 1)
      rw [cgF_cons, if_neg (by omega)] at h2
      have h3 := cgF_mono feet ord (show getI feet b - 1 ≤ z by omega)
      omega
    cases e : left.filter fun j => decide (getI feet b ≤ getI pairs j) with
    | nil =>
      have hn := List.filter_eq_nil_iff.mp e
      obtain ⟨l, hl⟩ := byL_miss (rest := rest) (ord := ord) hp fun z => by
        by_cases q : getI feet b ≤ z
        · exact key z q fun i hi _ c => absurd (decide_eq_true c) (hn i hi)
        · have h2 := hc z
          rw [cgF_cons, if_neg q] at h2
          exact h2
      refine ⟨l, ?_⟩
      rw [List.cons_append, byL_nil e, byL_nil e, hl]
      rfl
    | cons j js =>
      have hfr := first_rl hp e
      have hjl : j ∈ left.filter fun j => decide (getI feet b ≤ getI pairs j) := by rw [e]; exact List.mem_cons_self
      obtain ⟨hj, hjb⟩ := List.mem_filter.mp hjl
      have hjb := of_decide_eq_true hjb
      obtain ⟨l, hl⟩ := byL_miss (rest := rest) (ord := ord) (left := left.erase j) (hp.sublist List.erase_sublist) fun z => by
        have he := cgS_erase (pairs := pairs) (s := getI feet g) hj z
        have h2 := hc z
        rw [cgF_cons] at h2
        by_cases hg : getI feet g ≤ getI pairs j ∧ getI pairs j ≤ z
        · rw [if_pos hg] at he
          rw [if_pos (show getI feet b ≤ z by omega)] at h2
          omega
        · rw [if_neg hg] at he
          by_cases q : getI feet b ≤ z
          · have := key z q fun i hi a c => by
              rcases hfr i hi (decide_eq_true c) with rfl | r
              · omega
              · have := r a
                omega
            omega
          · rw [if_neg q] at h2
            omega
      refine ⟨l, ?_⟩
      rw [List.cons_append, byL_cons e, byL_cons e, hl]
      rfl
theorem max_of : ∀ {l : List Int}, l ≠ [] → ∃ m ∈ l, ∀ y ∈ l, y ≤ m
  | [a], _ => ⟨a, by simp, fun y hy => by rw [List.mem_singleton.mp hy]; exact Int.le_refl _⟩
  | a :: b :: l, _ => by
    obtain ⟨m, hm, h⟩ := max_of (l := b :: l) (by simp)
    by_cases q : a ≤ m
    · exact ⟨m, List.mem_cons_of_mem _ hm, fun y hy => (List.mem_cons.mp hy).elim (fun e => e ▸ q) (h y)⟩
    · exact ⟨a, List.mem_cons_self, fun y hy => (List.mem_cons.mp hy).elim (fun e => Int.le_of_eq e) fun e => by have := h y e; omega⟩
/-- the look at all sizes, by those of the pairs -/
theorem take_all {feet pairs ord : List Int} {g : Int} : canTake (ord.map (getI feet)) (fitS feet pairs g) = true ↔ ∀ z, cgS pairs (getI feet g) (intsN pairs.length) z ≤ cgF feet ord z := by
  have eF : ∀ z, ((ord.map (getI feet)).filter fun f => decide (f ≤ z)).length = cgF feet ord z := fun z => by
    unfold cgF
    rw [← List.countP_eq_length_filter, List.countP_map]
    rfl
  have eS : ∀ z, ((fitS feet pairs g).filter fun o => decide (o ≤ z)).length = cgS pairs (getI feet g) (intsN pairs.length) z := fun z => by
    rw [cnt_S]
    unfold cgS fitL
    rw [← List.countP_eq_length_filter, List.countP_filter]
    refine List.countP_congr fun j _ => ?_
    simp only [Bool.and_eq_true, decide_eq_true_eq]
    exact ⟨fun ⟨a, b⟩ => ⟨b, a⟩, fun ⟨a, b⟩ => ⟨b, a⟩⟩
  rw [take_iff]
  constructor
  · intro h z
    rw [← eS]
    by_cases c : ((fitS feet pairs g).filter fun o => decide (o ≤ z)) = []
    · rw [c]; exact Nat.zero_le _
    · obtain ⟨m, hm, hmax⟩ := max_of c
      obtain ⟨m1, m2⟩ := List.mem_filter.mp hm
      have m2 := of_decide_eq_true m2
      have h1 := h m m1
      rw [eF] at h1
      have h2 := cgF_mono feet ord m2
      have h3 : ((fitS feet pairs g).filter fun o => decide (o ≤ z)) = (fitS feet pairs g).filter fun o => decide (o ≤ m) := List.filter_congr fun x hx => by
        refine decide_eq_decide.mpr ⟨fun q => hmax x (List.mem_filter.mpr ⟨hx, decide_eq_true q⟩), fun q => Int.le_trans q m2⟩
      rw [h3]
      omega
  · intro h z _
    rw [eS, eF]
    exact h z
end DL
namespace DL
open PySem PySem.Spec PyProof.Rows L2
def runsIn (feet pairs order : List Int) : List (List (Int × Int)) := order.foldl (fun rows g => begunR feet pairs rows g) [[]]
theorem mem_begunR {feet pairs : List Int} {rows : List (List (Int × Int))} {g : Int} {r : List (Int × Int)} : r ∈ begunR feet pairs rows g ↔ ∃ r0 ∈ rows, ∃ j, okq feet pairs (leftT pairs.length (r0.map (·.2))) (g, j) ∧ r = r0 ++ [(g, j)] := by
  unfold begunR begun1
  rw [List.mem_flatMap]
  constructor
  · rintro ⟨r0, h0, h1⟩
    obtain ⟨j, hj, rfl⟩ := List.mem_map.mp h1
    exact ⟨r0, h0, j, mem_choices.mp hj, rfl⟩
  · rintro ⟨r0, h0, j, hj, rfl⟩
    exact ⟨r0, h0, List.mem_map.mpr ⟨j, mem_choices.mpr hj, rfl⟩⟩
theorem mem_fold {feet pairs : List Int} : ∀ {order : List Int} {rows : List (List (Int × Int))} {r : List (Int × Int)}, (∀ r0 ∈ rows, Gs anyR feet pairs (leftT pairs.length []) r0) →
    (r ∈ order.foldl (fun rows g => begunR feet pairs rows g) rows ↔ ∃ r0 ∈ rows, ∃ t, r = r0 ++ t ∧ t.map (·.1) = order ∧ Gs anyR feet pairs (leftT pairs.length []) r)
  | [], rows, r, h => by
    constructor
    · intro hr
      exact ⟨r, hr, [], by simp, rfl, h r hr⟩
    · rintro ⟨r0, h0, t, rfl, ht, _⟩
      have : t = [] := List.map_eq_nil_iff.mp ht
      rw [this, List.append_nil]
      exact h0
  | g :: order, rows, r, h => by
    have h' : ∀ r1 ∈ begunR feet pairs rows g, Gs anyR feet pairs (leftT pairs.length []) r1 := fun r1 hr1 => by
      obtain ⟨r0, h0, j, hj, rfl⟩ := mem_begunR.mp hr1
      exact (gs_append (g, j) r0 []).mpr ⟨h r0 h0, by rw [List.nil_append]; exact hj⟩
    rw [List.foldl_cons, mem_fold h']
    constructor
    · rintro ⟨r1, h1, t, rfl, ht, hg⟩
      obtain ⟨r0, h0, j, hj, rfl⟩ := mem_begunR.mp h1
      exact ⟨r0, h0, (g, j) :: t, by simp, by rw [List.map_cons, ht], hg⟩
    · rintro ⟨r0, h0, t, rfl, ht, hg⟩
      cases t with
      | nil => cases ht
      | cons q t =>
        obtain ⟨g', j⟩ := q
        rw [List.map_cons] at ht
        obtain ⟨e1, e2⟩ := List.cons.inj ht
        have e1 : g' = g := e1
        subst e1
        have hg2 : Gs anyR feet pairs (leftT pairs.length []) (r0 ++ [(g', j)]) := gs_pre _ _ (b := t) (by rw [List.append_assoc]; exact hg)
        have ho := ((gs_append (g', j) r0 []).mp hg2).2
        rw [List.nil_append] at ho
        exact ⟨r0 ++ [(g', j)], mem_begunR.mpr ⟨r0, h0, j, ho, rfl⟩, t, by simp, e2, hg⟩
theorem mem_runsIn {feet pairs order : List Int} {r : List (Int × Int)} : r ∈ runsIn feet pairs order ↔ r.map (·.1) = order ∧ Gs anyR feet pairs (leftT pairs.length []) r := by
  unfold runsIn
  rw [mem_fold (fun r0 h0 => by rw [List.mem_singleton.mp h0]; trivial)]
  constructor
  · rintro ⟨r0, h0, t, rfl, ht, hg⟩
    rw [List.mem_singleton.mp h0, List.nil_append] at hg ⊢
    exact ⟨ht, hg⟩
  · rintro ⟨ht, hg⟩
    exact ⟨[], by simp, r, by simp, ht, hg⟩
/-- those who leave before -/
def befO (order : List Int) (g : Int) : List Int := order.take (order.idxOf g)
theorem befO_app {a b : List Int} {g : Int} (h : g ∉ a) : befO (a ++ g :: b) g = a := by
  unfold befO
  rw [List.idxOf_append, if_neg h]
  simp
theorem split_first {g : Int} : ∀ {order : List Int}, g ∈ order → ∃ a b, order = a ++ g :: b ∧ g ∉ a
  | x :: order, h => by
    by_cases e : g = x
    · subst e
      exact ⟨[], order, rfl, by simp⟩
    · obtain ⟨a, b, h1, h2⟩ := split_first ((List.mem_cons.mp h).resolve_left e)
      refine ⟨x :: a, b, by rw [h1]; rfl, fun q => ?_⟩
      rcases List.mem_cons.mp q with q | q
      · exact e q
      · exact h2 q
theorem befO_split {order : List Int} {g : Int} (h : g ∈ order) : ∃ b, order = befO order g ++ g :: b ∧ g ∉ befO order g := by
  obtain ⟨a, b, rfl, hn⟩ := split_first h
  exact ⟨b, by rw [befO_app hn], by rw [befO_app hn]; exact hn⟩
theorem cgS_perm {pairs l l' : List Int} {s : Int} (h : l.Perm l') (z : Int) : cgS pairs s l z = cgS pairs s l' z := h.countP_eq _
theorem cgF_perm {feet l l' : List Int} (h : l.Perm l') (z : Int) : cgF feet l z = cgF feet l' z := h.countP_eq _
theorem in_miss {feet pairs order : List Int} {g : Int} (hnd : order.Nodup) (hg : g ∈ order) : (∃ r ∈ runsIn feet pairs order, (g, (-1 : Int)) ∈ r) ↔ canTake ((befO order g).map (getI feet)) (fitS feet pairs g) = true := by
  rw [take_all]
  constructor
  · rintro ⟨r, hr, hm⟩
    obtain ⟨h1, h2⟩ := mem_runsIn.mp hr
    obtain ⟨a, b, rfl⟩ := List.append_of_mem hm
    rw [List.map_append, List.map_cons] at h1
    have hna : g ∉ a.map (·.1) := by
      rw [← h1, List.nodup_append] at hnd
      intro q
      exact hnd.2.2 g q g List.mem_cons_self rfl
    have e : befO order g = a.map (·.1) := by rw [← h1]; exact befO_app hna
    rw [e]
    rw [leftT_nil] at h2
    exact gs_miss (fun j hj => (mem_intsN hj).1) h2
  · intro h
    obtain ⟨b, e, hn⟩ := befO_split hg
    have hp := liking_perm feet pairs g
    obtain ⟨l, hl⟩ := byL_miss (rest := b) (liking_rl feet pairs g) fun z => by rw [cgS_perm hp]; exact h z
    rw [← e] at hl
    refine ⟨byL feet pairs (bySz pairs (fitL feet pairs g) ++ smallL feet pairs g) order, mem_runsIn.mpr ⟨byL_fst _ _ _ _, ?_⟩, by rw [hl]; simp⟩
    rw [leftT_nil]
    exact ((byL_gs (rlG_refl feet pairs g) feet pairs order _ (liking_rl feet pairs g)).mono fun _ _ _ => trivial).perm hp
theorem against_miss {feet pairs bef : List Int} {g : Int} (hnd : bef.Nodup) (hb : ∀ o ∈ bef, o ∈ intsN feet.length) : ∃ a j, againstR feet pairs bef g = a ++ [(g, j)] ∧ (j = -1 ↔ canTake (bef.map (getI feet)) (fitS feet pairs g) = true) := by
  have hp := liking_perm feet pairs g
  have hO : (againstO feet bef).Perm bef := by
    unfold againstO
    have h1 := obf_perm feet
    have hnd2 : (obf feet).Nodup := h1.nodup_iff.mpr ((intsN_lt _).imp fun h => Int.ne_of_lt h)
    refine (List.perm_ext_iff_of_nodup (hnd2.filter _) hnd).mpr fun x => ?_
    rw [List.mem_filter, decide_eq_true_eq]
    exact ⟨fun q => q.2, fun q => ⟨h1.mem_iff.mpr (hb x q), q⟩⟩
  rw [take_all]
  unfold againstR
  obtain ⟨a, j, ha⟩ := byL_last feet pairs g (againstO feet bef) (bySz pairs (fitL feet pairs g) ++ smallL feet pairs g)
  refine ⟨a, j, ha, ?_, ?_⟩
  · rintro rfl z
    have hf := byL_fst feet pairs (againstO feet bef ++ [g]) (bySz pairs (fitL feet pairs g) ++ smallL feet pairs g)
    rw [ha, List.map_append] at hf
    have hf2 : a.map (·.1) = againstO feet bef := (List.append_inj' hf rfl).1
    have h2 := ((byL_gs (rlG_refl feet pairs g) feet pairs (againstO feet bef ++ [g]) _ (liking_rl feet pairs g)).mono (rl' := anyR) fun _ _ _ => trivial).perm hp
    rw [ha] at h2
    have := gs_miss (fun j hj => (mem_intsN hj).1) h2 z
    rwa [hf2, cgF_perm hO] at this
  · intro h
    obtain ⟨l, hl⟩ := byL_miss (rest := []) (ord := againstO feet bef) (liking_rl feet pairs g) fun z => by rw [cgS_perm hp, cgF_perm hO]; exact h z
    rw [ha] at hl
    have := (List.append_inj' hl rfl).2
    exact (Prod.mk.inj (List.cons.inj this).1).2
end DL
namespace DL
open PySem PySem.Spec PyProof.Rows L2
variable {X : Cx} {Y : Fx}
/-- what may be shown, with dicts -/
structure TameE (m k : Nat) (d : PyData) : Prop where
  sh : d.showable = true
  dp : d.depth ≤ k
  le : d.shown.length ≤ m
theorem TameE.mono {m k m' k' : Nat} {d : PyData} (h : TameE m k d) (h1 : m ≤ m') (h2 : k ≤ k') : TameE m' k' d := ⟨h.sh, Nat.le_trans h.dp h2, Nat.le_trans h.le h1⟩
end DL
set_option maxHeartbeats 4000000
namespace DL
open PySem PySem.Spec PyProof.Rows L2
/-- the pairs that were given out -/
def ZPairs (S : Nat) (xs ys : Array Value) (i : Nat) (h : Heap) : Prop := ∀ j, j < i → ∃ x y, xs[j]? = some x ∧ ys[j]? = some y ∧ IsPair h (S + 1 + j) x y
theorem ZPairs.keep {S i : Nat} {xs ys : Array Value} {h h' : Heap} (p : ZPairs S xs ys i h) (k : ∀ b o, S < b → h.get? b = some o → h'.get? b = some o) : ZPairs S xs ys i h' := fun j hj => by
  obtain ⟨x, y, e1, e2, e3⟩ := p j hj
  exact ⟨x, y, e1, e2, k _ _ (by omega) e3⟩
end DL
set_option maxHeartbeats 4000000
set_option maxHeartbeats 4000000
set_option maxHeartbeats 4000000
namespace DL
open PySem PySem.Spec PyProof.Rows L2
theorem Has.mono {P : Program} {w : World} {K : PySem.W.Frag} {mg : Str → Option Value} {base : Heap} {x : Str} {j k : Nat} {ps : List Str} {c : DSpec} (h : Has P w K mg base x j ps c) (hj : j ≤ k) : Has P w K mg base x k ps c := by
  obtain ⟨f, fd, h1, h2, h3, h4⟩ := h
  exact ⟨f, fd, h1, h2, h3, h4.mono hj⟩
end DL
set_option maxHeartbeats 4000000
namespace DL
open PySem PySem.Spec PyProof.Rows L2
structure FnGX (P : Program) (w : World) (K : PySem.W.Frag) (mg : Str → Option Value) (base : Heap) (k : Nat) (f : Addr) (fd : FuncData) (ps : List Str) (sp : Sp) : Prop where
  len : ∀ vs H Q E, sp vs H Q E → vs.length = ps.length
  run : ∀ (A : Around) (outer : List Env) (s : Shared) (H : Hp) (args : Args) (us : List Value) (vs : List V) (Q : VK) (E : XK), A.guards = some [] → Room k A → Env0 P w K mg base A outer s H →
    BindsTo s fd args (ps.zip us) → Vals vs us → sp vs H Q E → codeAny (model P w) A (.call (.ref f) args) (CR (L2.CX P w) outer P w H s Q E) s
section
variable {P : Program} {w : World} {K : PySem.W.Frag} {mg : Str → Option Value} {base : Heap} {j k : Nat} {f : Addr} {fd : FuncData} {ps : List Str} {sp : Sp}
theorem FnGX.mono (F : FnGX P w K mg base j f fd ps sp) (h : j ≤ k) : FnGX P w K mg base k f fd ps sp :=
  ⟨F.len, fun A outer s H args us vs Q E hg hr => F.run A outer s H args us vs Q E hg (hr.mono h)⟩
end
structure Ex where
  C : Addr
  fs : List (Str × PyData)
def ExR (K : PySem.W.Frag) (F : Hp) (ex : Ex) (cls : Value) (d : Option Addr) : Prop := cls = .ref ex.C ∧ XoAt K F ⟨cls, d, ex.fs⟩
theorem ExR.mono {K : PySem.W.Frag} {F F' : Hp} {ex : Ex} {cls : Value} {d : Option Addr} (h : ExR K F ex cls d) (e : Same F F') : ExR K F' ex cls d := ⟨h.1, h.2.mono e⟩
/-- what is wished of an error, at the slots -/
abbrev DW := Ex → Rho → Wo → Prop
end DL
set_option maxHeartbeats 4000000
namespace DL
open PySem PySem.Spec PyProof.Rows L2
section
variable {K : PySem.W.Frag} {F : Hp}
theorem FsR.lookup {f : Str} {d : PyData} : ∀ {fs : List (Str × PyData)} {vs : List (Str × V)}, FsR K F fs vs → fs.lookup f = some d → ∃ v, vs.lookup f = some v ∧ Rp K F d v
  | [], _, .nil, h => by cases h
  | (g, x) :: fs, _, .cons (b := (g', v)) (l₂ := vs) hr ht, h => by
    obtain ⟨e, hr⟩ := hr
    have e : g = g' := e
    subst e
    by_cases q : f = g
    · subst q
      have h2 : List.lookup f ((f, x) :: fs) = some x := by simp [List.lookup]
      rw [h2] at h
      cases h
      exact ⟨v, by simp [List.lookup], hr⟩
    · have q2 : (f == g) = false := by simpa using q
      have h2 : List.lookup f ((g, x) :: fs) = List.lookup f fs := by simp [List.lookup, q2]
      rw [h2] at h
      obtain ⟨w, e1, e2⟩ := FsR.lookup ht h
      exact ⟨w, by simp only [List.lookup, q2]; exact e1, e2⟩
theorem VR.ref {δ : DkS} {H : Hp} {a : Addr} {v : V} (h : VR K δ F H (.dat (refD a)) v) : v = .ref a := Rp.ref (K := K) (F := F) h
theorem FsR.length {fs : List (Str × PyData)} {vs : List (Str × V)} (h : FsR K F fs vs) : fs.length = vs.length := Paired.length h
end
end DL
set_option maxHeartbeats 4000000
namespace DL
open PySem PySem.Spec PyProof.Rows L2
section
variable {X : Cx} {Y : Fx} {dw : DW} {W : WX}
/-- a def's entry, moved to where F stands -/
def Fx.at_ (Y : Fx) (F : Hp) : Fx := ⟨F, Y.H0, Y.δ⟩
end
end DL
set_option maxHeartbeats 4000000
set_option maxHeartbeats 4000000
set_option maxHeartbeats 4000000
set_option maxHeartbeats 4000000
set_option maxHeartbeats 4000000
set_option maxHeartbeats 4000000
namespace LkE
open PySem PySem.W PySem.Calls PyProof.Rows PySem.HandSPX
open Builtin Builtin.ObjectAttr
abbrev bare (C : Addr) (od : Option Addr) (fv : Array Value) : Obj := { cls := .ref C, dict := od, data := .fields fv }
end LkE
set_option maxHeartbeats 4000000
set_option maxHeartbeats 4000000
set_option maxHeartbeats 4000000
namespace DL
open PySem PySem.Spec PyProof.Rows L2
inductive Tst (X : Cx) : Expr → (Value → Option Bool) → Prop
  | one {x : Str} {c : Value} {np : Pos} (h : Names X x c) : Tst X (.Name x np) (fun cls => PySem.W.exmOne X.K cls c)
  | two {x1 x2 : Str} {c1 c2 : Value} {p1 p2 tp : Pos} {kk} (h1 : Names X x1 c1) (h2 : Names X x2 c2) : Tst X (.Tuple [.Name x1 p1, .Name x2 p2] kk tp) (fun cls => PySem.W.exmAny X.K cls [c1, c2])
  | three {x1 x2 x3 : Str} {c1 c2 c3 : Value} {p1 p2 p3 tp : Pos} {kk} (h1 : Names X x1 c1) (h2 : Names X x2 c2) (h3 : Names X x3 c3) : Tst X (.Tuple [.Name x1 p1, .Name x2 p2, .Name x3 p3] kk tp) (fun cls => PySem.W.exmAny X.K cls [c1, c2, c3])
section
variable {X : Cx}
theorem ld_names {X : Cx} {E : Value → Shared → Prop} {pins : List (Addr × Obj)} {s : Shared} {σ : L2.St} {H : Hp} {x : Str} {c : Value} {pos : Pos} {Q : Value → Shared → Prop} (I : Inv X pins σ H s) (hc : Names X x c) (h : Q c s) : wpAny (model X.prog X.w) X.A (eval (.Name x pos) X.env) Q E s := by
  obtain ⟨hg, hdbg, hm | ⟨hm, hv, hnn⟩⟩ := hc
  · exact ld_glob I hg hm h hdbg
  · exact ld_blt I hg hm hv h hnn hdbg
theorem Tst.run {t : Expr} {f : Value → Option Bool} (T : Tst X t f) {a : Addr} {pn : List (Addr × Obj)} {pins : List (Addr × Obj)} {σ : L2.St} {H : Hp} {s : Shared} {cls : Value} {b : Bool} {Q : Bool → Shared → Prop} {E : Value → Shared → Prop} (I : Inv (X.suite a pn) pins σ H s)
    (LT : PySem.W.Looks (model X.prog X.w) s.heap (typeOf (.ref a)) cls) (hb : f cls = some b) (q : ∀ h', (∀ q o, s.heap.get? q = some o → h'.get? q = some o) → Q b { s with heap := h' }) :
    wpAny (model X.prog X.w) (X.A.mark (some (.ref a))) (eval t X.env) (fun c s₁ => wpAny (model X.prog X.w) (X.A.mark (some (.ref a))) (excMatches (.ref a) c) Q E s₁) E s := by
  have ld : ∀ {E : Value → Shared → Prop} {x : Str} {c : Value} {p : Pos} {Q : Value → Shared → Prop}, Names X x c → Q c s → wpAny (model X.prog X.w) (X.A.mark (some (.ref a))) (eval (.Name x p) X.env) Q E s := fun h q => ld_names (X := X.suite a pn) I h q
  cases T with
  | one h => exact ld h ((PySem.W.exm_one I.kIn LT hb).here (q _ fun _ _ z => z))
  | @two x1 x2 c1 c2 p1 p2 tp kk h1 h2 =>
    refine wpAny_Tuple ?_
    refine wpAny_items_cons (ld h1 ?_)
    refine wpAny_items_cons (ld h2 ?_)
    refine wpAny_items_nil ⟨by size_fits, ?_⟩
    have kp : ∀ q o, s.heap.get? q = some o → (s.heap.push { cls := .type "tuple", data := .seq [c1, c2].toArray }).get? q = some o := fun _ _ z => Heap.get?_push_of_some _ z
    exact (PySem.W.exm_tup2 (I.kIn.keeps kp) (LT.keeps kp) (Heap.get?_push_size s.heap rfl) hb).here (q _ kp)
  | @three x1 x2 x3 c1 c2 c3 p1 p2 p3 tp kk h1 h2 h3 =>
    refine wpAny_Tuple ?_
    refine wpAny_items_cons (ld h1 ?_)
    refine wpAny_items_cons (ld h2 ?_)
    refine wpAny_items_cons (ld h3 ?_)
    refine wpAny_items_nil ⟨by size_fits, ?_⟩
    have kp : ∀ q o, s.heap.get? q = some o → (s.heap.push { cls := .type "tuple", data := .seq [c1, c2, c3].toArray }).get? q = some o := fun _ _ z => Heap.get?_push_of_some _ z
    exact (PySem.W.exm_tup3 (I.kIn.keeps kp) (LT.keeps kp) (Heap.get?_push_size s.heap rfl) hb).here (q _ kp)
structure Cz where
  f : Value → Option Bool
  i : Option Nat
  ts : Addr → Value → Option Addr → TS
variable {body : List Stmt} {h₀ : ExceptHandler} {hds : List ExceptHandler} {l : List Cz} {pos : Pos} {tb : WX → TS} {Wout : WX}
end
end DL
set_option maxHeartbeats 4000000
set_option maxHeartbeats 4000000
namespace DL
open PySem PySem.Spec PyProof.Rows L2
theorem int_inj : ∀ {a b : List Int}, a.map PyData.int = b.map PyData.int → a = b
  | [], [], _ => rfl
  | [], _ :: _, h => (nomatch h)
  | _ :: _, [], h => (nomatch h)
  | x :: a, y :: b, h => by
    simp only [List.map_cons, List.cons.injEq, PyData.int.injEq] at h
    rw [h.1, int_inj h.2]
theorem clnD_inj {a b : List Int} (h : clnD a = clnD b) : a = b := by
  unfold clnD at h
  injection h with h
  injection h with h
  injection h with _ h
  injection h with h
  injection h with _ h
  exact int_inj h
theorem Rp.cln {K : PySem.W.Frag} {F : Hp} {ns : List Int} {v : V} (h : Rp K F (clnD ns) v) : ∃ (a : Addr) (o : Obj), v = .ref a ∧ F a = some (.frz o (.tup (ns.map V.int))) ∧ o.cls = .type "tuple" ∧ o.dict = none := by
  have h : Rp K F (.dict [(.none, .tuple (.int (((2 : Nat) ^ 2000 : Nat) : Int) :: ns.map .int))]) v := h
  simp only [Rp] at h
  rcases h with ⟨_, _, _, _, ps, _, e⟩ | ⟨b, e, _⟩ | ⟨a, ms, o, e, rfl, h1, h2⟩
  · cases ps with
    | nil => cases e
    | cons q ps =>
      rw [List.map_cons] at e
      injection e with e _
      injection e with e _
      exact absurd e.symm keyD_ne
  · unfold refD at e
    injection e with e
    injection e with e
    injection e with _ e
    cases e
  · obtain rfl : ns = ms := clnD_inj e
    exact ⟨a, o, rfl, h1, h2⟩
theorem rp_cln {K : PySem.W.Frag} {F : Hp} {ns : List Int} {a : Addr} {o : Obj} (h : F a = some (.frz o (.tup (ns.map V.int)))) (hc : o.cls = .type "tuple") (hd : o.dict = none) : Rp K F (clnD ns) (.ref a) := by
  have : Rp K F (.dict [(.none, .tuple (.int (((2 : Nat) ^ 2000 : Nat) : Int) :: ns.map .int))]) (.ref a) := by
    simp only [Rp]
    exact .inr (.inr ⟨a, ns, o, rfl, rfl, h, hc, hd⟩)
  exact this
theorem Rp.unc {K : PySem.W.Frag} {F : Hp} {ns : List Int} {v : V} (h : Rp K F (clnD ns) v) : Rp K F (.tuple (ns.map .int)) v := by
  obtain ⟨a, o, rfl, h1, _⟩ := h.cln
  simp only [Rp]
  exact ⟨a, ns.map V.int, rfl, .inr ⟨o, h1⟩, rps_ints ns⟩
section
variable {X : Cx} {Y : Fx}
/-- a clean tuple where any tuple will do -/
def dUnc (t : DTE) : DTE := fun ρ n R => t ρ n fun x n1 => ∃ ns : List Int, x = .dat (clnD ns) ∧ R (.dat (.tuple (ns.map .int))) n1
theorem we_unc {e : Expr} {t : DTE} (he : WE Y X e t) : WE Y X e (dUnc t) := pe_imp he fun σ H Q ⟨Z, F, ρ, n, R, r, ht, k⟩ =>
  ⟨Z, F, ρ, n, _, r, ht, fun x n1 F1 H1 v ⟨ns, ex, hR⟩ g1 s1 d1 w1 => by
    subst ex
    exact k _ _ _ _ _ hR g1 s1 d1 (Rp.unc w1)⟩
/-- tuple(l), l a list of ints -/
def rTupC (K : PySem.W.Frag) : List V → Hp → VK → Prop := fun xs H Q => ∃ (p : Addr) (ns : List Int), xs = [.ref p] ∧ SqL K H p (ns.map V.int) ∧ ∀ (l : Addr) (o : Obj), H l = none → o.cls = .type "tuple" → o.dict = none → Q (.ref l) (upd H l (.frz o (.tup (ns.map V.int))))
theorem call_tupC : CallR X (.type "tuple") (rTupC X.K) := by
  intro pins s σ H xs us Q I r h
  obtain ⟨p, ns, rfl, hq, q⟩ := h
  obtain ⟨u, rfl, rx⟩ := vals1 r
  cases rx
  obtain ⟨its, r', pl, hz⟩ := I.list hq
  have hlen := r'.length
  refine call_tuple_list pl.isList (fun h' kp => ?_) (by simp only [List.size_toArray] <;> omega)
  have I1 : Inv X pins σ H { s with heap := h' } := I.kept (t' := s.toks) kp
  have I2 : Inv X pins σ (upd H h'.objs.size (.frz { cls := .type "tuple", data := .seq its.toArray } (.tup (ns.map V.int)))) { s with heap := h'.push { cls := .type "tuple", data := .seq its.toArray } } :=
    I1.laid (t' := s.toks) (fun b o e => Heap.get?_push_of_some _ e) (Nat.le_refl _) (show ObjOk X.prog X.w _ _ _ (.frz _ (.tup (ns.map V.int))) from ⟨Heap.get?_push_size _ rfl, hz, its, r', IsTup.new _ _⟩)
  exact ⟨.ref h'.objs.size, _, I2, rfl, q _ _ (I1.hok.fresh (Nat.le_refl _)) rfl rfl⟩
def oTupC : DC := fun xs R => ∃ x, ∃ ns : List Int, xs = [x] ∧ x.toD = .list (ns.map .int) ∧ R (clnD ns)
theorem ck_tupC {K : PySem.W.Frag} : CallOk K (rTupC K) oTupC := fun δ F H xs vs R Q hs hv ⟨x, ns, e, e2, hr⟩ b => by
  subst e
  obtain ⟨v, rfl, h1⟩ := vr1 hv
  obtain ⟨a, l, rfl, h2, h3⟩ := h1.lst hs e2
  obtain rfl := Rps.ints h3
  refine ⟨a, ns, rfl, SqL.of h2, fun p o hp hc hd => ?_⟩
  obtain ⟨g, s⟩ := Gp.new (o := .frz o (.tup (ns.map V.int))) hp hs
  exact b _ _ _ _ hr g s (rp_cln upd_same hc hd)
def rIdxC (K : PySem.W.Frag) : V → List V → Hp → VK → Prop := fun x xs H Q => ∃ (p : Addr) (ns : List Int) (k : Int), x = .ref p ∧ xs = [.int k] ∧ SqT K H p (ns.map V.int) ∧ k ∈ ns ∧ Q (.int (ns.idxOf k : Nat)) H
theorem mt_tindex : MtR X "tuple.index" (rIdxC X.K) := by
  intro pins s σ H x xs v us Q I rx rxs h
  obtain ⟨p, ns, k, rfl, rfl, hs, hk, q⟩ := h
  cases rx
  obtain ⟨u, rfl, ru⟩ := rxs.one
  obtain ⟨t, rfl⟩ := ru
  obtain ⟨its, rv, hp, hlen⟩ := I.tuple hs
  have hi := ints_of_vals rv
  exact PySem.SeqAt.tuple_index_ints (show s.heap.IsTuple p its.toArray from hp) hi hk ⟨.int (ns.idxOf k : Nat), H, I.tok _, ⟨s.toks, rfl⟩, q⟩
def clnV (x : V) (H : Hp) : Prop := ∃ (a : Addr) (o : Obj) (xs : List V), x = .ref a ∧ H a = some (.frz o (.tup xs)) ∧ o.cls = .type "tuple" ∧ o.dict = none
theorem pe_bmC {o e : Expr} {es : List Expr} {to : TE} {t : TA} {name : Str} {apos cpos : Pos} {id : String} {r : V → List V → Hp → VK → Prop} (slot : Slot "tuple" name id) (hty : typeOf (.builtin id) = pure (.type "method_descriptor")) (hm : MtR X id r) (ho : PE X o to) (ha : PA X (e :: es) t)
    (hbase : attributeBase o name X.env (eval o X.env) = eval o X.env)
    (hfew : ((backTo cpos (starEach (e :: es) X.env)).all (fun x => !x.1) && (backToKw cpos (keywordEach [] X.env)).all (fun x => x.1.isSome)
      && decide ((e :: es).length + ([] : List Keyword).length + (if ([] : List Keyword).isEmpty then 0 else 1) < 30)) = true)
    (hline : (apos.endLine == cpos.line) = true) (hs : starEach (e :: es) X.env = (false, eval e X.env) :: starEach es X.env) (hplain : (backTo cpos (starEach es X.env)).any (·.1) = false) :
    PE X (.Call (.Attribute o name apos) (e :: es) [] cpos) (fun σ H Q => to σ H fun x H1 => clnV x H1 ∧ t σ H1 fun xs H2 => r x xs H2 Q) := by
  refine ⟨fun pins s σ H Q I h => ?_⟩
  refine wpAny_Call_method_late hbase hfew hline rfl (thn (ho.run pins s σ H _ I h) fun v s1 ⟨x, H1, I1, r1, ty, q1⟩ => ?_)
  obtain ⟨a, ob, ys, rfl, hH, hc, hd⟩ := ty
  cases r1
  have hg : s1.heap.get? a = some ob := (I1.hok a _ hH).1
  refine ⟨"tuple", id, PySem.F.plainAttrs_tuple, slot, hty, ⟨ob, hg, hc⟩, fun b e => ?_, ?_⟩
  · cases e
    exact ⟨ob, hg, hd⟩
  have hA := ha.run cpos pins s1 σ H1 _ I1 q1
  rw [hs] at hA ⊢
  refine Calls.callWith_builtin (by show (false || (backTo cpos (starEach es X.env)).any (·.1)) = false; rw [hplain] <;> rfl) (Calls.evalArgs_plain ?_)
  exact thn hA fun us s2 ⟨vs, H2, I2, r2, q2⟩ => hm pins s2 σ H2 (.ref a) vs (.ref a) us Q I2 rfl r2 q2
def dMetC (f : List Int → Int → Prop) (g : List Int → Int → Nat) (t u : DTE) : DTE := fun ρ n R => t ρ n fun x n1 => ∃ ns : List Int, x = .dat (clnD ns) ∧ u ρ n1 fun y n2 => ∃ k : Int, y = .dat (.int k) ∧ f ns k ∧ R (.dat (.int (g ns k : Nat))) n2
theorem we_indexC {o e : Expr} {t u : DTE} {apos cpos : Pos} (ho : WE Y X o t) (he : WE Y X e u)
    (hbase : attributeBase o "index" X.env (eval o X.env) = eval o X.env := by rfl)
    (hfew : ((backTo cpos (starEach [e] X.env)).all (fun x => !x.1) && (backToKw cpos (keywordEach [] X.env)).all (fun x => x.1.isSome)
      && decide (([e] : List Expr).length + ([] : List Keyword).length + (if ([] : List Keyword).isEmpty then 0 else 1) < 30)) = true := by rfl)
    (hline : (apos.endLine == cpos.line) = true := by rfl) (hst : starEach [e] X.env = (false, eval e X.env) :: starEach [] X.env := by rfl) (hplain : (backTo cpos (starEach [] X.env)).any (·.1) = false := by rfl) :
    WE Y X (.Call (.Attribute o "index" apos) [e] [] cpos) (dMetC (fun ns k => k ∈ ns) (fun ns k => ns.idxOf k) t u) :=
  pe_imp (pe_bmC PySem.F.slot_tuple_index PySem.F.type_tuple_index mt_tindex ho (pa_cons he pa_nil hst) hbase hfew hline hst hplain) fun σ H Q ⟨Z, F, ρ, n, R, r, ht, k⟩ =>
    ⟨Z, F, ρ, n, _, r, ht, fun x n1 F1 H1 v ⟨ns, e1, hx⟩ g1 s1 d1 w1 => by
      subst e1
      obtain ⟨a, ob, rfl, p1, p2, p3⟩ := Rp.cln (K := X.K) w1
      refine ⟨⟨a, ob, _, rfl, s1 _ _ p1, p2, p3⟩, Z, F1, ρ, n1, _, r.step g1 s1 d1, hx, fun y n2 F2 H2 u2 ⟨b, e2, hb, hy⟩ g2 s2 d2 w2 => ?_⟩
      subst e2
      simp only [VR, Rp] at w2
      subst w2
      exact ⟨a, ns, b, rfl, rfl, sqtR (.inr ⟨ob, s2 _ _ (g2.sF _ _ p1)⟩), hb, k _ _ _ _ _ hy (g1.trans g2) s2 d2 (by simp [VR, Rp])⟩⟩
end
end DL
set_option maxHeartbeats 4000000
namespace DL
open PySem PySem.Spec PyProof.Rows L2
theorem IsClean.sq {K : PySem.W.Frag} {H : Hp} {a : Addr} {o : Obj} {xs : List V} (h : H a = some (.frz o (.tup xs))) : SqT K H a xs := sqtR (.inr ⟨o, h⟩)
/-- what is wanted of a new tuple whose dict is none -/
def NewC (H : Hp) (xs : List V) (Q : VK) : Prop := ∀ (l : Addr) (o : Obj), H l = none → o.cls = .type "tuple" → o.dict = none → Q (.ref l) (upd H l (.frz o (.tup xs)))
theorem Back.cln {K : PySem.W.Frag} {F H : Hp} {R : PyData → Prop} {Q : VK} (b : Back K F H R Q) (hs : Same F H) {ns : List Int} (h : R (clnD ns)) : NewC H (ns.map V.int) Q := fun p o hp hc hd => by
  obtain ⟨g, s⟩ := Gp.new (o := .frz o (.tup (ns.map V.int))) hp hs
  exact b _ _ _ _ h g s (rp_cln upd_same hc hd)
section
variable {X : Cx} {Y : Fx}
theorem laidC {pins : List (Addr × Obj)} {σ : L2.St} {H : Hp} {s : Shared} {Q : VK} {xs : List V} {its : List Value} (I : Inv X pins σ H s) (hz : xs.length ≤ sizeLine) (r : Vals xs its) (q : NewC H xs Q) :
    EP X pins σ Q (.ref s.heap.objs.size) { s with heap := s.heap.push { cls := .type "tuple", data := .seq its.toArray } } :=
  ⟨.ref s.heap.objs.size, _, I.laid (t' := s.toks) (o := .frz { cls := .type "tuple", data := .seq its.toArray } (.tup xs)) (fun b ob q => Heap.get?_push_of_some _ q) (Nat.le_refl _) ⟨Heap.get?_push_size _ rfl, hz, its, r, IsTup.new _ _⟩, rfl, q _ _ (I.hok.fresh (Nat.le_refl _)) rfl rfl⟩
def rCatC (K : PySem.W.Frag) : R2 := fun x y H Q => ∃ a b xs ys, x = .ref a ∧ y = .ref b ∧ SqT K H a xs ∧ SqT K H b ys ∧ xs.length + ys.length ≤ sizeLine ∧
  (xs = [] → Q (.ref b) H) ∧ (xs ≠ [] → ys = [] → Q (.ref a) H) ∧ (xs ≠ [] → ys ≠ [] → NewC H (xs ++ ys) Q)
theorem op_catC : OpR X (binaryOp .Add) (rCatC X.K) := by
  intro pins s σ H x y v u Q I rx ry h
  obtain ⟨a, b, xs, ys, rfl, rfl, ha, hb, hz, q0, q1, q2⟩ := h
  cases rx
  cases ry
  obtain ⟨its, r1, p1, _⟩ := I.tuple ha
  obtain ⟨its2, r2, p2, _⟩ := I.tuple hb
  by_cases hx : xs = []
  · subst hx
    cases r1
    exact cat_tup0 p1 p2 ⟨.ref b, H, I, rfl, q0 rfl⟩
  · refine HT.cat_tup p1 p2 (fun z => hx (r1.nil_iff.mp z)) (fun z => ⟨.ref a, H, I, rfl, q1 hx (r2.nil_iff.mp z)⟩) (fun z => ?_) (by rw [← r1.length, ← r2.length]; exact hz)
    exact laidC I (by rw [List.length_append]; exact hz) (r1.append r2) (q2 hx (fun w => z (r2.nil_iff.mpr w)))
def oCatC : D2 := fun x y R => ∃ ns ms : List Int, x = .dat (clnD ns) ∧ y = .dat (clnD ms) ∧ ns.length + ms.length ≤ sizeLine ∧ R (clnD (ns ++ ms))
theorem bi_catC {K : PySem.W.Frag} : BinOk K (rCatC K) oCatC := fun δ F H x y v u R Q hs hx hy ⟨ns, ms, e1, e2, hz, hr⟩ b => by
  subst e1 e2
  obtain ⟨a, o, rfl, h1, c1, d1⟩ := Rp.cln (K := K) hx
  obtain ⟨a2, o2, rfl, h2, c2, d2⟩ := Rp.cln (K := K) hy
  refine ⟨a, a2, _, _, rfl, rfl, IsClean.sq (hs _ _ h1), IsClean.sq (hs _ _ h2), by rw [List.length_map, List.length_map]; exact hz, fun e => ?_, fun _ e => ?_, fun _ _ => ?_⟩
  · have : ns = [] := List.map_eq_nil_iff.mp e
    subst this
    exact b.here hs hr (rp_cln h2 c2 d2)
  · have : ms = [] := List.map_eq_nil_iff.mp e
    subst this
    rw [List.append_nil] at hr
    exact b.here hs hr (rp_cln h1 c1 d1)
  · rw [← List.map_append]
    exact b.cln hs hr
def rSlC (K : PySem.W.Frag) : V → Option Int → Option Int → Hp → VK → Prop := fun x lo hi H Q => ∃ a xs, x = .ref a ∧ SqT K H a xs ∧
  (HT.sIx xs.length 0 lo = 0 ∧ HT.sIx xs.length xs.length hi = xs.length → Q (.ref a) H) ∧ (¬ (HT.sIx xs.length 0 lo = 0 ∧ HT.sIx xs.length xs.length hi = xs.length) → NewC H (cutV xs lo hi) Q)
theorem sl_tupC : SlR X (rSlC X.K) := by
  intro pins s σ H x v vl vu lo hi sl Q I rx hs pl pu h
  obtain ⟨a, xs, rfl, hx, q1, q2⟩ := h
  cases rx
  obtain ⟨its, r, ht, hz⟩ := I.tuple hx
  have hlen : its.toArray.size = xs.length := by rw [List.size_toArray]; exact r.length.symm
  refine ⟨"tuple", _, PyProof.Rows.slot_tuple_getitem.lookup, ht.typeIs, ?_⟩
  by_cases hw : HT.sIx xs.length 0 lo = 0 ∧ HT.sIx xs.length xs.length hi = xs.length
  · exact getItem_tuple_whole ht hs pl pu (by rw [hlen]; exact hw) ⟨.ref a, H, I, rfl, q1 hw⟩
  · refine HT.getItem_tuple_cut ht hs pl pu (by rw [hlen]; exact hw) ?_ (by rw [hlen]; exact hz)
    rw [hlen]
    exact laidC I (Nat.le_trans (cutV_length xs lo hi) hz) ((r.drop (HT.sIx xs.length 0 lo)).take (HT.sIx xs.length xs.length hi - HT.sIx xs.length 0 lo)) (q2 hw)
def dSlC (t : DTE) (l h : DTO) : DTE := fun ρ n R => t ρ n fun x n1 => l ρ n1 fun lo n2 => h ρ n2 fun hi n3 => ∃ ns : List Int, x = .dat (clnD ns) ∧ R (.dat (clnD (cutG ns lo hi))) n3
theorem cut_map (ns : List Int) (lo hi : Option Int) : cutV (ns.map V.int) lo hi = (cutG ns lo hi).map V.int := by
  unfold cutV cutG
  rw [List.length_map, ← List.map_drop, ← List.map_take]
theorem we_sliceC {e : Expr} {lo hi : Option Expr} {t : DTE} {l h : DTO} {pos p2 : Pos} (he : WE Y X e t) (hl : WO Y X lo l) (hh : WO Y X hi h) : WE Y X (.Subscript e (.Slice lo hi none p2) pos) (dSlC t l h) :=
  pe_imp (pe_slice sl_tupC he hl hh) fun σ H Q ⟨Z, F, ρ, n, R, r, ht, k⟩ =>
    ⟨Z, F, ρ, n, _, r, ht, fun x n1 F1 H1 v hx g1 s1 d1 w1 => ⟨Z, F1, ρ, n1, _, r.step g1 s1 d1, hx, fun lo n2 F2 H2 hlo g2 s2 d2 => ⟨Z, F2, ρ, n2, _, (r.step g1 s1 d1).step g2 s2 d2, hlo, fun hi n3 F3 H3 ⟨ns, ex, hhi⟩ g3 s3 d3 => by
      subst ex
      have w3 : VR X.K Z.δ F3 H3 (.dat (clnD ns)) v := (w1.step g2).step g3
      have b : Back X.K F3 H3 (fun d => R (.dat d) n3) Q := fun d F4 H4 v4 h4 g4 s4 w4 =>
        k _ _ _ _ _ h4 (((g1.trans g2).trans g3).trans g4.gr) s4 (g4.dk ((((r.step g1 s1 d1).step g2 s2 d2).step g3 s3 d3).b)) w4
      obtain ⟨a, o, rfl, h1, c1, d1'⟩ := Rp.cln (K := X.K) w3
      refine ⟨a, _, rfl, IsClean.sq (s3 _ _ h1), fun q => ?_, fun _ => ?_⟩
      · rw [cut_whole (by rw [List.length_map] at q; exact q)] at hhi
        exact b.here s3 hhi (rp_cln h1 c1 d1')
      · rw [cut_map]
        exact b.cln s3 hhi⟩⟩⟩
def tTupC (t : TA) : TE := fun σ H Q => t σ H fun xs H1 => xs.length ≤ sizeLine ∧ NewC H1 xs Q
theorem pe_tupC {es : List Expr} {t : TA} {pos : Pos} {x1} (h : PA X es t) : PE X (.Tuple es x1 pos) (tTupC t) := by
  refine ⟨fun pins s σ H Q I hq => ?_⟩
  refine wpAny_Tuple_spliced (thn (h.run pos pins s σ H _ I hq) fun us s1 ⟨xs, H1, I1, r, z, q⟩ => ⟨by rw [← r.length]; exact z, ?_⟩)
  exact laidC I1 z r q
def dTupC (t : DTA) : DTE := fun ρ n R => t ρ n fun xs n' => needDs xs fun ds => ∃ ns : List Int, ds = ns.map .int ∧ ns.length ≤ sizeLine ∧ R (.dat (clnD ns)) n'
theorem we_tupD {es : List Expr} {t : DTA} {x1} {pos : Pos} (h : WA Y X es t) : WE Y X (.Tuple es x1 pos) (dTupC t) :=
  pe_imp (pe_tupC h) fun σ H Q ⟨Z, F, ρ, n, R, r, ht, k⟩ => ⟨Z, F, ρ, n, _, r, ht, fun xs n1 F1 H1 vs hx g1 s1 d1 w1 => by
    obtain ⟨ds, ⟨ns, e, hl, hR⟩, hr⟩ := needDs_is w1 hx
    subst e
    obtain rfl := Rps.ints hr
    refine ⟨by rw [List.length_map]; exact hl, fun p o hp hc hd => ?_⟩
    obtain ⟨g2, s2⟩ := Gp.new (o := .frz o (.tup (ns.map V.int))) hp s1
    exact k _ _ _ _ _ hR (g1.trans g2.gr) s2 (g2.dk ((r.step g1 s1 d1).b)) (rp_cln (K := X.K) upd_same hc hd)⟩
end
end DL
set_option maxHeartbeats 4000000
set_option maxHeartbeats 4000000
namespace PySem
open Sem (wp)
end PySem
namespace L2
open PySem PySem.Spec PyProof.Rows GenW
end L2
set_option maxHeartbeats 4000000
namespace DL
open PySem PySem.Spec PyProof.Rows L2
section
variable {X : Cx} {Y : Fx}
structure FnNG (P : Program) (w : World) (K : PySem.W.Frag) (mg : Str → Option Value) (base : Heap) (k : Nat) (f : Addr) (fd : FuncData) (ps : List Str) (sp : Sp) : Prop where
  len : ∀ vs H Q E, sp vs H Q E → vs.length = ps.length
  run : ∀ (A : Around) (outer : List Env) (s : Shared) (H : Hp) (args : Args) (us : List Value) (vs : List V) (Q : VK), Room k A → Env0 P w K mg base A outer s H →
    BindsTo s fd args (ps.zip us) → Vals vs us → sp vs H Q E0 → codeAny (model P w) A (.call (.ref f) args) (CR CX0 outer P w H s Q E0) s
end
section
variable {X : Cx} {Y : Fx}
theorem FnNG.mono {P : Program} {w : World} {K : PySem.W.Frag} {mg : Str → Option Value} {base : Heap} {j k : Nat} {f : Addr} {fd : FuncData} {ps : List Str} {sp : Sp} (F : FnNG P w K mg base j f fd ps sp) (h : j ≤ k) : FnNG P w K mg base k f fd ps sp :=
  ⟨F.len, fun A outer s H args us vs Q hr => F.run A outer s H args us vs Q (hr.mono h)⟩
end
section
variable {X : Cx} {Y : Fx}
def HasNG (P : Program) (w : World) (K : PySem.W.Frag) (mg : Str → Option Value) (base : Heap) (x : Str) (k : Nat) (ps : List Str) (c : DSpec) : Prop :=
  ∃ f fd, mg x = some (.ref f) ∧ PySem.W.keepIn K (.ref f) = true ∧ Binds K fd ps [] ∧ FnNG P w K mg base k f fd ps (spD K ps.length c)
end
section
structure FnNX (P : Program) (w : World) (K : PySem.W.Frag) (mg : Str → Option Value) (base : Heap) (k : Nat) (f : Addr) (fd : FuncData) (ps : List Str) (sp : Sp) : Prop where
  len : ∀ vs H Q E, sp vs H Q E → vs.length = ps.length
  run : ∀ (A : Around) (outer : List Env) (s : Shared) (H : Hp) (args : Args) (us : List Value) (vs : List V) (Q : VK) (E : XK), Room k A → Env0 P w K mg base A outer s H →
    BindsTo s fd args (ps.zip us) → Vals vs us → sp vs H Q E → codeAny (model P w) A (.call (.ref f) args) (CR (L2.CX P w) outer P w H s Q E) s
end
section
variable {P : Program} {w : World} {K : PySem.W.Frag} {mg : Str → Option Value} {base : Heap} {k : Nat} {f : Addr} {fd : FuncData} {ps : List Str} {sp : Sp}
theorem FnNG.g (F : FnNG P w K mg base k f fd ps sp) : FnG P w K mg base k f fd ps sp := ⟨F.len, fun A outer s H args us vs Q _ hr => F.run A outer s H args us vs Q hr⟩
theorem FnNX.mono {j : Nat} (F : FnNX P w K mg base j f fd ps sp) (h : j ≤ k) : FnNX P w K mg base k f fd ps sp := ⟨F.len, fun A outer s H args us vs Q E hr => F.run A outer s H args us vs Q E (hr.mono h)⟩
end
end DL
set_option maxHeartbeats 4000000
namespace DL
open PySem PySem.Spec PyProof.Rows L2
/-- a generator def's contract: R, of all that is handed out -/
abbrev DSpecG := List Dv → Wo → (List PyData → Wo → Prop) → (Ex → Wo → Prop) → Prop
end DL
set_option maxHeartbeats 4000000
set_option maxHeartbeats 4000000
namespace DL
open PySem PySem.Spec PyProof.Rows L2
variable {X : Cx} {Y : Fx} {k : Nat} {f : Addr} {fd : FuncData} {ps : List Str} {PC : Addr → Prop} {m : Str} {c : Addr → DSpecG} {sp : SpG}
section
variable {P : Program} {w : World} {K : PySem.W.Frag} {mg : Str → Option Value} {base : Heap} {PC : Addr → Prop} {C : Addr} {nm m kw : Str} {k : Nat} {ps : List Str}
theorem HasNG.g {c : DSpec} (h : HasNG P w K mg base nm k ps c) : Has P w K mg base nm k ps c := let ⟨f, fd, h1, h2, h3, h4⟩ := h; ⟨f, fd, h1, h2, h3, h4.g⟩
end
end DL
set_option maxHeartbeats 4000000
set_option maxHeartbeats 4000000
namespace SrtO
open PySem PySem.W PySem.Calls PyProof.Rows Srt
section
variable {prog : Program} {w : World} {A : Around} {E : Value → Shared → Prop} {s : Shared}
def bv : Value → Int
  | .bool true => 1
  | _ => 0
def ltBv (v u : Value) : Bool := decide (bv v < bv u)
theorem swo_bool : Swo ltBv := by
  refine ⟨fun x y h => ?_, fun x y z h1 h2 => ?_⟩
  · have a := of_decide_eq_true (p := bv x < bv y) h
    exact decide_eq_false (p := bv y < bv x) (by omega)
  · have a := of_decide_eq_false (p := bv y < bv x) h1
    have b := of_decide_eq_false (p := bv z < bv y) h2
    exact decide_eq_false (p := bv z < bv x) (by omega)
theorem bool_cmp {bs : List Bool} : Cmp prog w A s oneType' (fun p => p.1 ∈ bs.map Value.bool) (lt2 ltBv) := by
  intro p q hm hm'
  obtain ⟨a, _, e⟩ := List.mem_map.mp hm
  obtain ⟨b, _, e'⟩ := List.mem_map.mp hm'
  show wpAny (model prog w) A (keyLt' oneType' p.1 q.1) (fun r s' => s' = s ∧ r = ltBv p.1 q.1) (fun _ _ => False) s
  rw [← e, ← e', keyLt'_oneType]
  refine oneLt_bool ⟨rfl, ?_⟩
  cases a <;> cases b <;> rfl
theorem mapM_first_bools : ∀ {bs : List Bool}, (bs.map Value.bool).mapM firstOfTuple' = pure ((bs.map Value.bool).map fun _ => none)
  | [] => by simp
  | b :: bs => by
    rw [List.map_cons, List.mapM_cons, mapM_first_bools, show firstOfTuple' (Value.bool b) = pure none from rfl]
    simp
theorem mapM_typeOf_bools : ∀ {bs : List Bool}, (bs.map Value.bool).mapM typeOf = pure ((bs.map Value.bool).map fun _ => Value.type "bool")
  | [] => by simp
  | b :: bs => by
    rw [List.map_cons, List.mapM_cons, mapM_typeOf_bools]
    show (pure (Value.type "bool") >>= fun b => pure _ >>= fun bs => pure (b :: bs)) = _
    simp
theorem keyKind_bools {b1 b2 : Bool} {bs : List Bool} : keyKind' ((b1 :: b2 :: bs).map Value.bool).toArray = pure oneType' := by
  rw [keyKind'_eq, List.mapM_toArray, mapM_first_bools]
  simp only [map_pure, pure_bind]
  rw [if_neg (by simp), if_neg (by simp)]
  rw [oneTypeOnly'_eq, List.mapM_toArray, mapM_typeOf_bools]
  simp only [map_pure, pure_bind]
  have hall : ((List.map (fun _ => Value.type "bool") ((b1 :: b2 :: bs).map Value.bool)).toArray.all fun x => x == Value.type "bool") = true := by
    simp only [List.all_toArray, List.all_map, List.all_eq_true]
    intro _ _
    rfl
  have h0 : (List.map (fun _ => Value.type "bool") ((b1 :: b2 :: bs).map Value.bool)).toArray[0]? = some (Value.type "bool") := by simp
  rw [h0]
  simp only [hall, if_true, pure_bind, Option.isSome_some]
theorem bools_sortable {a : Addr} {bs : List Bool} (h2 : 2 ≤ bs.length) : SortableO prog w A s a (bs.map Value.bool) ltBv := by
  intro h' _
  refine ⟨oneType', fun Q E hq => ?_, bool_cmp⟩
  match bs, h2 with
  | b1 :: b2 :: bs, _ =>
    rw [keyKind_bools]
    exact wpAny_pure hq
  | [], h => exact absurd h (by decide)
  | [v], h => exact absurd h (by simp)
end
end SrtO
namespace L2
open PySem PySem.Spec PyProof.Rows
theorem vals_bools : ∀ {bs : List Bool} {us : List Value}, Vals (bs.map V.bl) us → us = bs.map Value.bool
  | [], us, h => by
    rw [List.map_nil] at h
    cases h
    rfl
  | b :: bs, us, h => by
    rw [List.map_cons] at h
    cases h with
    | cons r t =>
      rw [vals_bools t]
      cases r
      rfl
theorem vals_of_bools : ∀ {bs : List Bool}, Vals (bs.map V.bl) (bs.map Value.bool)
  | [] => Paired.nil
  | b :: bs => by rw [List.map_cons, List.map_cons]; exact Paired.cons (show RelV (V.bl b) (Value.bool b) from rfl) vals_of_bools
/-- sorted(xs), bools -/
def rSortedB (K : PySem.W.Frag) : List V → Hp → VK → Prop := fun vs H Q => ∃ (a : Addr) (bs : List Bool), vs = [V.ref a] ∧ SqL K H a (bs.map V.bl) ∧
  ∀ (bs' : List Bool) (p : Addr), bs'.Perm bs → bs'.Pairwise (fun x y => x = true → y = true) → H p = none → Q (.ref p) (upd H p (.lst (bs'.map V.bl)))
theorem cr_sortedB {X : Cx} : CallR X (.builtin "sorted") (rSortedB X.K) := by
  intro pins s σ H vs us Q I r h
  obtain ⟨a, bs, rfl, hs, q⟩ := h
  obtain ⟨its, rv, hl, hz⟩ := I.list hs
  rw [Vals.ref1 r]
  obtain rfl := vals_bools rv
  rw [List.length_map] at hz
  refine SrtO.sorted_ord SrtO.swo_bool hl.isList (by rw [List.length_map]; exact hz) (fun h2 h₁ a' _ _ => SrtO.bools_sortable (by rw [List.length_map] at h2; exact h2)) fun out h1 h2 => ?_
  obtain ⟨bs', hb', rfl⟩ : ∃ bs' : List Bool, bs'.Perm bs ∧ out = bs'.map Value.bool := by
    have hp := h2.perm
    have hm : ∀ v ∈ out, ∃ b, Value.bool b = v := fun v hv => by
      obtain ⟨b, _, e⟩ := List.mem_map.mp (hp.mem_iff.mp hv)
      exact ⟨b, e⟩
    have ho : out = (out.map fun v => match v with | .bool b => b | _ => false).map Value.bool := by
      rw [List.map_map]
      conv => lhs; rw [← List.map_id out]
      refine List.map_congr_left fun v hv => ?_
      obtain ⟨b, rfl⟩ := hm v hv
      rfl
    refine ⟨_, ?_, ho⟩
    have h3 := hp.map fun v => match v with | .bool b => b | _ => false
    rw [List.map_map] at h3
    refine h3.trans (List.Perm.of_eq ?_)
    conv => rhs; rw [← List.map_id bs]
    exact List.map_congr_left fun v hv => rfl
  obtain ⟨ep, he'⟩ := PyProof.Rows.sortedAll_at s.heap (bs.map Value.bool) (bs'.map Value.bool).toArray
  have hlen : (bs'.map V.bl).length ≤ sizeLine := by
    rw [List.length_map, hb'.length_eq]
    exact hz
  have hso : bs'.Pairwise (fun x y => x = true → y = true) := (List.pairwise_map.mp h1).imp fun {x y} h hx => by
    subst hx
    have h := of_decide_eq_false (p := SrtO.bv (.bool y) < SrtO.bv (.bool true)) h
    cases y with
    | true => rfl
    | false => exact absurd (by decide) h
  exact ⟨.ref _, upd H (s.heap.objs.size + 1) (.lst (bs'.map V.bl)), I.laid (t' := s.toks) (fun _ _ => PyProof.Rows.sortedAll_old) (Nat.le_succ _) ⟨hlen, _, ep, vals_of_bools, he'⟩, rfl, q _ _ hb' hso (I.hok.fresh (Nat.le_succ _))⟩
end L2
namespace DL
open PySem PySem.Spec PyProof.Rows L2
def oSortB : DCM := fun xs R => ∃ x, ∃ bs : List Bool, xs = [x] ∧ x.toD = .list (bs.map .bool) ∧ ∀ bs' : List Bool, bs'.Perm bs → bs'.Pairwise (fun x y => x = true → y = true) → R (bs'.map .bool)
theorem rps_bools' {K : PySem.W.Frag} {F : Hp} : ∀ bs : List Bool, Rps K F (bs.map PyData.bool) (bs.map V.bl)
  | [] => by simp [Rps]
  | b :: bs => rps_cons (by simp [Rp]) (rps_bools' bs)
theorem ck_sortB {K : PySem.W.Frag} : CallOkM K (rSortedB K) oSortB := fun δ F H xs vs R Q hs hv ⟨x, bs, e, e2, hr⟩ b => by
  subst e
  obtain ⟨v, rfl, h1⟩ := vr1 hv
  obtain ⟨a, us, rfl, h2, h3⟩ := h1.lst hs e2
  rw [h3.bools] at h2
  exact ⟨a, bs, rfl, SqL.of h2, fun bs' p k1 k2 hp => b _ _ _ (hr bs' k1 k2) hp (rps_bools' bs')⟩
end DL
set_option maxHeartbeats 0
namespace DL
open PySem PySem.Spec PyProof.Rows L2
theorem eqvA_bools : ∀ a b : List Bool, PyData.eqvAll (a.map .bool) (b.map .bool) = decide (a = b)
  | [], [] => rfl
  | [], _ :: _ => rfl
  | _ :: _, [] => rfl
  | x :: xs, y :: ys => by
    show (PyData.eqv (.bool x) (.bool y) && PyData.eqvAll (xs.map .bool) (ys.map .bool)) = _
    rw [eqvA_bools xs ys, show PyData.eqv (.bool x) (.bool y) = decide (x = y) by cases x <;> cases y <;> rfl]
    by_cases h1 : x = y <;> by_cases h3 : xs = ys <;> simp [h1, h3]
theorem eqv_bools (a b : List Bool) : PyData.eqv (.list (a.map .bool)) (.list (b.map .bool)) = decide (a = b) := eqvA_bools a b
theorem sh_bools (l : List Bool) : Sh (.list (l.map .bool)) :=
  Bool.and_eq_true_iff.mpr ⟨by simp only [PyData.canLay0]; exact canAll fun d hd => by obtain ⟨_, _, rfl⟩ := List.mem_map.mp hd; rfl, decide_eq_true (by
    simp only [PyData.depth]
    exact Nat.le_trans (Nat.succ_le_succ (depthAll_le (k := 0) fun d hd => by obtain ⟨_, _, rfl⟩ := List.mem_map.mp hd; exact Nat.le_refl _)) (by decide))⟩
end DL
namespace DL
open PySem PySem.Spec PyProof.Rows L2
theorem take_mono {feet pairs ord ord' : List Int} {g o : Int} (hs : ord.Sublist ord') (hf : getI feet g ≤ getI feet o) (h : canTake (ord.map (getI feet)) (fitS feet pairs g) = true) : canTake (ord'.map (getI feet)) (fitS feet pairs o) = true :=
  take_all.mpr fun z => by
    have h1 : cgS pairs (getI feet o) (intsN pairs.length) z ≤ cgS pairs (getI feet g) (intsN pairs.length) z := List.countP_mono_left fun j _ hj => by
      simp only [Bool.and_eq_true, decide_eq_true_eq] at hj ⊢
      exact ⟨Int.le_trans hf hj.1, hj.2⟩
    have h2 := take_all.mp h z
    have h3 : cgF feet ord z ≤ cgF feet ord' z := hs.countP_le
    omega
theorem take_permF {feet pairs ord ord' : List Int} {g : Int} (hp : ord.Perm ord') : canTake (ord.map (getI feet)) (fitS feet pairs g) = canTake (ord'.map (getI feet)) (fitS feet pairs g) := by
  rw [Bool.eq_iff_iff, take_all, take_all]
  exact ⟨fun h z => by rw [← cgF_perm hp]; exact h z, fun h z => by rw [cgF_perm hp]; exact h z⟩
theorem take_none {feet pairs : List Int} {g : Int} : canTake [] (fitS feet pairs g) = decide ((cP pairs (getI feet g) : Int) = 0) := by
  have e : cP pairs (getI feet g) = (fitS feet pairs g).length := rfl
  rw [e, Bool.eq_iff_iff, take_iff, decide_eq_true_eq]
  constructor
  · intro h
    cases q : fitS feet pairs g with
    | nil => rfl
    | cons a l =>
      rw [q] at h
      have := h a List.mem_cons_self
      have h2 : 0 < ((a :: l).filter fun o => decide (o ≤ a)).length := List.length_pos_of_mem (List.mem_filter.mpr ⟨List.mem_cons_self, decide_eq_true (Int.le_refl a)⟩)
      have h3 : (([] : List Int).filter fun f => decide (f ≤ a)).length = 0 := rfl
      omega
  · intro h z hz
    have : fitS feet pairs g = [] := List.eq_nil_of_length_eq_zero (by omega)
    rw [this] at hz
    cases hz
/-- the last one -/
theorem take_last {feet pairs order : List Int} {g : Int} (hp : order.Perm (intsN feet.length)) : canTake ((befO (order.filter (fun o => decide (o ≠ g)) ++ [g]) g).map (getI feet)) (fitS feet pairs g) = canTake (othF feet g) (fitS feet pairs g) := by
  rw [befO_app (by simp)]
  exact take_permF (hp.filter _)
theorem last_perm {n : Nat} {order : List Int} {g : Int} (hp : order.Perm (intsN n)) (hg : g ∈ intsN n) : (order.filter (fun o => decide (o ≠ g)) ++ [g]).Perm (intsN n) :=
  ((hp.filter _).append_right [g]).trans (others_snoc hg)
/-- who goes without in a run can miss -/
theorem run_miss {rl : Int → Int → Prop} {feet pairs order : List Int} {run : List (Int × Int)} {g : Int} (hnd : order.Nodup) (hg : g ∈ order) (hf : run.map (·.1) = order) (h : RunV rl feet pairs run) (hm : (g, (-1 : Int)) ∈ run) : canTake ((befO order g).map (getI feet)) (fitS feet pairs g) = true :=
  (in_miss hnd hg).mp ⟨run, mem_runsIn.mpr ⟨hf, by rw [leftT_nil]; exact h.s.mono fun _ _ _ => trivial⟩, hm⟩
/-- a smaller pair can be left, too -/
theorem serve_mono {feet pairs : List Int} {p q : Int} (hp : p ∈ intsN pairs.length) (hq : q ∈ intsN pairs.length) (hpq : getI pairs q ≤ getI pairs p) (h : canServe (firstF feet pairs p) (othS pairs p) = true) : canServe (firstF feet pairs q) (othS pairs q) = true := by
  have cnt : ∀ r ∈ intsN pairs.length, ∀ f, f ≤ getI pairs r → ((othS pairs r).filter fun z => decide (f ≤ z)).length + 1 = (intsN pairs.length).countP fun j => decide (f ≤ getI pairs j) := fun r hr f hf => by
    rw [cnt_oth, ← List.countP_eq_length_filter, ← (others_snoc hr).countP_eq, List.countP_append]
    simp [hf]
  rw [serve_iff] at h ⊢
  intro f hf
  obtain ⟨f1, f2⟩ := List.mem_filter.mp hf
  have f2 := of_decide_eq_true f2
  have h1 := h f (List.mem_filter.mpr ⟨f1, decide_eq_true (Int.le_trans f2 hpq)⟩)
  have h2 := cnt p hp f (Int.le_trans f2 hpq)
  have h3 := cnt q hq f f2
  have h4 : ((firstF feet pairs q).filter fun o => decide (f ≤ o)).length ≤ ((firstF feet pairs p).filter fun o => decide (f ≤ o)).length := by
    unfold firstF
    rw [List.filter_filter, List.filter_filter, ← List.countP_eq_length_filter, ← List.countP_eq_length_filter]
    refine List.countP_mono_left fun x _ hx => ?_
    simp only [Bool.and_eq_true, decide_eq_true_eq] at hx ⊢
    exact ⟨hx.1, Int.le_trans hx.2 hpq⟩
  omega
theorem asc_form : ∀ {bs : List Bool}, bs.Pairwise (fun x y => x = true → y = true) → bs = List.replicate (bs.count false) false ++ List.replicate (bs.count true) true
  | [], _ => rfl
  | false :: bs, h => by
    have := asc_form (List.pairwise_cons.mp h).2
    rw [List.count_cons_self, List.count_cons_of_ne (by decide), List.replicate_succ, List.cons_append, ← this]
  | true :: bs, h => by
    have h1 : ∀ b ∈ bs, b = true := fun b hb => (List.pairwise_cons.mp h).1 b hb rfl
    have h2 : bs.count false = 0 := List.count_eq_zero.mpr fun q => Bool.noConfusion (h1 _ q)
    have h3 : bs = List.replicate bs.length true := List.eq_replicate_iff.mpr ⟨rfl, h1⟩
    have h4 : bs.count true = bs.length := List.count_eq_length.mpr fun b hb => (h1 b hb).symm
    rw [List.count_cons_self, List.count_cons_of_ne (by decide), h2, h4, List.replicate_succ, ← h3]
    rfl
theorem desc_rev {bs bs' : List Bool} (h1 : bs.Pairwise (fun x y => y = true → x = true)) (hp : bs'.Perm bs) (h2 : bs'.Pairwise (fun x y => x = true → y = true)) : bs'.reverse = bs := by
  have h3 := asc_form h2
  have h4 := asc_form (List.pairwise_reverse.mpr h1)
  have h5 : bs'.count false = bs.reverse.count false := by rw [List.count_reverse]; exact hp.count_eq _
  have h6 : bs'.count true = bs.reverse.count true := by rw [List.count_reverse]; exact hp.count_eq _
  rw [h5, h6, ← h4] at h3
  rw [h3, List.reverse_reverse]
theorem few_most {feet pairs : List Int} {f m : Int} (hf : IsFew feet pairs f) (hm : IsMost feet pairs m) : f ≤ m := by
  obtain ⟨s, e⟩ := hm.1
  have := hf.2 s
  omega
theorem few_0 {feet pairs : List Int} {f : Int} (hf : IsFew feet pairs f) : 0 ≤ f := by
  obtain ⟨s, e⟩ := hf.1
  omega
/-- the numbers around the least and the greatest -/
theorem ends_form {f m lo : Int} {n : Nat} (h0 : 0 ≤ f) (h : f ≤ m) (hlo : lo = if f > 0 then f - 1 else 0) (hn : (n : Int) = m + 2 - lo) : ((List.range n).map fun (k : Nat) => lo + (k : Int)).map (fun i => decide (f ≤ i ∧ i ≤ m)) = List.replicate (if f > 0 then 1 else 0) false ++ List.replicate (m - f + 1).toNat true ++ [false] := by
  refine List.ext_getElem ?_ fun i h1 h2 => ?_
  · rw [List.length_map, List.length_map, List.length_range, List.length_append, List.length_append, List.length_replicate, List.length_replicate, List.length_singleton]
    split at hlo <;> rename_i q
    · rw [if_pos q]; omega
    · rw [if_neg q]; omega
  · rw [List.length_map, List.length_map, List.length_range] at h1
    simp only [List.getElem_map, List.getElem_range, List.getElem_append, List.getElem_replicate, List.length_append, List.length_replicate, List.getElem_singleton]
    by_cases q : f > 0
    · simp only [if_pos q] at hlo ⊢
      split <;> rename_i a
      · split <;> rename_i b
        · exact decide_eq_false (by omega)
        · exact decide_eq_true (by omega)
      · exact decide_eq_false (by omega)
    · simp only [if_neg q] at hlo ⊢
      split <;> rename_i a
      · split <;> rename_i b
        · omega
        · exact decide_eq_true (by omega)
      · exact decide_eq_false (by omega)
def oInS : D2 := fun x y R => oIn false x y R ∨ oInT false x y R
theorem op_inDS {X : Cx} (hu : X.A.units + 65 < cLine) : OpR X (compareOp .In) (fun x y H Q => rInD X.K x y H Q ∨ rInDT X.K false x y H Q) := OpR.or (op_inD hu) (op_inDT hu)
theorem bi_inS {K : PySem.W.Frag} : BinOk K (fun x y H Q => rInD K x y H Q ∨ rInDT K false x y H Q) oInS := fun δ F H x y v u R Q hs hx hy h b => h.elim (fun h => .inl (bi_in δ F H x y v u R Q hs hx hy h b)) (fun h => .inr (bi_inT false δ F H x y v u R Q hs hx hy h b))
theorem inS_of {d : PyData} {others : List Int} {x : Int} {R : PyData → Prop} (h : seqD d = some (others.map .int)) (hR : R (.bool (decide (x ∈ others)))) : oInS (.dat (.int x)) (.dat d) R := by
  cases d with
  | list ds =>
    obtain rfl := Option.some.inj h
    refine .inl ⟨rfl, rfl, _, rfl, rfl, sh_ints _, ?_⟩
    show R (.bool ((others.map PyData.int).any fun z => PyData.eqv z (.int x)))
    rw [inT]
    exact hR
  | tuple ds =>
    obtain rfl := Option.some.inj h
    refine .inr ⟨rfl, rfl, _, rfl, rfl, sh_tints _, ?_⟩
    show R (.bool ((others.map PyData.int).any fun z => PyData.eqv z (.int x)))
    rw [inT]
    exact hR
  | _ => cases h
theorem split_at {order : List Int} {k : Nat} (h : k < order.length) : ∃ a g b, order = a ++ g :: b ∧ a.length = k :=
  ⟨order.take k, order[k], order.drop (k + 1), by rw [← List.drop_eq_getElem_cons h, List.take_append_drop], by rw [List.length_take]; omega⟩
theorem atI_mid (a b : List Int) (g : Int) : atI ((a ++ g :: b).map PyData.int) ((a.length : Nat) : Int) = some (.int g) := by
  have hl : a.length < (a ++ g :: b).length := by rw [List.length_append, List.length_cons]; omega
  have h := atI_get (show (0 : Int) ≤ ((a.length : Nat) : Int) by omega) (show ((a.length : Nat) : Int) < (a ++ g :: b).length by omega)
  rw [h]
  unfold getI
  simp
theorem cut_mid {α : Type} (xs : List α) (i j : Nat) (h : i ≤ j) : cutG xs (some (i : Int)) (some (j : Int)) = (xs.drop i).take (j - i) := by
  unfold cutG
  have e1 : HT.sIx xs.length 0 (some (i : Int)) = min i xs.length := HT.sIx_nat _ _ _
  have e2 : HT.sIx xs.length xs.length (some (j : Int)) = min j xs.length := HT.sIx_nat _ _ _
  rw [e1, e2]
  by_cases q : j ≤ xs.length
  · rw [Nat.min_eq_left (show i ≤ xs.length by omega), Nat.min_eq_left q]
  · rw [Nat.min_eq_right (show xs.length ≤ j by omega)]
    by_cases q2 : i ≤ xs.length
    · rw [Nat.min_eq_left q2, List.take_of_length_le (by rw [List.length_drop]; omega), List.take_of_length_le (by rw [List.length_drop]; omega)]
    · rw [Nat.min_eq_right (by omega), List.drop_length, List.drop_of_length_le (by omega)]
      simp
theorem befO_sub {a b : List Int} {g o : Int} (hnd : (a ++ g :: b).Nodup) (ho : o ∈ g :: b) : a.Sublist (befO (a ++ g :: b) o) := by
  obtain ⟨c, d, e, hc⟩ := split_first ho
  have hoa : o ∉ a := fun q => (List.nodup_append.mp hnd).2.2 o q o ho rfl
  rw [e, ← List.append_assoc, befO_app (by rw [List.mem_append]; exact fun q => q.elim hoa hc)]
  exact List.sublist_append_left a c
end DL
set_option maxHeartbeats 0
namespace DL
open PySem PySem.Spec PyProof.Rows L2
def topS (i : Nat) : Stmt := PySem.Challenge.pw_shoeparty_k23_whole_orders.main.body.getD i (.Pass ⟨0, 0, 0, 0⟩)
structure CA where
structure Bn (K : PySem.W.Frag) (mg : Str → Option Value) (C : CA) : Prop where
  enumerate : mg "enumerate" = none
  int : mg "int" = none
  len : mg "len" = none
  list : mg "list" = none
  max : mg "max" = none
  min : mg "min" = none
  range : mg "range" = none
  set : mg "set" = none
  sorted : mg "sorted" = none
  sum : mg "sum" = none
  tuple : mg "tuple" = none
  MAX_SIZE : ∃ t, mg "MAX_SIZE" = some (.int (1000000) t)
  NO_PAIR : ∃ t, mg "NO_PAIR" = some (.int (-1) t)
section
variable {P : Program} {w : World} {K : PySem.W.Frag} {mg : Str → Option Value} {base : Heap} {C : CA}
abbrev s__law_draws : Stmt := topS 26
abbrev s__law_next : Stmt := topS 27
def spDeckB (K : PySem.W.Frag) : Sp := fun vs H Q _ => ∃ (a : Addr) (ns : List Int), vs = [.ref a] ∧ SqL K H a (ns.map V.int) ∧ ns.length ≤ 63 ∧
  ∀ (H' : Hp) (p q r : Addr), Same H H' → H p = none → H q = none → H r = none → (dkB p q r).at0 H' 0 → Q (.ref p) H'
def nextB : DSpec := fun as n R => ∃ lim : Int, as = [.deck true, .dat (.int lim)] ∧ 1 ≤ lim ∧ lim ≤ 10 ^ 7 ∧ n.n ≤ 10 ^ 6 ∧ ∀ r : Int, 0 ≤ r → r < lim → R (.int r) (n + 1)
theorem scNext : FnScope ["drawn", "many", "cells", "nth", "rests", "spot", "digit", "mixed", "more"] ["drawn", "many"] (defScope s__law_next) := ⟨rfl, rfl, rfl, by decide +kernel, rfl, by decide +kernel, by decide +kernel⟩
theorem ok_next {f : Addr} {fd : FuncData} (F : Fun K "_law_next" "_law_next" s__law_next f fd) (mlen : mg "len" = none) : FnG P w K mg base 1 f fd ["drawn", "many"] (spD K 2 nextB) := by
  refine fng_of F scNext (fun vs H Q E ⟨δ, Fz, as, n, R, hl, w1, _⟩ => by rw [← Paired.length w1]; exact hl) fun cdv A outer s H vs Q hgd hr ⟨δ, Fz, as, n, R, hl, w1, s1, d1, o1, ⟨lim, ea, hl1, hl2, hn, hR⟩, hk⟩ => ?_
  subst ea
  obtain ⟨va, vb, rfl, h1, h2⟩ := vr2 w1
  obtain ⟨a, rfl, b, c, rfl⟩ := h1
  simp only [VR, Rp] at h2
  subst h2
  obtain ⟨⟨cells, rests, hA, hB, hC, hlen, hc1, hc63, hc2, hr2⟩, hob⟩ := d1
  have nba : b ≠ a := fun q => by
    rw [q, hA] at hB
    have q2 := HO.lst.inj (Option.some.inj hB)
    cases cells with
    | nil => cases q2
    | cons x r => simp at q2
  have nca : c ≠ a := fun q => by
    rw [q, hA] at hC
    have q2 := HO.lst.inj (Option.some.inj hC)
    cases rests with
    | nil => cases q2
    | cons x r => simp at q2
  have fin : ∀ (H' : Hp) (cs rs : List Int) (r : Int), H' a = some (.lst [.ref b, .int ((n.n : Int) + 1), .ref c]) → H' b = some (.lst (cs.map V.int)) → H' c = some (.lst (rs.map V.int)) → rs.length = cs.length → cs.length = cells.length → (∀ x ∈ cs, x = x) → (∀ x ∈ rs, 0 ≤ x) → (∀ x o, x ≠ a → x ≠ b → x ≠ c → H x = some o → H' x = some o) → 0 ≤ r → r < lim → Q (.int r) H' := fun H' cs rs r q1 q2 q3 q4 q4' p1 p2 q5 q6 q7 => by
    have out : ∀ x o, x ∉ (dkB a b c).own → H x = some o → H' x = some o := fun x o hx => q5 x o (fun e => hx (by rw [e]; simp [dkB])) (fun e => hx (by rw [e]; simp [dkB])) fun e => hx (by rw [e]; simp [dkB])
    have keepI : ∀ x C dx fs, H x = some (.ins C dx fs) → H' x = some (.ins C dx fs) := fun x C dx fs e => q5 x _ (fun z => by rw [z, hA] at e; cases e) (fun z => by rw [z, hB] at e; cases e) (fun z => by rw [z, hC] at e; cases e) e
    have inn : ∀ x, x ∈ (dkB a b c).own → H' x ≠ none := fun x hx => by
      simp only [dkB, List.mem_cons, List.not_mem_nil, or_false] at hx
      rcases hx with e | e | e <;> rw [e]
      · rw [q1]; nofun
      · rw [q2]; nofun
      · rw [q3]; nofun
    refine hk (.int r) (n + 1) Fz H' _ (hR r q6 q7) ⟨Same.refl _, fun _ _ h => h, fun x o hx e _ => out x o hx e, fun x C dx fs e => ⟨fs, keepI x C dx fs e⟩, fun x hx => ?_⟩ (fun x o e => ?_) ⟨⟨cs, rs, q1, q2, q3, q4, by omega, by omega, p1, p2⟩, fun x ob e => (by
      obtain ⟨h1, dx, vs, h2, h3⟩ := hob.1 x ob e
      exact ⟨h1, dx, vs, keepI _ _ _ _ h2, h3⟩), hob.2⟩ (by simp [Rp])
    · by_cases z : x ∈ (dkB a b c).own
      · exact inn x z
      · obtain ⟨o, e⟩ := some_of_ne hx
        rw [out x o z e]; nofun
    · exact out x o (fun z => by rw [(o1 x z).1] at e; cases e) (s1 _ _ e)
  refine ⟨_, pss_cons (ps_asg (pv 0) (pg_unl rfl (pgs_cons (pg_name (i := 2) scNext.nd rfl (Or.inl rfl)) (pgs_cons (pg_name (i := 3) scNext.nd rfl (Or.inl rfl)) (pgs_cons (pg_name (i := 4) scNext.nd rfl (Or.inl rfl)) pgs_nil)))))
    (pss_cons (ps_set (i := 5) scNext.nd rfl (Or.inl rfl) (pe_op op_mod (pv 3) (pe_callB call_len_seq (by rfl) mlen PySem.boot_len (pa_cons (pv 2) pa_nil))))
    (pss_cons (ps_asg (pe_op op_add (pv 3) pe_int) (pg_sub (pv 0) pe_int set_list))
    (pss_cons (ps_if (pt_cmpR op_gt (pe_ix ix_list (pv 4) (pv 5) (fun _ _ => rfl)) pe_int (nomark _))
        (pss_cons (ps_set (i := 6) scNext.nd rfl (Or.inl rfl) (pe_op op_mod (pe_ix ix_list (pv 4) (pv 5) (fun _ _ => rfl)) (pv 1)))
          (pss_cons (ps_asg (pe_op op_fdivW (pe_ix ix_list (pv 4) (pv 5) (fun _ _ => rfl)) (pv 1)) (pg_sub (pv 4) (pv 5) set_list)) (pss_one (ps_ret (pv 6))))) pss_nil)
    (pss_cons (ps_set (i := 7) scNext.nd rfl (Or.inl rfl) (pe_op op_mod (pe_op op_pow (pe_op op_add (pe_op op_add (pe_op op_mod (pe_ix ix_list (pv 2) (pv 5) (fun _ _ => rfl)) pe_int) (pe_op op_mul pe_int (pv 3))) pe_int) pe_int) pe_int))
    (pss_cons (ps_set (i := 8) scNext.nd rfl (Or.inl rfl) (pe_op op_mod (pe_op op_pow (pe_op op_add (pe_op op_add (pv 7) (pe_op op_mul (pe_op op_mul pe_int (pv 3)) (pv 3))) pe_int) pe_int) pe_int))
    (pss_one (ps_ret (pe_op op_mod (pe_op op_mod (pe_op op_add (pe_op op_mul (pv 8) pe_int) (pv 7)) pe_int) (pv 1))))))))), ?_⟩
  have hpos : (0 : Int) < lim := by omega
  have ends : ∀ z : Int, 0 ≤ z % lim ∧ z % lim < lim := fun z => ⟨Int.emod_nonneg _ (by omega), Int.emod_lt_of_pos _ hpos⟩
  refine ⟨_, rfl, a, _, rfl, SqL.of hA, rfl, .ref b, _, rfl, .int n.n, _, rfl, .ref c, _, rfl, rfl, ?_⟩
  refine ⟨_, rfl, _, rfl, b, _, rfl, .inl (SqL.of hB), _, _, rfl, rfl, (by rw [List.length_map]; omega), ?_⟩
  rw [List.length_map]
  refine ⟨_, rfl, n.n, 1, rfl, rfl, _, rfl, a, _, 1, 1, rfl, rfl, hA, rfl, ?_⟩
  have hA1 : upd H a (.lst ([V.ref b, V.int n.n, V.ref c].set 1 (.int ((n.n : Int) + 1)))) a = some (.lst [.ref b, .int ((n.n : Int) + 1), .ref c]) := upd_same
  have hB1 : upd H a (.lst ([V.ref b, V.int n.n, V.ref c].set 1 (.int ((n.n : Int) + 1)))) b = some (.lst (cells.map V.int)) := by rw [upd_ne nba]; exact hB
  have hC1 : upd H a (.lst ([V.ref b, V.int n.n, V.ref c].set 1 (.int ((n.n : Int) + 1)))) c = some (.lst (rests.map V.int)) := by rw [upd_ne nca]; exact hC
  have hO1 : ∀ x, x ≠ a → upd H a (.lst ([V.ref b, V.int n.n, V.ref c].set 1 (.int ((n.n : Int) + 1)))) x = H x := fun x hx => upd_ne hx
  generalize upd H a (.lst ([V.ref b, V.int n.n, V.ref c].set 1 (.int ((n.n : Int) + 1)))) = H1 at hA1 hB1 hC1 hO1
  have m0 : (0 : Int) ≤ (n.n : Int) % (cells.length : Int) := Int.emod_nonneg _ (by omega)
  have m1 : (n.n : Int) % (cells.length : Int) < (cells.length : Int) := Int.emod_lt_of_pos _ (by omega)
  obtain ⟨j, hj⟩ : ∃ j : Nat, (n.n : Int) % (cells.length : Int) = (j : Int) := ⟨((n.n : Int) % (cells.length : Int)).toNat, by omega⟩
  have hjl : j < cells.length := by omega
  obtain ⟨c0, hc0⟩ : ∃ x, cells[j]? = some x := ⟨cells[j], by simp [hjl]⟩
  obtain ⟨r0, hr0⟩ : ∃ x, rests[j]? = some x := ⟨rests[j]'(by omega), by simp [show j < rests.length by omega]⟩
  have pr0 : 0 ≤ r0 := hr2 r0 (List.mem_of_getElem? hr0)
  have atC : atI (rests.map V.int) ((n.n : Int) % (cells.length : Int)) = some (.int r0) := by
    rw [hj]
    exact atI_nat (by rw [List.getElem?_map, hr0]; rfl)
  have atB : atI (cells.map V.int) ((n.n : Int) % (cells.length : Int)) = some (.int c0) := by
    rw [hj]
    exact atI_nat (by rw [List.getElem?_map, hc0]; rfl)
  refine ⟨_, rfl, _, rfl, c, _, _, .int r0, rfl, rfl, SqL.of hC1, atC, r0, 0, rfl, rfl, _, rfl, ?_⟩
  refine ite2 (fun _ => ?_) fun _ => ?_
  · refine ⟨_, rfl, _, rfl, c, _, _, .int r0, rfl, rfl, SqL.of hC1, atC, _, rfl, r0, lim, rfl, rfl, hpos, ?_⟩
    refine ⟨_, rfl, _, rfl, c, _, _, .int r0, rfl, rfl, SqL.of hC1, atC, _, rfl, r0, lim, rfl, rfl, wide_div (b := 64) (by omega) (by omega) (by decide) (by decide), _, rfl, _, rfl, c, _, _, j, rfl, rfl, hC1, ?_, ?_⟩
    · show ixN _ ((n.n : Int) % (cells.length : Int)) = some j
      rw [List.length_map, hj]
      unfold ixN
      rw [if_pos (by omega), if_pos (by omega)]
      rfl
    have hrs : ∀ x ∈ rests.set j (r0 / lim), 0 ≤ x := fun x hx => by
      rcases List.mem_or_eq_of_mem_set hx with q | q
      · exact hr2 x q
      · rw [q]; exact Int.ediv_nonneg pr0 (by omega)
    have eset : (rests.map V.int).set j (V.int (r0 / lim)) = (rests.set j (r0 / lim)).map V.int := by rw [List.map_set]
    refine ⟨_, rfl, ?_⟩
    by_cases z : b = c
    · refine fin _ (rests.set j (r0 / lim)) (rests.set j (r0 / lim)) _ (by rw [upd_ne (Ne.symm nca)]; exact hA1) (by rw [z, upd_same, eset]) (by rw [upd_same, eset]) rfl (by rw [List.length_set]; exact hlen) (fun _ _ => rfl) hrs (fun x o p1 p2 p3 e => by rw [upd_ne p3, hO1 x p1]; exact e) (ends _).1 (ends _).2
    · refine fin _ cells (rests.set j (r0 / lim)) _ (by rw [upd_ne (Ne.symm nca)]; exact hA1) (by rw [upd_ne z]; exact hB1) (by rw [upd_same, eset]) (by rw [List.length_set]; exact hlen) rfl hc2 hrs (fun x o p1 p2 p3 e => by rw [upd_ne p3, hO1 x p1]; exact e) (ends _).1 (ends _).2
  · have e1 : 0 ≤ c0 % 2147483647 := Int.emod_nonneg _ (by decide)
    have e2 : c0 % 2147483647 < 2147483647 := Int.emod_lt_of_pos _ (by decide)
    refine ⟨_, rfl, _, rfl, b, _, _, .int c0, rfl, rfl, SqL.of hB1, atB, c0, 2147483647, rfl, rfl, (by decide : (0 : Int) < 2147483647), _, rfl, 69621, n.n, rfl, rfl, .inl ⟨by decide, by decide⟩, _, _, rfl, rfl, _, 30269, rfl, rfl, _, 3, rfl, rfl, ⟨by decide, by decide, by omega⟩, _, 2147483629, rfl, rfl, (by decide : (0 : Int) < 2147483629), ?_⟩
    generalize hm : (c0 % 2147483647 + 69621 * (n.n : Int) + 30269) ^ (3 : Int).toNat % 2147483629 = mx
    have e3 : 0 ≤ mx := by rw [← hm]; exact Int.emod_nonneg _ (by decide)
    have e4 : mx < 2147483629 := by rw [← hm]; exact Int.emod_lt_of_pos _ (by decide)
    have e5 : 6007 * (n.n : Int) * (n.n : Int) ≤ 6007 * 10 ^ 6 * 10 ^ 6 := Int.mul_le_mul (by omega) (by omega) (by omega) (by decide)
    have e6 : 0 ≤ 6007 * (n.n : Int) * (n.n : Int) := Int.mul_nonneg (by omega) (by omega)
    refine ⟨_, rfl, _, rfl, 6007, n.n, rfl, rfl, .inl ⟨by decide, by decide⟩, _, rfl, _, n.n, rfl, rfl, .inr ⟨by omega, by omega⟩, _, _, rfl, rfl, _, 17, rfl, rfl, _, 3, rfl, rfl, ⟨by decide, by decide, by omega⟩, _, 2147483587, rfl, rfl, (by decide : (0 : Int) < 2147483587), ?_⟩
    refine ⟨_, rfl, _, 2147483423, rfl, rfl, .inr ⟨by decide, by decide⟩, _, rfl, _, _, rfl, rfl, _, 4611686018427387847, rfl, rfl, (by decide : (0 : Int) < 4611686018427387847), _, rfl, _, lim, rfl, rfl, hpos, ?_⟩
    exact fin H1 cells rests _ hA1 hB1 hC1 hlen rfl hc2 hr2 (fun x o p1 p2 p3 e => by rw [hO1 x p1]; exact e) (ends _).1 (ends _).2
theorem scDraws : FnScope ["script", "cells", "cell"] ["script"] (defScope s__law_draws) := ⟨rfl, rfl, rfl, by decide +kernel, rfl, by decide +kernel, by decide +kernel⟩
theorem ok_draws {f : Addr} {fd : FuncData} (F : Fun K "_law_draws" "_law_draws" s__law_draws f fd) (mlist : mg "list" = none) (mint : mg "int" = none) (mlen : mg "len" = none) : FnG P w K mg base 1 f fd ["script"] (spDeckB K) := by
  refine fng_of F scDraws (fun vs H Q E ⟨a, ns, e, _⟩ => by rw [e]; rfl) fun cdv A outer s H vs Q hgd hr ⟨a, ns, e, hS, hlen, k⟩ => ?_
  subst e
  have hu : (A.deeper (envOfC "_law_draws" (defScope s__law_draws) s.heap.objs.size f cdv)).units + 64 < cLine := hr.units
  refine ⟨_, pss_cons (ps_set (i := 1) scDraws.nd rfl (Or.inl rfl) (pe_op op_cat (pe_callTy call_list_of (by rfl) mlist PyProof.Rows.boot_list (pa_cons (pe_slice sl_list (pv 0) po_none (po_some pe_int)) pa_nil))
      (pe_op op_rep (pe_lst (pa_cons pe_int pa_nil)) (pe_callTy call_int1 (by rfl) mint PyProof.Rows.boot_int (pa_cons (pe_cmpR op_eq (pe_callB call_len_seq (by rfl) mlen PySem.boot_len (pa_cons (pv 0) pa_nil)) pe_int (nomark _)) pa_nil)))))
    (pss_one (ps_ret (pe_lst (pa_cons (pv 1) (pa_cons pe_int (pa_cons (pe_lc (own := [("cell", 2)]) (g := gName 2) (tt := tYes) rfl scDraws.nd (pi_list (pv 1))
      (blkOk_by (N := ["script", "cells", "cell"]) (sc := defScope s__law_draws) (by decide +kernel)) (fun _ _ _ _ _ => pg_name (i := 2) scDraws.nd rfl (Or.inl rfl)) (fun _ _ _ _ _ => pts_nil)
      (fun _ _ _ _ _ => pe_op op_mul (pv 2) (pe_callTy call_int1 (by rfl) mint PyProof.Rows.boot_int (pa_cons (pe_cmpR op_ge (pv 2) (pe_op op_pow pe_int pe_int) (nomark _)) pa_nil)))) pa_nil)))))), ?_⟩
  refine ⟨_, rfl, 63, rfl, a, _, rfl, hS, fun l hl => ?_⟩
  have cut : cutV (ns.map V.int) none (some 63) = ns.map V.int := by
    unfold cutV
    show ((ns.map V.int).drop 0).take (min (63 : Int).toNat (ns.map V.int).length - 0) = ns.map V.int
    rw [List.drop_zero, List.length_map, Nat.sub_zero]
    exact List.take_of_length_le (by rw [List.length_map]; show ns.length ≤ min 63 ns.length; omega)
  rw [cut]
  have s1 : Same H (upd H l (.lst (ns.map V.int))) := fun b o e => by rw [upd_ne (ne_of_none e hl)]; exact e
  refine ⟨l, _, rfl, .inl (SqL.of upd_same), fun D hD => ?_⟩
  have hD0 : H D = none := s1.free hD
  obtain ⟨H', e⟩ : ∃ H', H' = upd (upd H l (.lst (ns.map V.int))) D (.lst (ns.map V.int)) := ⟨_, rfl⟩
  rw [← e]
  obtain ⟨cs, ecs⟩ : ∃ cs, cs = ns := ⟨_, rfl⟩
  have hc1 : cs.length = ns.length := by rw [ecs]
  have sH : Same H H' := fun b o e2 => by
    rw [e, upd_ne (ne_of_none (s1 b o e2) hD)]
    exact s1 b o e2
  have hHD : H' D = some (.lst (cs.map V.int)) := by rw [e, ecs]; exact upd_same
  clear e ecs
  refine ⟨by show 1 ≤ sizeLine; decide, fun q hq => ?_⟩
  have s2 : Same H' (upd H' q (.lst [.int 0])) := fun b o e => by rw [upd_ne (ne_of_none e hq)]; exact e
  refine ⟨_, rfl, a, _, rfl, .inl ((sH.trans s2).seq hS), rfl, .inr ⟨_, rfl, ?_⟩⟩
  rw [List.length_map]
  obtain ⟨kk, hkk, hk1⟩ : ∃ kk : Nat, (if decide (V.int ((ns.length : Nat) : Int) = V.int 0) = true then (1 : Int) else 0) = (kk : Int) ∧ (kk ≤ 1 ∧ 1 ≤ ns.length + kk) := by
    by_cases h : ns.length = 0
    · exact ⟨1, by rw [h]; rfl, Nat.le_refl _, by omega⟩
    · refine ⟨0, ?_, by omega, by omega⟩
      rw [if_neg]
      · rfl
      · intro h2
        have := of_decide_eq_true h2
        injection this with h3
        omega
  rw [hkk]
  refine ⟨q, (kk : Int), [.int 0], rfl, rfl, upd_same, by omega, by omega, by show 1 * (kk : Int).toNat ≤ sizeLine; exact line1000 (by omega), fun r hr0 => ?_⟩
  have hrep : (List.replicate (kk : Int).toNat [V.int 0]).flatten = (List.replicate kk (0 : Int)).map V.int := by
    rw [Int.toNat_natCast]
    obtain rfl | rfl : kk = 0 ∨ kk = 1 := by omega
    · rfl
    · rfl
  rw [hrep]
  have s3 : Same (upd H' q (.lst [.int 0])) (upd (upd H' q (.lst [.int 0])) r (.lst ((List.replicate kk (0 : Int)).map V.int))) := fun b o e => by rw [upd_ne (ne_of_none e hr0)]; exact e
  refine ⟨D, r, _, _, rfl, rfl, s3 _ _ (s2 _ _ hHD), upd_same, line1000 (by simp only [List.length_map, List.length_replicate]; omega), fun t ht => ?_⟩
  rw [← List.map_append]
  have hcl : (cs ++ List.replicate kk (0 : Int)).length = ns.length + kk := by rw [List.length_append, List.length_replicate, hc1]
  have hcl2 : ns.length + kk ≤ 63 := by
    by_cases h : ns.length = 0
    · omega
    · have : kk = 0 := by
        by_cases h0 : kk = 0
        · exact h0
        · exfalso
          have : (if decide (V.int ((ns.length : Nat) : Int) = V.int 0) = true then (1 : Int) else 0) = 0 := if_neg fun h2 => by
            have := of_decide_eq_true h2
            injection this with h3
            omega
          omega
      omega
  generalize cs ++ List.replicate kk (0 : Int) = cells at hcl ⊢
  have s4 := fun b o (e : (upd (upd H' q (.lst [.int 0])) r (.lst ((List.replicate kk (0 : Int)).map V.int))) b = some o) => show upd (upd (upd H' q (.lst [.int 0])) r (.lst ((List.replicate kk (0 : Int)).map V.int))) t (.lst (cells.map V.int)) b = some o by rw [upd_ne (ne_of_none e ht)]; exact e
  have sA : Same H (upd (upd (upd H' q (.lst [.int 0])) r (.lst ((List.replicate kk (0 : Int)).map V.int))) t (.lst (cells.map V.int))) := fun b o e => s4 _ _ (s3 _ _ (s2 _ _ (sH _ _ e)))
  have ht0 : H t = none := (sH.trans (s2.trans s3)).free ht
  have hT : upd (upd (upd H' q (.lst [.int 0])) r (.lst ((List.replicate kk (0 : Int)).map V.int))) t (.lst (cells.map V.int)) t = some (.lst (cells.map V.int)) := upd_same
  generalize upd (upd (upd H' q (.lst [.int 0])) r (.lst ((List.replicate kk (0 : Int)).map V.int))) t (.lst (cells.map V.int)) = H4 at sA hT ⊢
  refine ⟨_, rfl, _, rfl, t, rfl, ⟨_, SqL.of hT⟩, fun D2 hD2 => ?_⟩
  have ntD : t ≠ D2 := ne_of_none hT hD2
  refine lc_list (K := K) (a := t) (xs := cells.map V.int) (fun i H' => ∃ cs : List Int, cs.length = i ∧ (∀ c ∈ cs, 0 ≤ c) ∧ H' = upd H4 D2 (.lst (cs.map V.int)))
    ⟨[], rfl, fun _ h => (by cases h), rfl⟩ (fun i H' _ ⟨cs, _, _, e⟩ => by rw [e]; exact SqL.of (by rw [upd_ne ntD]; exact hT)) (fun i x H' hx ⟨cs, hc1, hc2, e⟩ => ?_) (fun H' ⟨cs, hc1, hc2, e⟩ => ?_)
  · subst e
    rw [List.getElem?_map] at hx
    obtain ⟨z, hz, rfl⟩ := Option.map_eq_some_iff.mp hx
    have hi : i < cells.length := (List.getElem?_eq_some_iff.mp hz).1
    refine ⟨rfl, V.int z, rfl, V.int z, rfl, 10, 18, rfl, rfl, ⟨by decide, by decide, by decide⟩, z, _, rfl, rfl, .inr ⟨_, rfl, ?_⟩⟩
    have hb : -(2 ^ 64) < (if decide ((10 : Int) ^ (18 : Int).toNat ≤ z) = true then (1 : Int) else 0) ∧ (if decide ((10 : Int) ^ (18 : Int).toNat ≤ z) = true then (1 : Int) else 0) < 2 ^ 64 ∧ 0 ≤ z * (if decide ((10 : Int) ^ (18 : Int).toNat ≤ z) = true then (1 : Int) else 0) := by
      have e18 : (10 : Int) ^ (18 : Int).toNat = 1000000000000000000 := by decide
      split
      · rename_i h
        have := of_decide_eq_true h
        rw [e18] at this
        exact ⟨by decide, by decide, by omega⟩
      · exact ⟨by decide, by decide, by omega⟩
    generalize (if decide ((10 : Int) ^ (18 : Int).toNat ≤ z) = true then (1 : Int) else 0) = bb at hb
    refine ⟨z, bb, rfl, rfl, .inr ⟨hb.1, hb.2.1⟩, cs.map V.int, upd_same, small1000 (by rw [List.length_map]; omega), cs ++ [z * bb], by rw [List.length_append]; show cs.length + 1 = i + 1; omega, fun c hc => ?_, ?_⟩
    · rcases List.mem_append.mp hc with q | q
      · exact hc2 c q
      · rw [List.mem_singleton.mp q]; exact hb.2.2
    · rw [upd_upd, List.map_append] <;> rfl
  · subst e
    rw [List.length_map] at hc1
    refine ⟨by show 3 ≤ sizeLine; decide, fun p hp => ?_⟩
    have npD : D2 ≠ p := fun q => by rw [← q, upd_same] at hp; cases hp
    have hp4 : H4 p = none := by rw [upd_ne (Ne.symm npD)] at hp; exact hp
    have npt : t ≠ p := ne_of_none hT hp4
    refine k _ p t D2 (fun b o e => ?_) (sA.free hp4) ht0 (sA.free hD2) ⟨cells, cs, upd_same, by rw [upd_ne npt, upd_ne ntD]; exact hT, by rw [upd_ne npD]; exact upd_same, hc1, by omega, by omega, fun _ _ => rfl, hc2⟩
    have eb := sA b o e
    rw [upd_ne (ne_of_none eb hp4), upd_ne (ne_of_none eb hD2)]
    exact eb
def c__law_next : DSpec := nextB
def c__law_hall : DSpec := fun as n R => ∃ g m : Int, as = [.deck true, .dat (.int g), .dat (.int m)] ∧ 1 ≤ g ∧ g ≤ 40 ∧ 0 ≤ m ∧ m ≤ 40 ∧ n.n ≤ 400000 ∧ ∀ (feet pairs : List Int) n', HallOk feet pairs → (feet.length : Int) ≤ g → (pairs.length : Int) ≤ m → n' ≤ n + 1000 → R (hallD feet pairs) n'
def c__law_order : DSpec := fun as n R => ∃ m : Nat, as = [.deck true, .dat (.int (m : Nat))] ∧ m ≤ 40 ∧ n.n ≤ 400000 ∧ ∀ (os : List Int) n', os.Perm (intsN m) → n' ≤ n + 100 → R (clnD os) n'
def c__fitting : DSpec := fun as n R => ∃ feet pairs left : List Int, ∃ g : Int, as = [.dat (hallD feet pairs), .dat (.int g), .vw (left.map .int)] ∧ 0 ≤ g ∧ g < feet.length ∧ InR pairs.length left ∧ left.length ≤ 100 ∧
  R (.list ((left.filter fun j => decide (getI feet g ≤ getI pairs j)).map .int)) n
def c_run_by_liking : DSpec := fun as n R => ∃ feet pairs order liking : List Int, ∃ od : PyData, as = [.dat (hallD feet pairs), .dat od, .dat (.list (liking.map .int))] ∧ seqD od = some (order.map .int) ∧ InR feet.length order ∧ InR pairs.length liking ∧ order.length ≤ 100 ∧ liking.length ≤ 100 ∧
  R (.tuple ((order.foldl (stepF feet pairs) (liking, [])).2.map prD)) n
def c_order_by_feet : DSpec := fun as n R => ∃ feet pairs : List Int, as = [.dat (hallD feet pairs)] ∧ feet.length ≤ 40 ∧ R (.tuple ((obf feet).map .int)) n
def c__by_size : DSpec := fun as n R => ∃ feet pairs ps : List Int, ∃ d : PyData, as = [.dat (hallD feet pairs), .dat d] ∧ seqD d = some (ps.map .int) ∧ InR pairs.length ps ∧ ps.length ≤ 100 ∧ R (.list ((bySz pairs ps).map .int)) n
def c__run_against : DSpec := fun as n R => ∃ feet pairs others : List Int, ∃ g : Int, ∃ od : PyData, as = [.dat (hallD feet pairs), .dat od, .dat (.int g)] ∧ seqD od = some (others.map .int) ∧ HallOk feet pairs ∧ 0 ≤ g ∧ g < feet.length ∧ R (runD (againstR feet pairs others g)) n
def c_can_miss : DSpec := fun as n R => ∃ feet pairs order : List Int, ∃ g : Int, as = [.dat (hallD feet pairs), .dat (clnD order), .dat (.int g)] ∧ HallOk feet pairs ∧ order.Perm (intsN feet.length) ∧ 0 ≤ g ∧ g < feet.length ∧ R (.bool (canTake ((befO order g).map (getI feet)) (fitS feet pairs g))) n
def c_small_run : DSpec := fun as n R => ∃ feet pairs order : List Int, as = [.dat (hallD feet pairs), .dat (.tuple (order.map .int))] ∧ HallOk feet pairs ∧ InR feet.length order ∧ order.length ≤ 100 ∧ R (.tuple ((ruled (getI pairs) feet pairs order).map prD)) n
def c_large_run : DSpec := fun as n R => ∃ feet pairs order : List Int, as = [.dat (hallD feet pairs), .dat (.tuple (order.map .int))] ∧ HallOk feet pairs ∧ InR feet.length order ∧ order.length ≤ 100 ∧ R (.tuple ((ruled (fun j => -getI pairs j) feet pairs order).map prD)) n
def c__law_moved_right : DSpec := fun as n R => ∃ feet pairs order : List Int, ∃ k : Nat, as = [.dat (hallD feet pairs), .dat (clnD order), .dat (.int (k : Nat))] ∧ HallOk feet pairs ∧ order.Perm (intsN feet.length) ∧ k < feet.length ∧ R (.bool true) n
def c_counts_at : DSpec := fun as n R => ∃ feet pairs : List Int, ∃ z : Int, as = [.dat (hallD feet pairs), .dat (.int z)] ∧ feet.length ≤ 100 ∧ pairs.length ≤ 100 ∧ R (.tuple [.int (cF feet z : Nat), .int (cP pairs z : Nat)]) n
def c__foot_sizes : DSpec := fun as n R => ∃ feet pairs : List Int, as = [.dat (hallD feet pairs)] ∧ feet.length ≤ 40 ∧ ∀ ms : List Int, ms = sd feet → (∀ k, k ∈ ms ↔ k ∈ feet) → ms.length ≤ 40 → R (.list (ms.map .int)) n
def c__deciding_sizes : DSpec := fun as n R => ∃ feet pairs : List Int, as = [.dat (hallD feet pairs)] ∧ feet.length ≤ 40 ∧ ∀ ms : List Int, ms = sd feet ++ [1000001] → (∀ k, k ∈ ms ↔ (k ∈ feet ∨ k = 1000001)) → ms.length ≤ 41 → R (.list (ms.map .int)) n
def c_fewest_served : DSpec := fun as n R => ∃ feet pairs : List Int, as = [.dat (hallD feet pairs)] ∧ HallOk feet pairs ∧ ∀ m : Int, IsFew feet pairs m → R (.int m) n
def c_most_served : DSpec := fun as n R => ∃ feet pairs : List Int, as = [.dat (hallD feet pairs)] ∧ HallOk feet pairs ∧ ∀ m : Int, IsMost feet pairs m → R (.int m) n
def c_left_by : DSpec := fun as n R => ∃ feet pairs : List Int, ∃ run : List (Int × Int), as = [.dat (hallD feet pairs), .dat (.tuple (run.map prD))] ∧ run.length ≤ 100 ∧ pairs.length ≤ 40 ∧ R (.tuple ((leftL pairs.length run).map .int)) n
def c__large_then_small : DSpec := fun as n R => ∃ feet pairs : List Int, ∃ k : Nat, as = [.dat (hallD feet pairs), .dat (.int (k : Nat))] ∧ HallOk feet pairs ∧ k ≤ feet.length ∧ R (runD (ltsR feet pairs k)) n
def c_served_by : DSpec := fun as n R => ∃ feet pairs : List Int, ∃ run : List (Int × Int), as = [.dat (hallD feet pairs), .dat (.tuple (run.map prD))] ∧ RunOk feet.length pairs.length run ∧ feet.length ≤ 40 ∧ R (.tuple ((shodL feet.length run).map .int)) n
def c_run_with : DSpec := fun as n R => ∃ feet pairs : List Int, ∃ num : Int, as = [.dat (hallD feet pairs), .dat (.int num)] ∧ HallOk feet pairs ∧ R (withD feet pairs num) n
def c__law_ends_right : DSpec := fun as n R => ∃ feet pairs : List Int, as = [.dat (hallD feet pairs)] ∧ HallOk feet pairs ∧ R (.bool true) n
def c_run_leaving : DSpec := fun as n R => ∃ feet pairs : List Int, ∃ p : Int, as = [.dat (hallD feet pairs), .dat (.int p)] ∧ HallOk feet pairs ∧ 0 ≤ p ∧ p < pairs.length ∧ R (leavingD feet pairs p) n
def c_run_without : DSpec := fun as n R => ∃ feet pairs : List Int, ∃ g : Int, as = [.dat (hallD feet pairs), .dat (.int g)] ∧ HallOk feet pairs ∧ 0 ≤ g ∧ g < feet.length ∧ R (withoutD feet pairs g) n
abbrev s__law_hall : Stmt := topS 28
abbrev N__law_hall : List Str := ["drawn", "guests", "most", "span", "feet", "k"]
theorem sc__law_hall : FnScope N__law_hall ["drawn", "guests", "most"] (defScope s__law_hall) := ⟨rfl, rfl, rfl, by decide +kernel, rfl, by decide +kernel, by decide +kernel⟩
theorem fn__law_hall {f : Addr} {fd : FuncData} (F : Fun K "_law_hall" "_law_hall" s__law_hall f fd) (B : Bn K mg C) (H__law_next : Has P w K mg base "_law_next" 1 ["drawn", "many"] c__law_next) : FnG P w K mg base 2 f fd ["drawn", "guests", "most"] (spD K 3 c__law_hall) := by
  refine fnd (k := 1) c__law_hall F sc__law_hall fun cdv A outer s H hgd0 hr Y => ?_
  have hu := hr.units
  have hu1 : (A.deeper (envOfC "_law_hall" (defScope s__law_hall) s.heap.objs.size f cdv)).units + 65 < cLine := by have := hr.un; omega
  have hu0 : (A.deeper (envOfC "_law_hall" (defScope s__law_hall) s.heap.objs.size f cdv)).units + 1 < cLine := by have := hr.un; omega
  have hgd : (A.deeper (envOfC "_law_hall" (defScope s__law_hall) s.heap.objs.size f cdv)).guards = some [] := hgd0
  refine ⟨_, (dss_cons (ds_set (i := 3) sc__law_hall.nd rfl (Or.inr rfl) (xe_d (we_ix (we_ofM (me_lst (wa_cons we_int (wa_cons we_int (wa_cons (we_bin op_pow bi_I we_int we_int) wa_nil))))) (we_has H__law_next hgd (hr.mono (by decide)) (by rfl) (wa_cons (we_var 0) (wa_cons we_int wa_nil))) (fun _ _ => rfl)))) (dss_cons (ds_setLcV (i := 4) (u := xD (dOfM _)) (hyl := rfl) (hy := rfl) (hsw := sw_true rfl rfl rfl (by decide +kernel)) (hu := lc_dat) (own := [("k", 5)]) (hc := rfl) (hN := sc__law_hall.nd) (hi := (div_of (di_range1 (by rfl) B.range (wa_cons (we_bin or_addA bi_add we_int (we_has H__law_next hgd (hr.mono (by decide)) (by rfl) (wa_cons (we_var 0) (wa_cons (we_var 1) wa_nil)))) wa_nil)))) (ok := (blkOk_by (N := N__law_hall) (sc := defScope s__law_hall) (by decide +kernel))) (hk := gok_name) (hg := fun _ _ _ _ _ => (pg_name (i := 5) sc__law_hall.nd rfl (Or.inl rfl))) (ht := fun _ _ _ _ _ => wts_nil) (he := fun _ _ _ _ _ => (we_bin or_addA bi_add we_int (we_has H__law_next hgd (hr.mono (by decide)) (by rfl) (wa_cons (we_var 0) (wa_cons (we_var 3) wa_nil))))) (hv := by decide)) (dss_one (ds_ret (we_tup (wa_cons (we_callTy call_tuple_of ck_tuple (by rfl) B.tuple PyProof.Rows.boot_tuple (wa_cons (we_var 4) wa_nil)) (wa_cons (we_callTy call_tuple_of ck_tuple (by rfl) B.tuple PyProof.Rows.boot_tuple (wa_cons (we_ofM (me_compV (own := [("k", 5)]) rfl sc__law_hall.nd (div_of (di_range1 (by rfl) B.range (wa_cons (we_has H__law_next hgd (hr.mono (by decide)) (by rfl) (wa_cons (we_var 0) (wa_cons (we_bin or_addA bi_add (we_var 2) we_int) wa_nil))) wa_nil))) (blkOk_by (N := N__law_hall) (sc := defScope s__law_hall) (by decide +kernel)) gok_name (fun _ _ _ _ _ => (pg_name (i := 5) sc__law_hall.nd rfl (Or.inl rfl))) (fun _ _ _ _ _ => wts_nil) (fun _ _ _ _ _ => (we_bin or_addA bi_add we_int (we_has H__law_next hgd (hr.mono (by decide)) (by rfl) (wa_cons (we_var 0) (wa_cons (we_var 3) wa_nil))))) (by decide))) wa_nil)) wa_nil))))))), fun as n R hl hc => ?_⟩
  obtain ⟨g, m, rfl, g1, g2, p0, p1, hn, hR⟩ := hc
  refine ⟨⟨by decide, by decide, by decide⟩, by show 3 ≤ sizeLine; decide, _, rfl, rfl, 3, rfl, by decide, by decide, by omega, fun r r0 r1 => ?_⟩
  obtain ⟨w, hw, hw2⟩ := pick3 (a := .int 2) (b := .int 6) (c := .int (10 ^ (6 : Int).toNat)) (r := r) r0 r1
  obtain ⟨wd, rfl, w0, w1⟩ : ∃ wd : Int, w = .int wd ∧ 1 ≤ wd ∧ wd ≤ 1000000 := by
    rcases hw2 with rfl | rfl | rfl
    · exact ⟨_, rfl, by decide, by decide⟩
    · exact ⟨_, rfl, by decide, by decide⟩
    · exact ⟨_, rfl, by decide, by decide⟩
  refine ⟨r, _, rfl, hw, ?_⟩
  refine ⟨_, rfl, _, rfl, rfl, g, rfl, by omega, by omega, by show n.n + 1 ≤ _; omega, fun q q0 q1 => ?_⟩
  refine ⟨1 + q, rfl, by omega, by omega, ?_⟩
  have hrl : (rngD 0 (1 + q).toNat).length = (1 + q).toNat := by rw [rngD_length]
  refine compR_dr (m := (1 + q).toNat) _ (fun d => ∃ z : Int, d = .int z ∧ 1 ≤ z ∧ z ≤ 10 ^ 6) 1 hrl (small1000 (by omega)) (fun k x hx hk acc K ha hK => ?_) fun ys hy hyi => ?_
  · refine ⟨_, rfl, _, rfl, rfl, wd, rfl, w0, by omega, by show n.n + 1 + 1 + k * 1 ≤ _; omega, fun u u0 u1 => ⟨small1000 (by omega), ?_⟩⟩
    have := hK (.int (1 + u)) ⟨_, rfl, by omega, by omega⟩
    rw [Nat.mul_one] at this ⊢
    exact this
  · obtain ⟨F, rfl, hF⟩ := ints_of hyi
    rw [List.length_map] at hy
    refine ⟨_, rfl, _, _, rfl, rfl, ?_⟩
    refine ⟨_, rfl, _, rfl, rfl, m + 1, rfl, by omega, by omega, by show n.n + 1 + 1 + (1 + q).toNat * 1 ≤ _; omega, fun q2 q20 q21 => ?_⟩
    refine ⟨q2, rfl, by omega, by omega, ?_⟩
    have hrl2 : (rngD 0 q2.toNat).length = q2.toNat := by rw [rngD_length]
    refine compR_dr (m := q2.toNat) _ (fun d => ∃ z : Int, d = .int z ∧ 1 ≤ z ∧ z ≤ 10 ^ 6) 1 hrl2 (small1000 (by omega)) (fun k x hx hk acc K ha hK => ?_) fun ys hy2 hyi2 => ?_
    · refine ⟨_, rfl, _, rfl, rfl, wd, rfl, w0, by omega, by show n.n + 1 + 1 + (1 + q).toNat * 1 + 1 + k * 1 ≤ _; omega, fun u u0 u1 => ⟨small1000 (by omega), ?_⟩⟩
      have := hK (.int (1 + u)) ⟨_, rfl, by omega, by omega⟩
      rw [Nat.mul_one] at this ⊢
      exact this
    · obtain ⟨P, rfl, hP⟩ := ints_of hyi2
      rw [List.length_map] at hy2
      refine ⟨_, _, rfl, rfl, by show 2 ≤ sizeLine; decide, ?_⟩
      exact hR F P _ ⟨by show 1 ≤ F.length; omega, by show F.length ≤ 40; omega, by show P.length ≤ 40; omega, hF, hP⟩ (by omega) (by omega) ⟨by show n.n + 1 + 1 + (1 + q).toNat * 1 + 1 + q2.toNat * 1 ≤ n.n + 1000; omega, rfl, rfl⟩
abbrev s__law_order : Stmt := topS 29
abbrev N__law_order : List Str := ["drawn", "many", "rest", "found"]
theorem sc__law_order : FnScope N__law_order ["drawn", "many"] (defScope s__law_order) := ⟨rfl, rfl, rfl, by decide +kernel, rfl, by decide +kernel, by decide +kernel⟩
theorem fn__law_order {f : Addr} {fd : FuncData} (F : Fun K "_law_order" "_law_order" s__law_order f fd) (B : Bn K mg C) (H__law_next : Has P w K mg base "_law_next" 1 ["drawn", "many"] c__law_next) : FnG P w K mg base 2 f fd ["drawn", "many"] (spD K 2 c__law_order) := by
  refine fnd (k := 1) c__law_order F sc__law_order fun cdv A outer s H hgd0 hr Y => ?_
  have hu := hr.units
  have hu1 : (A.deeper (envOfC "_law_order" (defScope s__law_order) s.heap.objs.size f cdv)).units + 65 < cLine := by have := hr.un; omega
  have hu0 : (A.deeper (envOfC "_law_order" (defScope s__law_order) s.heap.objs.size f cdv)).units + 1 < cLine := by have := hr.un; omega
  have hgd : (A.deeper (envOfC "_law_order" (defScope s__law_order) s.heap.objs.size f cdv)).guards = some [] := hgd0
  refine ⟨_, (dss_cons (ds_par (i := 2) (j := 3) rfl sc__law_order.nd rfl rfl (by decide) rfl rfl (xe_m (me_listRg rfl (by rfl) B.list (wr_1 (by rfl) B.range (we_var 1)))) (xe_m (me_lst wa_nil)) (by rfl)) (dss_cons (ds_while PassesOwn.never (wt_cmp (or_neA hu) bi_neA (we_var 2) (we_ofM (me_lst wa_nil)) (nomark _)) (dss_one (ds_appPop (i := 3) (j := 2) (by decide) (pv 3) (pv 2) (we_has H__law_next hgd (hr.mono (by decide)) (by rfl) (wa_cons (we_var 0) (wa_cons (we_callB call_len_seq ck_len (by rfl) B.len PySem.boot_len (wa_cons (we_var 2) wa_nil)) wa_nil)))))) (dss_one (ds_ret (we_callTy call_tupC ck_tupC (by rfl) B.tuple PyProof.Rows.boot_tuple (wa_cons (we_var 3) wa_nil)))))), fun as n R hl hc => ?_⟩
  obtain ⟨m, rfl, hm, hn, hR⟩ := hc
  refine ⟨_, rfl, (m : Nat), rfl, ⟨by omega, by omega, by omega⟩, Nat.zero_le _, ?_⟩
  have e0 : rngD 0 (((m : Nat) : Int) - 0).toNat = (intsN m).map PyData.int := by rw [Int.sub_zero]; exact rng_ints _
  rw [e0]
  refine ⟨fun mm ρ n' => ∃ left found : List Int, mm = left.length ∧ (left ++ found).Perm (intsN m) ∧ n' = n + found.length ∧ ρ = [some (.deck true), some (.dat (.int (m : Nat))), some (.mt (left.map .int)), some (.mt (found.map .int))], ⟨_, intsN m, [], rfl, by rw [List.append_nil], rfl, rfl⟩, ?_⟩
  rintro mm ρ n1 ⟨left, found, rfl, hp, rfl, rfl⟩
  have hlen : left.length + found.length = m := by
    have := hp.length_eq
    rw [intsN_len] at this
    simpa using this
  refine ⟨_, rfl, Nat.zero_le _, rfl, rfl, sh_ints left, sh_ints [], ?_⟩
  show ∃ c, (Dv.dat (.bool (!PyData.eqv (.list (left.map .int)) (.list [])))) = .dat (.bool c) ∧ _
  rw [eqv_nil]
  cases left with
  | nil => exact ⟨false, rfl, iteF ⟨_, rfl, _, found, rfl, rfl, hR found _ (by simpa using hp) ⟨by show n.n + found.length ≤ n.n + 100; simp at hlen; omega, rfl, rfl⟩⟩⟩
  | cons a l =>
    refine ⟨true, rfl, iteT ?_⟩
    have hl40 : (a :: l).length ≤ 40 := by omega
    refine ⟨_, _, rfl, rfl, _, rfl, _, rfl, _, _, rfl, rfl, rfl, ((List.map PyData.int (a :: l)).length : Nat), rfl, ?_, ?_, ?_, fun r ra rb => ?_⟩
    · rw [List.length_map, List.length_cons]; omega
    · rw [List.length_map]; omega
    · show n.n + found.length ≤ _; omega
    rw [List.length_map] at rb
    have hk : r.toNat < (a :: l).length := by omega
    refine ⟨r, r.toNat, .int ((a :: l)[r.toNat]), rfl, ⟨by omega, by omega⟩, seqIx ra (by rw [List.length_map]; exact rb), by rw [List.getElem?_map, List.getElem?_eq_getElem hk]; rfl, line1000 (by rw [List.length_map]; omega), ((a :: l).eraseIdx r.toNat).length, ?_, (a :: l).eraseIdx r.toNat, found ++ [(a :: l)[r.toNat]], rfl, ?_, ?_, ?_⟩
    · rw [List.length_eraseIdx_of_lt hk]; omega
    · refine List.Perm.trans ?_ hp
      refine (List.perm_append_comm).trans ?_
      rw [List.append_assoc]
      refine (List.Perm.append_left found (cons_erase hk)).trans List.perm_append_comm
    · rw [List.length_append]; rfl
    · rw [eraseIdx_map', List.map_append]
      rfl
abbrev s__fitting : Stmt := topS 5
abbrev N__fitting : List Str := ["hall", "guest", "left", "feet", "pairs", "pair"]
theorem sc__fitting : FnScope N__fitting ["hall", "guest", "left"] (defScope s__fitting) := ⟨rfl, rfl, rfl, by decide +kernel, rfl, by decide +kernel, by decide +kernel⟩
theorem fn__fitting {f : Addr} {fd : FuncData} (F : Fun K "_fitting" "_fitting" s__fitting f fd) (B : Bn K mg C) : FnG P w K mg base 1 f fd ["hall", "guest", "left"] (spD K 3 c__fitting) := by
  refine fnd (k := 0) c__fitting F sc__fitting fun cdv A outer s H hgd0 hr Y => ?_
  have hu := hr.units
  have hu1 : (A.deeper (envOfC "_fitting" (defScope s__fitting) s.heap.objs.size f cdv)).units + 65 < cLine := by have := hr.un; omega
  have hu0 : (A.deeper (envOfC "_fitting" (defScope s__fitting) s.heap.objs.size f cdv)).units + 1 < cLine := by have := hr.un; omega
  have hgd : (A.deeper (envOfC "_fitting" (defScope s__fitting) s.heap.objs.size f cdv)).guards = some [] := hgd0
  refine ⟨_, (dss_cons (ds_asgG (we_var 0) ⟨(pg_tup rfl (pgs_cons (pg_name (i := 3) sc__fitting.nd rfl (Or.inr rfl)) (pgs_cons (pg_name (i := 4) sc__fitting.nd rfl (Or.inr rfl)) pgs_nil))), gok_two⟩) (dss_one (ds_ret (we_ofM (me_compV (own := [("pair", 5)]) rfl sc__fitting.nd (di_seqV (we_var 2)) (blkOk_by (N := N__fitting) (sc := defScope s__fitting) (by decide +kernel)) gok_name (fun _ _ _ _ _ => (pg_name (i := 5) sc__fitting.nd rfl (Or.inl rfl))) (fun _ _ _ _ _ => (wts_one (wt_cmp op_ge bi_B0 (we_ix (we_var 4) (we_var 5) (fun _ _ => rfl)) (we_ix (we_var 3) (we_var 1) (fun _ _ => rfl)) (nomark _)))) (fun _ _ _ _ _ => (we_var 5)) (by decide)))))), fun as n R hl hc => ?_⟩
  obtain ⟨feet, pairs, left, g, rfl, hg1, hg2, hl1, hl2, hR⟩ := hc
  refine ⟨_, rfl, _, _, rfl, _, rfl, _, rfl, compR_p left .int (fun j => decide (getI feet g ≤ getI pairs j)) .int (small1000 (by omega)) (fun x hx acc KK hK => ⟨_, rfl, _, rfl, _, _, rfl, atI_get (hl1 x hx).1 (hl1 x hx).2, _, rfl, _, rfl, _, _, rfl, atI_get hg1 hg2, _, rfl, ite_imp (fun h => ⟨_, rfl, h⟩) id hK⟩) hR⟩
abbrev s_run_by_liking : Stmt := topS 8
abbrev N_run_by_liking : List Str := ["hall", "order", "liking", "left", "run", "guest", "fitting"]
theorem sc_run_by_liking : FnScope N_run_by_liking ["hall", "order", "liking"] (defScope s_run_by_liking) := ⟨rfl, rfl, rfl, by decide +kernel, rfl, by decide +kernel, by decide +kernel⟩
theorem fn_run_by_liking {f : Addr} {fd : FuncData} (F : Fun K "run_by_liking" "run_by_liking" s_run_by_liking f fd) (B : Bn K mg C) (H__fitting : Has P w K mg base "_fitting" 1 ["hall", "guest", "left"] c__fitting) : FnG P w K mg base 2 f fd ["hall", "order", "liking"] (spD K 3 c_run_by_liking) := by
  refine fnd (k := 1) c_run_by_liking F sc_run_by_liking fun cdv A outer s H hgd0 hr Y => ?_
  have hu := hr.units
  have hu1 : (A.deeper (envOfC "run_by_liking" (defScope s_run_by_liking) s.heap.objs.size f cdv)).units + 65 < cLine := by have := hr.un; omega
  have hu0 : (A.deeper (envOfC "run_by_liking" (defScope s_run_by_liking) s.heap.objs.size f cdv)).units + 1 < cLine := by have := hr.un; omega
  have hgd : (A.deeper (envOfC "run_by_liking" (defScope s_run_by_liking) s.heap.objs.size f cdv)).guards = some [] := hgd0
  refine ⟨_, (dss_cons (ds_set (i := 3) sc_run_by_liking.nd rfl (Or.inl rfl) (xe_m (me_callTy call_list_of ck_list (by rfl) B.list PyProof.Rows.boot_list (wa_cons (we_var 2) wa_nil)))) (dss_cons (ds_set (i := 4) sc_run_by_liking.nd rfl (Or.inl rfl) (xe_m (me_lst wa_nil))) (dss_cons (ds_for PassesOwn.never rfl (di_seq (we_var 1)) ⟨(pg_name (i := 5) sc_run_by_liking.nd rfl (Or.inl rfl)), gok_name⟩ (dss_cons (ds_set (i := 6) sc_run_by_liking.nd rfl (Or.inl rfl) (xe_d (we_has H__fitting hgd (hr.mono (by decide)) (by rfl) (wa_cons (we_var 0) (wa_cons (we_var 5) (wa_cons (we_var 3) wa_nil)))))) (dss_one (ds_if (wt_tru (we_var 6)) (dss_cons (ds_append (pv 4) (we_tup (wa_cons (we_var 5) (wa_cons (we_ix (we_var 6) we_int (fun _ _ => rfl)) wa_nil)))) (dss_one (ds_remove (pv 3) (we_ix (we_var 6) we_int (fun _ _ => rfl))))) (dss_one (ds_append (pv 4) (we_tup (wa_cons (we_var 5) (wa_cons (we_gint (by rfl) B.NO_PAIR.choose_spec) wa_nil))))))))) (dss_one (ds_ret (we_callTy call_tuple_of ck_tuple (by rfl) B.tuple PyProof.Rows.boot_tuple (wa_cons (we_var 4) wa_nil))))))), fun as n R hl hc => ?_⟩
  obtain ⟨feet, pairs, order, liking, od, rfl, hod, ho, hk, ho2, hk2, hR⟩ := hc
  refine ⟨_, rfl, _, _, rfl, rfl, Nat.zero_le _, _, rfl, _, hod, ?_⟩
  refine forR_inv (fun k ρ n' => n' = n ∧ ∃ left run, (left, run) = (order.take k).foldl (stepF feet pairs) (liking, []) ∧ InR pairs.length left ∧ left.length ≤ 100 ∧ run.length ≤ k ∧ ∃ a5 a6, ρ = [some (.dat (hallD feet pairs)), some (.dat od), some (.dat (.list (liking.map .int))), some (.mt (left.map .int)), some (.mt (run.map prD)), a5, a6])
    ⟨rfl, liking, [], rfl, hk, hk2, Nat.le_refl _, none, none, rfl⟩ ?_ ?_
  · rintro k x ρ n' hx ⟨rfl, left, run, he, hl1, hl2, hr2, a5, a6, rfl⟩
    obtain ⟨g, hg, rfl⟩ := map_get hx
    have hgo := ho g (List.mem_of_getElem? hg)
    have hk100 : k < 100 := Nat.lt_of_lt_of_le (List.getElem?_eq_some_iff.mp hg).1 ho2
    have hstep := fold_take (f := stepF feet pairs) (b := (liking, [])) hg
    rw [← he] at hstep
    refine ⟨_, rfl, _, rfl, _, rfl, rfl, feet, pairs, left, g, rfl, hgo.1, hgo.2, hl1, hl2, ?_⟩
    unfold stepF at hstep
    simp only at hstep
    have hsub : ∀ j ∈ left.filter (fun j => decide (getI feet g ≤ getI pairs j)), j ∈ left := fun j hj => (List.mem_filter.mp hj).1
    cases e : left.filter (fun j => decide (getI feet g ≤ getI pairs j)) with
    | nil =>
      rw [e] at hstep
      refine ⟨_, rfl, _, rfl, _, rfl, by show 2 ≤ sizeLine; decide, small1000 (by rw [List.length_map]; omega), rfl, left, run ++ [(g, -1)], hstep.symm, hl1, hl2, by rw [List.length_append]; exact Nat.succ_le_succ hr2, some (.dat (.int g)), some (.dat (.list [])), by rw [List.map_append]; rfl⟩
    | cons j js =>
      rw [e] at hstep hsub
      have hj := hsub j (by simp)
      refine ⟨_, rfl, _, rfl, _, rfl, _, rfl, 0, _, rfl, atI0 j js, by show 2 ≤ sizeLine; decide, small1000 (by rw [List.length_map]; omega), _, rfl, _, rfl, 0, _, rfl, atI0 j js, left, j, rfl, rfl, hj, rfl, left.erase j, run ++ [(g, j)], hstep.symm, fun i hi => hl1 i (List.mem_of_mem_erase hi), Nat.le_trans (List.erase_sublist.length_le) hl2, by rw [List.length_append]; exact Nat.succ_le_succ hr2, some (.dat (.int g)), some (.dat (.list ((j :: js).map .int))), by rw [List.map_append]; rfl⟩
  · rintro ρ n' ⟨rfl, left, run, he, hl1, hl2, hr2, a5, a6, rfl⟩
    rw [List.length_map, List.take_length] at he
    rw [← he] at hR
    exact ⟨_, rfl, _, _, rfl, rfl, hR⟩
abbrev s_order_by_feet : Stmt := topS 16
abbrev N_order_by_feet : List Str := ["hall", "ranks", "guest", "foot", "_"]
theorem sc_order_by_feet : FnScope N_order_by_feet ["hall"] (defScope s_order_by_feet) := ⟨rfl, rfl, rfl, by decide +kernel, rfl, by decide +kernel, by decide +kernel⟩
theorem fn_order_by_feet {f : Addr} {fd : FuncData} (F : Fun K "order_by_feet" "order_by_feet" s_order_by_feet f fd) (B : Bn K mg C) : FnG P w K mg base 1 f fd ["hall"] (spD K 1 c_order_by_feet) := by
  refine fnd (k := 0) c_order_by_feet F sc_order_by_feet fun cdv A outer s H hgd0 hr Y => ?_
  have hu := hr.units
  have hu1 : (A.deeper (envOfC "order_by_feet" (defScope s_order_by_feet) s.heap.objs.size f cdv)).units + 65 < cLine := by have := hr.un; omega
  have hu0 : (A.deeper (envOfC "order_by_feet" (defScope s_order_by_feet) s.heap.objs.size f cdv)).units + 1 < cLine := by have := hr.un; omega
  have hgd : (A.deeper (envOfC "order_by_feet" (defScope s_order_by_feet) s.heap.objs.size f cdv)).guards = some [] := hgd0
  refine ⟨_, (dss_cons (ds_set (i := 1) sc_order_by_feet.nd rfl (Or.inl rfl) (xe_d (we_ofM (me_callB cr_sortedPO ck_sortP (by rfl) B.sorted PyProof.Rows.boot_sorted (wa_cons (we_ofM (me_compV (own := [("guest", 2), ("foot", 3)]) rfl sc_order_by_feet.nd (div_of (di_enumA (by rfl) B.enumerate (wa_cons (we_ix (we_var 0) we_int (fun _ _ => rfl)) wa_nil))) (blkOk_by (N := N_order_by_feet) (sc := defScope s_order_by_feet) (by decide +kernel)) gok_two (fun _ _ _ _ _ => (pg_tup rfl (pgs_cons (pg_name (i := 2) sc_order_by_feet.nd rfl (Or.inl rfl)) (pgs_cons (pg_name (i := 3) sc_order_by_feet.nd rfl (Or.inl rfl)) pgs_nil)))) (fun _ _ _ _ _ => wts_nil) (fun _ _ _ _ _ => (we_tup (wa_cons (we_var 3) (wa_cons (we_var 2) wa_nil)))) (by decide))) wa_nil))))) (dss_one (ds_ret (we_callTy call_tuple_of ck_tuple (by rfl) B.tuple PyProof.Rows.boot_tuple (wa_cons (we_ofM (me_compV (own := [("_", 4), ("guest", 2)]) rfl sc_order_by_feet.nd (di_seqV (we_var 1)) (blkOk_by (N := N_order_by_feet) (sc := defScope s_order_by_feet) (by decide +kernel)) gok_two (fun _ _ _ _ _ => (pg_tup rfl (pgs_cons (pg_name (i := 4) sc_order_by_feet.nd rfl (Or.inl rfl)) (pgs_cons (pg_name (i := 2) sc_order_by_feet.nd rfl (Or.inl rfl)) pgs_nil)))) (fun _ _ _ _ _ => wts_nil) (fun _ _ _ _ _ => (we_var 2)) (by decide))) wa_nil))))), fun as n R hl hc => ?_⟩
  obtain ⟨feet, pairs, rfl, hf, hR⟩ := hc
  refine ⟨_, rfl, 0, _, rfl, rfl, _, _, rfl, rfl, ?_⟩
  rw [enum_ints]
  refine compR_m (intsN feet.length) _ (fun j => prD (getI feet j, j)) (small1000 (by rw [intsN_len]; omega)) (fun x hx acc KK ha hK => ⟨_, _, rfl, _, rfl, _, rfl, by show 2 ≤ sizeLine; decide, ha, hK⟩) ?_
  refine ⟨_, (intsN feet.length).map fun j => (getI feet j, j), rfl, by rw [List.map_map]; rfl, fun qs hp hs => ?_⟩
  have hql : qs.length = feet.length := by rw [hp.length_eq, List.length_map, intsN_len]
  refine ⟨_, rfl, _, rfl, compR_m qs prD (fun q => .int q.2) (small1000 (by omega)) (fun x hx acc KK ha hK => ⟨_, _, rfl, _, rfl, ha, hK⟩) ?_⟩
  refine ⟨_, _, rfl, rfl, ?_⟩
  have e : (qs.map fun q => PyData.int q.2) = (obf feet).map PyData.int := by
    unfold obf
    rw [← like_of hp hs, List.map_map]
    rfl
  rw [e]
  exact hR
abbrev s__by_size : Stmt := topS 18
abbrev N__by_size : List Str := ["hall", "pairs", "ranks", "pair", "_"]
theorem sc__by_size : FnScope N__by_size ["hall", "pairs"] (defScope s__by_size) := ⟨rfl, rfl, rfl, by decide +kernel, rfl, by decide +kernel, by decide +kernel⟩
theorem fn__by_size {f : Addr} {fd : FuncData} (F : Fun K "_by_size" "_by_size" s__by_size f fd) (B : Bn K mg C) : FnG P w K mg base 1 f fd ["hall", "pairs"] (spD K 2 c__by_size) := by
  refine fnd (k := 0) c__by_size F sc__by_size fun cdv A outer s H hgd0 hr Y => ?_
  have hu := hr.units
  have hu1 : (A.deeper (envOfC "_by_size" (defScope s__by_size) s.heap.objs.size f cdv)).units + 65 < cLine := by have := hr.un; omega
  have hu0 : (A.deeper (envOfC "_by_size" (defScope s__by_size) s.heap.objs.size f cdv)).units + 1 < cLine := by have := hr.un; omega
  have hgd : (A.deeper (envOfC "_by_size" (defScope s__by_size) s.heap.objs.size f cdv)).guards = some [] := hgd0
  refine ⟨_, (dss_cons (ds_set (i := 2) sc__by_size.nd rfl (Or.inl rfl) (xe_d (we_ofM (me_callB cr_sortedPO ck_sortP (by rfl) B.sorted PyProof.Rows.boot_sorted (wa_cons (we_ofM (me_compV (own := [("pair", 3)]) rfl sc__by_size.nd (di_seqV (we_var 1)) (blkOk_by (N := N__by_size) (sc := defScope s__by_size) (by decide +kernel)) gok_name (fun _ _ _ _ _ => (pg_name (i := 3) sc__by_size.nd rfl (Or.inl rfl))) (fun _ _ _ _ _ => wts_nil) (fun _ _ _ _ _ => (we_tup (wa_cons (we_ix (we_ix (we_var 0) we_int (fun _ _ => rfl)) (we_var 3) (fun _ _ => rfl)) (wa_cons (we_var 3) wa_nil)))) (by decide))) wa_nil))))) (dss_one (ds_ret (we_ofM (me_compV (own := [("_", 4), ("pair", 3)]) rfl sc__by_size.nd (di_seqV (we_var 2)) (blkOk_by (N := N__by_size) (sc := defScope s__by_size) (by decide +kernel)) gok_two (fun _ _ _ _ _ => (pg_tup rfl (pgs_cons (pg_name (i := 4) sc__by_size.nd rfl (Or.inl rfl)) (pgs_cons (pg_name (i := 3) sc__by_size.nd rfl (Or.inl rfl)) pgs_nil)))) (fun _ _ _ _ _ => wts_nil) (fun _ _ _ _ _ => (we_var 3)) (by decide)))))), fun as n R hl hc => ?_⟩
  obtain ⟨feet, pairs, ps, d, rfl, hd, hps, hl, hR⟩ := hc
  refine ⟨_, rfl, _, hd, compR_m ps .int (fun j => prD (getI pairs j, j)) (small1000 (by omega)) (fun x hx acc KK ha hK => ⟨_, rfl, 1, _, rfl, rfl, _, rfl, _, _, rfl, atI_get (hps x hx).1 (hps x hx).2, _, rfl, by show 2 ≤ sizeLine; decide, ha, hK⟩) ?_⟩
  refine ⟨_, ps.map fun j => (getI pairs j, j), rfl, by rw [List.map_map]; rfl, fun qs hp hs => ?_⟩
  have hql : qs.length = ps.length := by rw [hp.length_eq, List.length_map]
  refine ⟨_, rfl, _, rfl, compR_m qs prD (fun q => .int q.2) (small1000 (by omega)) (fun x hx acc KK ha hK => ⟨_, _, rfl, _, rfl, ha, hK⟩) ?_⟩
  rw [show (qs.map fun q => PyData.int q.2) = (bySz pairs ps).map PyData.int by rw [← bySz_of hp hs, List.map_map]; rfl]
  exact hR
abbrev s__run_against : Stmt := topS 21
abbrev N__run_against : List Str := ["hall", "others", "guest", "feet", "pairs", "fitting", "smaller", "order", "pair", "size", "other"]
theorem sc__run_against : FnScope N__run_against ["hall", "others", "guest"] (defScope s__run_against) := ⟨rfl, rfl, rfl, by decide +kernel, rfl, by decide +kernel, by decide +kernel⟩
theorem fn__run_against {f : Addr} {fd : FuncData} (F : Fun K "_run_against" "_run_against" s__run_against f fd) (B : Bn K mg C) (H_run_by_liking : Has P w K mg base "run_by_liking" 2 ["hall", "order", "liking"] c_run_by_liking) (H_order_by_feet : Has P w K mg base "order_by_feet" 1 ["hall"] c_order_by_feet) (H__by_size : Has P w K mg base "_by_size" 1 ["hall", "pairs"] c__by_size) : FnG P w K mg base 3 f fd ["hall", "others", "guest"] (spD K 3 c__run_against) := by
  refine fnd (k := 2) c__run_against F sc__run_against fun cdv A outer s H hgd0 hr Y => ?_
  have hu := hr.units
  have hu1 : (A.deeper (envOfC "_run_against" (defScope s__run_against) s.heap.objs.size f cdv)).units + 65 < cLine := by have := hr.un; omega
  have hu0 : (A.deeper (envOfC "_run_against" (defScope s__run_against) s.heap.objs.size f cdv)).units + 1 < cLine := by have := hr.un; omega
  have hgd : (A.deeper (envOfC "_run_against" (defScope s__run_against) s.heap.objs.size f cdv)).guards = some [] := hgd0
  refine ⟨_, (dss_cons (ds_asgG (we_var 0) ⟨(pg_tup rfl (pgs_cons (pg_name (i := 3) sc__run_against.nd rfl (Or.inr rfl)) (pgs_cons (pg_name (i := 4) sc__run_against.nd rfl (Or.inl rfl)) pgs_nil))), gok_two⟩) (dss_cons (ds_setLcV (i := 5) (u := xD (dOfM _)) (hyl := rfl) (hy := rfl) (hsw := sw_true rfl rfl rfl (by decide +kernel)) (hu := lc_dat) (own := [("pair", 8), ("size", 9)]) (hc := rfl) (hN := sc__run_against.nd) (hi := (div_of (di_enumA (by rfl) B.enumerate (wa_cons (we_var 4) wa_nil)))) (ok := (blkOk_by (N := N__run_against) (sc := defScope s__run_against) (by decide +kernel))) (hk := gok_two) (hg := fun _ _ _ _ _ => (pg_tup rfl (pgs_cons (pg_name (i := 8) sc__run_against.nd rfl (Or.inl rfl)) (pgs_cons (pg_name (i := 9) sc__run_against.nd rfl (Or.inl rfl)) pgs_nil)))) (ht := fun _ _ _ _ _ => (wts_one (wt_cmp op_ge bi_B0 (we_var 9) (we_ix (we_var 3) (we_var 2) (fun _ _ => rfl)) (nomark _)))) (he := fun _ _ _ _ _ => (we_var 8)) (hv := by decide)) (dss_cons (ds_setLcV (i := 6) (u := xD (dOfM _)) (hyl := rfl) (hy := rfl) (hsw := sw_true rfl rfl rfl (by decide +kernel)) (hu := lc_dat) (own := [("pair", 8), ("size", 9)]) (hc := rfl) (hN := sc__run_against.nd) (hi := (div_of (di_enumA (by rfl) B.enumerate (wa_cons (we_var 4) wa_nil)))) (ok := (blkOk_by (N := N__run_against) (sc := defScope s__run_against) (by decide +kernel))) (hk := gok_two) (hg := fun _ _ _ _ _ => (pg_tup rfl (pgs_cons (pg_name (i := 8) sc__run_against.nd rfl (Or.inl rfl)) (pgs_cons (pg_name (i := 9) sc__run_against.nd rfl (Or.inl rfl)) pgs_nil)))) (ht := fun _ _ _ _ _ => (wts_one (wt_cmp op_lt bi_B0 (we_var 9) (we_ix (we_var 3) (we_var 2) (fun _ _ => rfl)) (nomark _)))) (he := fun _ _ _ _ _ => (we_var 8)) (hv := by decide)) (dss_cons (ds_setLcV (i := 7) (u := xD (dOfM _)) (hyl := rfl) (hy := rfl) (hsw := sw_true rfl rfl rfl (by decide +kernel)) (hu := lc_dat) (own := [("other", 10)]) (hc := rfl) (hN := sc__run_against.nd) (hi := (di_seqV (we_has H_order_by_feet hgd (hr.mono (by decide)) (by rfl) (wa_cons (we_var 0) wa_nil)))) (ok := (blkOk_by (N := N__run_against) (sc := defScope s__run_against) (by decide +kernel))) (hk := gok_name) (hg := fun _ _ _ _ _ => (pg_name (i := 10) sc__run_against.nd rfl (Or.inl rfl))) (ht := fun _ _ _ _ _ => (wts_one (wt_cmp (op_inDS hu1) bi_inS (we_var 10) (we_var 1) (by rfl)))) (he := fun _ _ _ _ _ => (we_var 10)) (hv := by decide)) (dss_one (ds_ret (we_has H_run_by_liking hgd (hr.mono (by decide)) (by rfl) (wa_cons (we_var 0) (wa_cons (we_bin or_addA bi_add (we_var 7) (we_ofM (me_lst (wa_cons (we_var 2) wa_nil)))) (wa_cons (we_bin or_addA bi_add (we_has H__by_size hgd (hr.mono (by decide)) (by rfl) (wa_cons (we_var 0) (wa_cons (we_var 5) wa_nil))) (we_var 6)) wa_nil)))))))))), fun as n R hl hc => ?_⟩
  obtain ⟨feet, pairs, others, g, od, rfl, hod, hh, hg1, hg2, hR⟩ := hc
  have hf40 := hh.f2
  have hp40 := hh.p2
  refine ⟨_, rfl, _, _, rfl, ?_⟩
  refine ⟨_, rfl, _, _, rfl, rfl, ?_⟩
  rw [enum_ints]
  refine compR_p (intsN pairs.length) (fun j => .tuple [.int j, .int (getI pairs j)]) (fun j => decide (getI feet g ≤ getI pairs j)) .int (small1000 (by rw [intsN_len]; omega)) (fun x hx acc KK hK => ⟨_, _, rfl, _, rfl, _, rfl, _, rfl, _, _, rfl, atI_get hg1 hg2, _, rfl, ite_imp (fun h => ⟨_, rfl, h⟩) id hK⟩) ?_
  refine ⟨_, rfl, _, _, rfl, rfl, ?_⟩
  rw [enum_ints]
  refine compR_p (intsN pairs.length) (fun j => .tuple [.int j, .int (getI pairs j)]) (fun j => decide (getI pairs j < getI feet g)) .int (small1000 (by rw [intsN_len]; omega)) (fun x hx acc KK hK => ⟨_, _, rfl, _, rfl, _, rfl, _, rfl, _, _, rfl, atI_get hg1 hg2, _, rfl, ite_imp (fun h => ⟨_, rfl, h⟩) id hK⟩) ?_
  have hol : (obf feet).length = feet.length := by rw [(obf_perm feet).length_eq, intsN_len]
  refine ⟨_, rfl, rfl, feet, pairs, rfl, hf40, _, rfl, compR_p (obf feet) .int (fun o => decide (o ∈ others)) .int (small1000 (by omega)) (fun x hx acc KK hK => ⟨_, rfl, _, rfl, inS_of hod ⟨_, rfl, ite_imp (fun h => ⟨_, rfl, h⟩) id hK⟩⟩) ?_⟩
  have hal : (againstO feet others).length ≤ 40 := Nat.le_trans (List.length_filter_le _ _) (by omega)
  have hfl : (fitL feet pairs g).length ≤ 40 := Nat.le_trans (List.length_filter_le _ _) (by rw [intsN_len]; exact hp40)
  have hsl : (smallL feet pairs g).length ≤ 40 := Nat.le_trans (List.length_filter_le _ _) (by rw [intsN_len]; exact hp40)
  have hbl := (bySz_perm pairs (fitL feet pairs g)).length_eq
  have hfi : InR pairs.length (fitL feet pairs g) := fun j hj => mem_intsN (List.mem_filter.mp hj).1
  refine ⟨_, rfl, _, rfl, _, rfl, by show 1 ≤ sizeLine; decide, line1000 (by rw [List.length_map]; show (againstO feet others).length + 1 ≤ 1000; omega), _, rfl, _, rfl, rfl, feet, pairs, fitL feet pairs g, _, rfl, rfl, hfi, by omega, _, rfl, line1000 (by rw [List.length_map, List.length_map, hbl]; show _ + (smallL feet pairs g).length ≤ 1000; omega), rfl, feet, pairs, againstO feet others ++ [g], bySz pairs (fitL feet pairs g) ++ smallL feet pairs g, _, by rw [List.map_append]; rfl, ?_, ?_, ?_, ?_, ?_, ?_⟩
  · show some _ = some _
    rw [List.map_append]
    rfl
  · intro j hj
    rcases List.mem_append.mp hj with q | q
    · exact mem_intsN ((obf_perm feet).mem_iff.mp (List.mem_filter.mp q).1)
    · rw [List.mem_singleton.mp q]; exact ⟨hg1, hg2⟩
  · intro j hj
    exact mem_intsN ((liking_perm feet pairs g).mem_iff.mp hj)
  · rw [List.length_append]; show _ + 1 ≤ 100; omega
  · rw [List.length_append, hbl]; omega
  · rw [byL_fold]
    exact hR
abbrev s_can_miss : Stmt := topS 24
abbrev N_can_miss : List Str := ["hall", "order", "guest", "before"]
theorem sc_can_miss : FnScope N_can_miss ["hall", "order", "guest"] (defScope s_can_miss) := ⟨rfl, rfl, rfl, by decide +kernel, rfl, by decide +kernel, by decide +kernel⟩
theorem fn_can_miss {f : Addr} {fd : FuncData} (F : Fun K "can_miss" "can_miss" s_can_miss f fd) (B : Bn K mg C) (H__run_against : Has P w K mg base "_run_against" 3 ["hall", "others", "guest"] c__run_against) : FnG P w K mg base 4 f fd ["hall", "order", "guest"] (spD K 3 c_can_miss) := by
  refine fnd (k := 3) c_can_miss F sc_can_miss fun cdv A outer s H hgd0 hr Y => ?_
  have hu := hr.units
  have hu1 : (A.deeper (envOfC "can_miss" (defScope s_can_miss) s.heap.objs.size f cdv)).units + 65 < cLine := by have := hr.un; omega
  have hu0 : (A.deeper (envOfC "can_miss" (defScope s_can_miss) s.heap.objs.size f cdv)).units + 1 < cLine := by have := hr.un; omega
  have hgd : (A.deeper (envOfC "can_miss" (defScope s_can_miss) s.heap.objs.size f cdv)).guards = some [] := hgd0
  refine ⟨_, (dss_cons (ds_set (i := 3) sc_can_miss.nd rfl (Or.inl rfl) (xe_d (we_slice (we_unc (we_var 1)) wo_none (wo_some (we_indexC (we_var 1) (we_var 2)))))) (dss_one (ds_ret (we_cmp (or_eqA hu) bi_eqA (we_ix (we_has H__run_against hgd (hr.mono (by decide)) (by rfl) (wa_cons (we_var 0) (wa_cons (we_var 3) (wa_cons (we_var 2) wa_nil)))) (we_neg we_int) (fun _ _ => rfl)) (we_tup (wa_cons (we_var 2) (wa_cons (we_gint (by rfl) B.NO_PAIR.choose_spec) wa_nil))) (nomark _))))), fun as n R hl hc => ?_⟩
  obtain ⟨feet, pairs, order, g, rfl, hh, hp, hg1, hg2, hR⟩ := hc
  have hgm : g ∈ intsN feet.length := List.mem_map.mpr ⟨g.toNat, List.mem_range.mpr (by omega), by omega⟩
  have hgo : g ∈ order := hp.mem_iff.mpr hgm
  have hnd : order.Nodup := hp.nodup_iff.mpr ((intsN_lt _).imp fun h => Int.ne_of_lt h)
  have hb : ∀ o ∈ befO order g, o ∈ intsN feet.length := fun o ho => hp.mem_iff.mp (List.mem_of_mem_take ho)
  have hbn : (befO order g).Nodup := hnd.sublist (List.take_sublist _ _)
  have hsl : ∀ (R : PyData → Prop), R (.tuple ((befO order g).map .int)) → oSl (.dat (.tuple (order.map .int))) none (some ((order.idxOf g : Nat) : Int)) R := fun R h => by
    show R (.tuple (cutG _ _ _))
    rw [cut_take, ← List.map_take]
    exact h
  refine ⟨_, rfl, order, rfl, _, rfl, order, rfl, _, rfl, g, rfl, hgo, _, rfl, hsl _ ?_⟩
  refine ⟨_, rfl, _, rfl, _, rfl, rfl, feet, pairs, befO order g, g, _, rfl, rfl, hh, hg1, hg2, ?_⟩
  obtain ⟨a, j, ha, hj⟩ := against_miss (pairs := pairs) (g := g) hbn hb
  rw [ha]
  have hat : atI ((a ++ [(g, j)]).map prD) (-1) = some (prD (g, j)) := by
    rw [List.map_append]
    exact atI_lastG _ _
  refine ⟨-1, _, rfl, hat, _, rfl, by show 2 ≤ sizeLine; decide, rfl, rfl, rfl, rfl, ?_⟩
  show R (.bool (PyData.eqv (.tuple [.int g, .int j]) (.tuple [.int g, .int (-1)]))) n
  rw [eqv_pr, decide_eq_true (rfl : g = g), Bool.true_and, show decide (j = -1) = canTake ((befO order g).map (getI feet)) (fitS feet pairs g) by rw [Bool.eq_iff_iff, decide_eq_true_eq, ← hj]]
  exact hR
abbrev s_small_run : Stmt := topS 9
abbrev N_small_run : List Str := ["hall", "order", "ranks", "pair", "size", "_"]
theorem sc_small_run : FnScope N_small_run ["hall", "order"] (defScope s_small_run) := ⟨rfl, rfl, rfl, by decide +kernel, rfl, by decide +kernel, by decide +kernel⟩
theorem fn_small_run {f : Addr} {fd : FuncData} (F : Fun K "small_run" "small_run" s_small_run f fd) (B : Bn K mg C) (H_run_by_liking : Has P w K mg base "run_by_liking" 2 ["hall", "order", "liking"] c_run_by_liking) : FnG P w K mg base 3 f fd ["hall", "order"] (spD K 2 c_small_run) := by
  refine fnd (k := 2) c_small_run F sc_small_run fun cdv A outer s H hgd0 hr Y => ?_
  have hu := hr.units
  have hu1 : (A.deeper (envOfC "small_run" (defScope s_small_run) s.heap.objs.size f cdv)).units + 65 < cLine := by have := hr.un; omega
  have hu0 : (A.deeper (envOfC "small_run" (defScope s_small_run) s.heap.objs.size f cdv)).units + 1 < cLine := by have := hr.un; omega
  have hgd : (A.deeper (envOfC "small_run" (defScope s_small_run) s.heap.objs.size f cdv)).guards = some [] := hgd0
  refine ⟨_, (dss_cons (ds_set (i := 2) sc_small_run.nd rfl (Or.inl rfl) (xe_d (we_ofM (me_callB cr_sortedPO ck_sortP (by rfl) B.sorted PyProof.Rows.boot_sorted (wa_cons (we_ofM (me_compV (own := [("pair", 3), ("size", 4)]) rfl sc_small_run.nd (div_of (di_enumA (by rfl) B.enumerate (wa_cons (we_ix (we_var 0) we_int (fun _ _ => rfl)) wa_nil))) (blkOk_by (N := N_small_run) (sc := defScope s_small_run) (by decide +kernel)) gok_two (fun _ _ _ _ _ => (pg_tup rfl (pgs_cons (pg_name (i := 3) sc_small_run.nd rfl (Or.inl rfl)) (pgs_cons (pg_name (i := 4) sc_small_run.nd rfl (Or.inl rfl)) pgs_nil)))) (fun _ _ _ _ _ => wts_nil) (fun _ _ _ _ _ => (we_tup (wa_cons (we_var 4) (wa_cons (we_var 3) wa_nil)))) (by decide))) wa_nil))))) (dss_one (ds_ret (we_has H_run_by_liking hgd (hr.mono (by decide)) (by rfl) (wa_cons (we_var 0) (wa_cons (we_var 1) (wa_cons (we_ofM (me_compV (own := [("_", 5), ("pair", 3)]) rfl sc_small_run.nd (di_seqV (we_var 2)) (blkOk_by (N := N_small_run) (sc := defScope s_small_run) (by decide +kernel)) gok_two (fun _ _ _ _ _ => (pg_tup rfl (pgs_cons (pg_name (i := 5) sc_small_run.nd rfl (Or.inl rfl)) (pgs_cons (pg_name (i := 3) sc_small_run.nd rfl (Or.inl rfl)) pgs_nil)))) (fun _ _ _ _ _ => wts_nil) (fun _ _ _ _ _ => (we_var 3)) (by decide))) wa_nil))))))), fun as n R hl hc => ?_⟩
  obtain ⟨feet, pairs, order, rfl, hh, ho, ho2, hR⟩ := hc
  have hp40 := hh.p2
  have hil : (intsN pairs.length).length = pairs.length := by simp [intsN]
  refine ⟨_, rfl, 1, _, rfl, rfl, _, _, rfl, rfl, ?_⟩
  rw [enum_ints]
  refine compR_m (intsN pairs.length) _ (fun j => prD (getI pairs j, j)) (small1000 (by omega)) (fun x hx acc KK ha hK => ⟨_, _, rfl, _, rfl, _, rfl, by show 2 ≤ sizeLine; decide, ha, hK⟩) ?_
  refine ⟨_, (intsN pairs.length).map fun j => (getI pairs j, j), rfl, by rw [List.map_map]; rfl, fun qs hp hs => ?_⟩
  have hql : qs.length = pairs.length := by rw [hp.length_eq, List.length_map, hil]
  refine ⟨_, rfl, _, rfl, _, rfl, _, rfl, compR_m qs prD (fun q => .int q.2) (small1000 (by omega)) (fun x hx acc KK ha hK => ⟨_, _, rfl, _, rfl, ha, hK⟩) ?_⟩
  have hp2 : (qs.map (·.2)).Perm (intsN pairs.length) := by
    have := hp.map (·.2)
    rw [List.map_map] at this
    rwa [show ((fun x : Int × Int => x.2) ∘ fun j => (getI pairs j, j)) = id from rfl, List.map_id] at this
  have hkey : ∀ q ∈ qs, q.1 = getI pairs q.2 := fun q hq => by
    obtain ⟨j, _, rfl⟩ := List.mem_map.mp (hp.mem_iff.mp hq)
    rfl
  refine ⟨rfl, feet, pairs, order, qs.map (·.2), _, by rw [List.map_map]; rfl, rfl, ho, fun j hj => mem_intsN (hp2.mem_iff.mp hj), ho2, by rw [List.length_map]; omega, ?_⟩
  rw [run_same (getI pairs) feet pairs order _ (intsN pairs.length) [] hp2 ?_ (intsN_lt _) fun x hx => (mem_intsN hx).1]
  · exact hR
  · rw [List.pairwise_map]
    refine hs.imp_of_mem fun {a b} ha hb h => ?_
    rw [hkey a ha, hkey b hb] at h
    exact h
abbrev s_large_run : Stmt := topS 10
abbrev N_large_run : List Str := ["hall", "order", "ranks", "pair", "size", "_"]
theorem sc_large_run : FnScope N_large_run ["hall", "order"] (defScope s_large_run) := ⟨rfl, rfl, rfl, by decide +kernel, rfl, by decide +kernel, by decide +kernel⟩
theorem fn_large_run {f : Addr} {fd : FuncData} (F : Fun K "large_run" "large_run" s_large_run f fd) (B : Bn K mg C) (H_run_by_liking : Has P w K mg base "run_by_liking" 2 ["hall", "order", "liking"] c_run_by_liking) : FnG P w K mg base 3 f fd ["hall", "order"] (spD K 2 c_large_run) := by
  refine fnd (k := 2) c_large_run F sc_large_run fun cdv A outer s H hgd0 hr Y => ?_
  have hu := hr.units
  have hu1 : (A.deeper (envOfC "large_run" (defScope s_large_run) s.heap.objs.size f cdv)).units + 65 < cLine := by have := hr.un; omega
  have hu0 : (A.deeper (envOfC "large_run" (defScope s_large_run) s.heap.objs.size f cdv)).units + 1 < cLine := by have := hr.un; omega
  have hgd : (A.deeper (envOfC "large_run" (defScope s_large_run) s.heap.objs.size f cdv)).guards = some [] := hgd0
  refine ⟨_, (dss_cons (ds_set (i := 2) sc_large_run.nd rfl (Or.inl rfl) (xe_d (we_ofM (me_callB cr_sortedPO ck_sortP (by rfl) B.sorted PyProof.Rows.boot_sorted (wa_cons (we_ofM (me_compV (own := [("pair", 3), ("size", 4)]) rfl sc_large_run.nd (div_of (di_enumA (by rfl) B.enumerate (wa_cons (we_ix (we_var 0) we_int (fun _ _ => rfl)) wa_nil))) (blkOk_by (N := N_large_run) (sc := defScope s_large_run) (by decide +kernel)) gok_two (fun _ _ _ _ _ => (pg_tup rfl (pgs_cons (pg_name (i := 3) sc_large_run.nd rfl (Or.inl rfl)) (pgs_cons (pg_name (i := 4) sc_large_run.nd rfl (Or.inl rfl)) pgs_nil)))) (fun _ _ _ _ _ => wts_nil) (fun _ _ _ _ _ => (we_tup (wa_cons (we_neg (we_var 4)) (wa_cons (we_var 3) wa_nil)))) (by decide))) wa_nil))))) (dss_one (ds_ret (we_has H_run_by_liking hgd (hr.mono (by decide)) (by rfl) (wa_cons (we_var 0) (wa_cons (we_var 1) (wa_cons (we_ofM (me_compV (own := [("_", 5), ("pair", 3)]) rfl sc_large_run.nd (di_seqV (we_var 2)) (blkOk_by (N := N_large_run) (sc := defScope s_large_run) (by decide +kernel)) gok_two (fun _ _ _ _ _ => (pg_tup rfl (pgs_cons (pg_name (i := 5) sc_large_run.nd rfl (Or.inl rfl)) (pgs_cons (pg_name (i := 3) sc_large_run.nd rfl (Or.inl rfl)) pgs_nil)))) (fun _ _ _ _ _ => wts_nil) (fun _ _ _ _ _ => (we_var 3)) (by decide))) wa_nil))))))), fun as n R hl hc => ?_⟩
  obtain ⟨feet, pairs, order, rfl, hh, ho, ho2, hR⟩ := hc
  have hp40 := hh.p2
  have hil : (intsN pairs.length).length = pairs.length := by simp [intsN]
  refine ⟨_, rfl, 1, _, rfl, rfl, _, _, rfl, rfl, ?_⟩
  rw [enum_ints]
  refine compR_m (intsN pairs.length) _ (fun j => prD (-getI pairs j, j)) (small1000 (by omega)) (fun x hx acc KK ha hK => ⟨_, _, rfl, _, rfl, _, rfl, by show 2 ≤ sizeLine; decide, ha, hK⟩) ?_
  refine ⟨_, (intsN pairs.length).map fun j => (-getI pairs j, j), rfl, by rw [List.map_map]; rfl, fun qs hp hs => ?_⟩
  have hql : qs.length = pairs.length := by rw [hp.length_eq, List.length_map, hil]
  refine ⟨_, rfl, _, rfl, _, rfl, _, rfl, compR_m qs prD (fun q => .int q.2) (small1000 (by omega)) (fun x hx acc KK ha hK => ⟨_, _, rfl, _, rfl, ha, hK⟩) ?_⟩
  have hp2 : (qs.map (·.2)).Perm (intsN pairs.length) := by
    have := hp.map (·.2)
    rw [List.map_map] at this
    rwa [show ((fun x : Int × Int => x.2) ∘ fun j => (-getI pairs j, j)) = id from rfl, List.map_id] at this
  have hkey : ∀ q ∈ qs, q.1 = -getI pairs q.2 := fun q hq => by
    obtain ⟨j, _, rfl⟩ := List.mem_map.mp (hp.mem_iff.mp hq)
    rfl
  refine ⟨rfl, feet, pairs, order, qs.map (·.2), _, by rw [List.map_map]; rfl, rfl, ho, fun j hj => mem_intsN (hp2.mem_iff.mp hj), ho2, by rw [List.length_map]; omega, ?_⟩
  rw [run_same (fun j => -getI pairs j) feet pairs order _ (intsN pairs.length) [] hp2 ?_ (intsN_lt _) fun x hx => (mem_intsN hx).1]
  · exact hR
  · rw [List.pairwise_map]
    refine hs.imp_of_mem fun {a b} ha hb h => ?_
    rw [hkey a ha, hkey b hb] at h
    exact h
abbrev s__law_moved_right : Stmt := topS 30
abbrev N__law_moved_right : List Str := ["hall", "order", "spot", "guest", "later", "some", "other"]
theorem sc__law_moved_right : FnScope N__law_moved_right ["hall", "order", "spot"] (defScope s__law_moved_right) := ⟨rfl, rfl, rfl, by decide +kernel, rfl, by decide +kernel, by decide +kernel⟩
theorem fn__law_moved_right {f : Addr} {fd : FuncData} (F : Fun K "_law_moved_right" "_law_moved_right" s__law_moved_right f fd) (B : Bn K mg C) (H_can_miss : Has P w K mg base "can_miss" 4 ["hall", "order", "guest"] c_can_miss) : FnG P w K mg base 5 f fd ["hall", "order", "spot"] (spD K 3 c__law_moved_right) := by
  refine fnd (k := 4) c__law_moved_right F sc__law_moved_right fun cdv A outer s H hgd0 hr Y => ?_
  have hu := hr.units
  have hu1 : (A.deeper (envOfC "_law_moved_right" (defScope s__law_moved_right) s.heap.objs.size f cdv)).units + 65 < cLine := by have := hr.un; omega
  have hu0 : (A.deeper (envOfC "_law_moved_right" (defScope s__law_moved_right) s.heap.objs.size f cdv)).units + 1 < cLine := by have := hr.un; omega
  have hgd : (A.deeper (envOfC "_law_moved_right" (defScope s__law_moved_right) s.heap.objs.size f cdv)).guards = some [] := hgd0
  refine ⟨_, (dss_cons (ds_set (i := 3) sc__law_moved_right.nd rfl (Or.inr rfl) (xe_d (we_ix (we_unc (we_var 1)) (we_var 2) (fun _ _ => rfl)))) (dss_cons (ds_if (wt_not (wt_val (we_has H_can_miss hgd (hr.mono (by decide)) (by rfl) (wa_cons (we_var 0) (wa_cons (we_var 1) (wa_cons (we_var 3) wa_nil)))))) (dss_one (ds_ret we_bl)) dss_nil) (dss_cons (ds_set (i := 4) sc__law_moved_right.nd rfl (Or.inl rfl) (xe_d (we_bin op_catC bi_catC (we_bin op_catC bi_catC (we_bin op_catC bi_catC (we_sliceC (we_var 1) wo_none (wo_some (we_var 2))) (we_sliceC (we_var 1) (wo_some (we_bin or_addA bi_add (we_var 2) we_int)) (wo_some (we_bin or_addA bi_add (we_var 2) we_int)))) (we_tupD (wa_cons (we_var 3) wa_nil))) (we_sliceC (we_var 1) (wo_some (we_bin or_addA bi_add (we_var 2) we_int)) wo_none)))) (dss_cons (ds_if (wt_not (wt_val (we_has H_can_miss hgd (hr.mono (by decide)) (by rfl) (wa_cons (we_var 0) (wa_cons (we_var 4) (wa_cons (we_var 3) wa_nil)))))) (dss_one (ds_ret we_bl)) dss_nil) (dss_cons (ds_setLcV (i := 5) (u := xD (dOfM _)) (hyl := rfl) (hy := rfl) (hsw := sw_true rfl rfl rfl (by decide +kernel)) (hu := lc_dat) (own := [("other", 6)]) (hc := rfl) (hN := sc__law_moved_right.nd) (hi := (di_seqV (we_slice (we_unc (we_var 1)) (wo_some (we_var 2)) wo_none))) (ok := (blkOk_by (N := N__law_moved_right) (sc := defScope s__law_moved_right) (by decide +kernel))) (hk := gok_name) (hg := fun _ _ _ _ _ => (pg_name (i := 6) sc__law_moved_right.nd rfl (Or.inl rfl))) (ht := fun _ _ _ _ _ => (wts_one (wt_cmp op_ge bi_B0 (we_ix (we_ix (we_var 0) we_int (fun _ _ => rfl)) (we_var 6) (fun _ _ => rfl)) (we_ix (we_ix (we_var 0) we_int (fun _ _ => rfl)) (we_var 3) (fun _ _ => rfl)) (nomark _)))) (he := fun _ _ _ _ _ => (we_var 6)) (hv := by decide)) (dss_one (ds_ret (we_cmp (or_eqA hu) bi_eqA (we_ofM (me_compV (own := [("other", 6)]) rfl sc__law_moved_right.nd (di_seqV (we_var 5)) (blkOk_by (N := N__law_moved_right) (sc := defScope s__law_moved_right) (by decide +kernel)) gok_name (fun _ _ _ _ _ => (pg_name (i := 6) sc__law_moved_right.nd rfl (Or.inl rfl))) (fun _ _ _ _ _ => (wts_one (wt_not (wt_val (we_has H_can_miss hgd (hr.mono (by decide)) (by rfl) (wa_cons (we_var 0) (wa_cons (we_var 1) (wa_cons (we_var 6) wa_nil)))))))) (fun _ _ _ _ _ => (we_var 6)) (by decide))) (we_ofM (me_lst wa_nil)) (nomark _))))))))), fun as n R hl hc => ?_⟩
  obtain ⟨feet, pairs, order, k, rfl, hh, hp, hk, hR⟩ := hc
  have hol : order.length = feet.length := by rw [hp.length_eq, intsN_len]
  have hf40 := hh.f2
  have hnd : order.Nodup := hp.nodup_iff.mpr ((intsN_lt _).imp fun h => Int.ne_of_lt h)
  have hmem : ∀ o ∈ order, 0 ≤ o ∧ o < feet.length := fun o ho => mem_intsN (hp.mem_iff.mp ho)
  obtain ⟨a, g, b, rfl, hal⟩ := split_at (show k < order.length by omega)
  subst hal
  have hg := hmem g (by simp)
  have hna : g ∉ a := fun q => (List.nodup_append.mp hnd).2.2 g q g List.mem_cons_self rfl
  have hnb : g ∉ b := (List.nodup_cons.mp (List.nodup_append.mp hnd).2.1).1
  rw [List.length_append, List.length_cons] at hol
  have c1 : cutG (a ++ g :: b) none (some ((a.length : Nat) : Int)) = a := by rw [cut_take, List.take_left]
  have c2 : cutG (a ++ g :: b) (some (((a.length : Nat) : Int) + 1)) (some (((a.length : Nat) : Int) + 2)) = b.take 1 := by
    rw [show ((a.length : Nat) : Int) + 1 = ((a.length + 1 : Nat) : Int) by omega, show ((a.length : Nat) : Int) + 2 = ((a.length + 2 : Nat) : Int) by omega, cut_mid _ _ _ (by omega), show a.length + 2 - (a.length + 1) = 1 by omega, List.drop_append, List.drop_of_length_le (show a.length ≤ a.length + 1 by omega)]
    simp
  have c3 : cutG (a ++ g :: b) (some (((a.length : Nat) : Int) + 2)) none = b.drop 1 := by
    rw [show ((a.length : Nat) : Int) + 2 = ((a.length + 2 : Nat) : Int) by omega, cut_drop, List.drop_append, List.drop_of_length_le (show a.length ≤ a.length + 2 by omega)]
    simp
  have c4 : ∀ (ρ : Rho) (n : Wo) (R : PyData → Wo → Prop), R (.tuple ((g :: b).map .int)) n → dNo ρ n fun hi n3 => oSl (.dat (.tuple ((a ++ g :: b).map .int))) (some ((a.length : Nat) : Int)) hi fun d => R d n3 := fun ρ n R h => by
    show R (.tuple (cutG _ _ _)) n
    rw [cut_drop, ← List.map_drop, List.drop_left]
    exact h
  have e0 : befO (a ++ g :: b) g = a := befO_app hna
  have hlp : (a ++ b.take 1 ++ [g] ++ b.drop 1).Perm (intsN feet.length) := by
    refine List.Perm.trans ?_ hp
    rw [List.append_assoc, List.append_assoc]
    refine List.Perm.append_left a ?_
    refine (List.perm_append_comm_assoc (b.take 1) [g] (b.drop 1)).trans ?_
    rw [List.take_append_drop]
    exact .refl _
  refine ⟨_, rfl, _, rfl, _, rfl, _, _, rfl, atI_mid a b g, ?_⟩
  refine ⟨_, rfl, _, rfl, _, rfl, rfl, feet, pairs, _, g, rfl, hh, hp, hg.1, hg.2, _, rfl, ite2 (fun _ => hR) fun h => ?_⟩
  rw [e0] at h
  have hc : canTake (a.map (getI feet)) (fitS feet pairs g) = true := by simpa using h
  have e2 : befO (a ++ b.take 1 ++ [g] ++ b.drop 1) g = a ++ b.take 1 := by
    rw [List.append_assoc, List.singleton_append]
    exact befO_app (by rw [List.mem_append]; exact fun q => q.elim hna fun q => hnb (List.mem_of_mem_take q))
  have hc2 : canTake ((befO (a ++ b.take 1 ++ [g] ++ b.drop 1) g).map (getI feet)) (fitS feet pairs g) = true := by
    rw [e2]
    exact take_mono (List.sublist_append_left a _) (Int.le_refl _) hc
  have hl1 : (b.take 1).length ≤ b.length := (List.take_sublist _ _).length_le
  have hl2 : (b.drop 1).length ≤ b.length := (List.drop_sublist _ _).length_le
  refine ⟨_, rfl, _, rfl, _, rfl, _, rfl, _, rfl, _, rfl, _, rfl, _, rfl, _, rfl, _, rfl, _, _, rfl, rfl, by rw [c1, c2]; exact line1000 (by omega), ?_⟩
  rw [c1, c2]
  refine ⟨_, rfl, [g], rfl, by show 1 ≤ sizeLine; decide, _, _, rfl, rfl, line1000 (by rw [List.length_append]; show _ + 1 ≤ 1000; omega), ?_⟩
  refine ⟨_, rfl, _, rfl, _, rfl, _, rfl, _, _, rfl, rfl, by rw [c3]; exact line1000 (by rw [List.length_append, List.length_append]; show _ + 1 + _ ≤ 1000; omega), ?_⟩
  rw [c3]
  refine ⟨_, rfl, _, rfl, _, rfl, rfl, feet, pairs, _, g, rfl, hh, hlp, hg.1, hg.2, _, rfl, ?_⟩
  rw [hc2]
  refine iteF ?_
  refine ⟨_, rfl, _, rfl, _, rfl, _, rfl, ?_⟩
  refine c4 _ _ _ ?_
  refine ⟨_, rfl, compR_p (g :: b) .int (fun o => decide (getI feet g ≤ getI feet o)) .int (small1000 (by rw [List.length_cons]; omega)) (fun x hx acc KK hK => ⟨_, rfl, 0, _, rfl, rfl, _, rfl, _, _, rfl, atI_get (hmem x (List.mem_append_right a hx)).1 (hmem x (List.mem_append_right a hx)).2, _, rfl, 0, _, rfl, rfl, _, rfl, _, _, rfl, atI_get hg.1 hg.2, _, rfl, ite_imp (fun h => ⟨_, rfl, h⟩) id hK⟩) ?_⟩
  obtain ⟨L, hL⟩ : ∃ L, L = (g :: b).filter fun o => decide (getI feet g ≤ getI feet o) := ⟨_, rfl⟩
  rw [← hL]
  have hLm : ∀ o ∈ L, o ∈ g :: b ∧ getI feet g ≤ getI feet o := fun o ho => by
    rw [hL] at ho
    exact ⟨(List.mem_filter.mp ho).1, of_decide_eq_true (List.mem_filter.mp ho).2⟩
  have hLl : L.length ≤ 40 := by rw [hL]; exact Nat.le_trans (List.length_filter_le _ _) (by rw [List.length_cons]; omega)
  refine ⟨_, rfl, _, rfl, compR_p L .int (fun _ => false) .int (small1000 (by omega)) (fun x hx acc KK hK => ⟨_, rfl, _, rfl, _, rfl, rfl, feet, pairs, _, x, rfl, hh, hp, (hmem x (List.mem_append_right a (hLm x hx).1)).1, (hmem x (List.mem_append_right a (hLm x hx).1)).2, _, rfl, ?_⟩) ?_⟩
  · rw [take_mono (befO_sub hnd (hLm x hx).1) (hLm x hx).2 hc]
    exact hK
  · rw [show (L.filter fun _ => false) = [] from List.filter_eq_nil_iff.mpr fun _ _ => Bool.false_ne_true]
    exact ⟨Nat.zero_le _, rfl, rfl, sh_ints [], sh_ints [], hR⟩
abbrev s_counts_at : Stmt := topS 2
abbrev N_counts_at : List Str := ["hall", "size", "feet", "pairs", "smaller", "larger", "foot", "pair"]
theorem sc_counts_at : FnScope N_counts_at ["hall", "size"] (defScope s_counts_at) := ⟨rfl, rfl, rfl, by decide +kernel, rfl, by decide +kernel, by decide +kernel⟩
theorem fn_counts_at {f : Addr} {fd : FuncData} (F : Fun K "counts_at" "counts_at" s_counts_at f fd) (B : Bn K mg C) : FnG P w K mg base 1 f fd ["hall", "size"] (spD K 2 c_counts_at) := by
  refine fnd (k := 0) c_counts_at F sc_counts_at fun cdv A outer s H hgd0 hr Y => ?_
  have hu := hr.units
  have hu1 : (A.deeper (envOfC "counts_at" (defScope s_counts_at) s.heap.objs.size f cdv)).units + 65 < cLine := by have := hr.un; omega
  have hu0 : (A.deeper (envOfC "counts_at" (defScope s_counts_at) s.heap.objs.size f cdv)).units + 1 < cLine := by have := hr.un; omega
  have hgd : (A.deeper (envOfC "counts_at" (defScope s_counts_at) s.heap.objs.size f cdv)).guards = some [] := hgd0
  refine ⟨_, (dss_cons (ds_asgG (we_var 0) ⟨(pg_tup rfl (pgs_cons (pg_name (i := 2) sc_counts_at.nd rfl (Or.inl rfl)) (pgs_cons (pg_name (i := 3) sc_counts_at.nd rfl (Or.inl rfl)) pgs_nil))), gok_two⟩) (dss_cons (ds_setLcV (i := 4) (u := xD (dOfM _)) (hyl := rfl) (hy := rfl) (hsw := sw_true rfl rfl rfl (by decide +kernel)) (hu := lc_dat) (own := [("foot", 6)]) (hc := rfl) (hN := sc_counts_at.nd) (hi := (di_seqV (we_var 2))) (ok := (blkOk_by (N := N_counts_at) (sc := defScope s_counts_at) (by decide +kernel))) (hk := gok_name) (hg := fun _ _ _ _ _ => (pg_name (i := 6) sc_counts_at.nd rfl (Or.inl rfl))) (ht := fun _ _ _ _ _ => (wts_one (wt_cmp op_lt bi_B0 (we_var 6) (we_var 1) (nomark _)))) (he := fun _ _ _ _ _ => (we_var 6)) (hv := by decide)) (dss_cons (ds_setLcV (i := 5) (u := xD (dOfM _)) (hyl := rfl) (hy := rfl) (hsw := sw_true rfl rfl rfl (by decide +kernel)) (hu := lc_dat) (own := [("pair", 7)]) (hc := rfl) (hN := sc_counts_at.nd) (hi := (di_seqV (we_var 3))) (ok := (blkOk_by (N := N_counts_at) (sc := defScope s_counts_at) (by decide +kernel))) (hk := gok_name) (hg := fun _ _ _ _ _ => (pg_name (i := 7) sc_counts_at.nd rfl (Or.inl rfl))) (ht := fun _ _ _ _ _ => (wts_one (wt_cmp op_ge bi_B0 (we_var 7) (we_var 1) (nomark _)))) (he := fun _ _ _ _ _ => (we_var 7)) (hv := by decide)) (dss_one (ds_ret (we_tup (wa_cons (we_callB call_len_seq ck_len (by rfl) B.len PySem.boot_len (wa_cons (we_var 4) wa_nil)) (wa_cons (we_callB call_len_seq ck_len (by rfl) B.len PySem.boot_len (wa_cons (we_var 5) wa_nil)) wa_nil)))))))), fun as n R hl hc => ?_⟩
  obtain ⟨feet, pairs, z, rfl, hf, hp, hR⟩ := hc
  refine ⟨_, rfl, _, _, rfl, _, rfl, _, rfl, compR_p feet .int (fun x => decide (x < z)) .int (small1000 (by omega)) (fun x hx acc KK hK => ⟨_, rfl, _, rfl, _, rfl, ite_imp (fun h => ⟨_, rfl, h⟩) id hK⟩) ?_⟩
  refine ⟨_, rfl, _, rfl, compR_p pairs .int (fun x => decide (z ≤ x)) .int (small1000 (by omega)) (fun x hx acc KK hK => ⟨_, rfl, _, rfl, _, rfl, ite_imp (fun h => ⟨_, rfl, h⟩) id hK⟩) ?_⟩
  refine ⟨_, rfl, _, _, rfl, rfl, _, rfl, _, _, rfl, rfl, by show 2 ≤ sizeLine; decide, ?_⟩
  simp only [List.length_map]
  exact hR
abbrev s__foot_sizes : Stmt := topS 12
abbrev N__foot_sizes : List Str := ["hall"]
theorem sc__foot_sizes : FnScope N__foot_sizes ["hall"] (defScope s__foot_sizes) := ⟨rfl, rfl, rfl, by decide +kernel, rfl, by decide +kernel, by decide +kernel⟩
theorem fn__foot_sizes {f : Addr} {fd : FuncData} (F : Fun K "_foot_sizes" "_foot_sizes" s__foot_sizes f fd) (B : Bn K mg C) : FnG P w K mg base 1 f fd ["hall"] (spD K 1 c__foot_sizes) := by
  refine fnd (k := 0) c__foot_sizes F sc__foot_sizes fun cdv A outer s H hgd0 hr Y => ?_
  have hu := hr.units
  have hu1 : (A.deeper (envOfC "_foot_sizes" (defScope s__foot_sizes) s.heap.objs.size f cdv)).units + 65 < cLine := by have := hr.un; omega
  have hu0 : (A.deeper (envOfC "_foot_sizes" (defScope s__foot_sizes) s.heap.objs.size f cdv)).units + 1 < cLine := by have := hr.un; omega
  have hgd : (A.deeper (envOfC "_foot_sizes" (defScope s__foot_sizes) s.heap.objs.size f cdv)).guards = some [] := hgd0
  refine ⟨_, (dss_one (ds_ret (we_ofM (me_sortedSet rfl (by rfl) B.sorted (by rfl) B.set (we_ix (we_var 0) we_int (fun _ _ => rfl)))))), fun as n R hl hc => ?_⟩
  obtain ⟨feet, pairs, rfl, hf, hR⟩ := hc
  exact ⟨_, rfl, 0, _, rfl, rfl, feet, rfl, by omega, fun ms hp hm => hR ms (sd_uniq hp hm) hm (Nat.le_trans (nodup_len (hp.imp fun h => Int.ne_of_lt h) fun x hx => (hm x).mp hx) hf)⟩
abbrev s__deciding_sizes : Stmt := topS 13
abbrev N__deciding_sizes : List Str := ["hall"]
theorem sc__deciding_sizes : FnScope N__deciding_sizes ["hall"] (defScope s__deciding_sizes) := ⟨rfl, rfl, rfl, by decide +kernel, rfl, by decide +kernel, by decide +kernel⟩
theorem fn__deciding_sizes {f : Addr} {fd : FuncData} (F : Fun K "_deciding_sizes" "_deciding_sizes" s__deciding_sizes f fd) (B : Bn K mg C) (H__foot_sizes : Has P w K mg base "_foot_sizes" 1 ["hall"] c__foot_sizes) : FnG P w K mg base 2 f fd ["hall"] (spD K 1 c__deciding_sizes) := by
  refine fnd (k := 1) c__deciding_sizes F sc__deciding_sizes fun cdv A outer s H hgd0 hr Y => ?_
  have hu := hr.units
  have hu1 : (A.deeper (envOfC "_deciding_sizes" (defScope s__deciding_sizes) s.heap.objs.size f cdv)).units + 65 < cLine := by have := hr.un; omega
  have hu0 : (A.deeper (envOfC "_deciding_sizes" (defScope s__deciding_sizes) s.heap.objs.size f cdv)).units + 1 < cLine := by have := hr.un; omega
  have hgd : (A.deeper (envOfC "_deciding_sizes" (defScope s__deciding_sizes) s.heap.objs.size f cdv)).guards = some [] := hgd0
  refine ⟨_, (dss_one (ds_ret (we_bin or_addA bi_add (we_has H__foot_sizes hgd (hr.mono (by decide)) (by rfl) (wa_cons (we_var 0) wa_nil)) (we_ofM (me_lst (wa_cons (we_bin or_addA bi_add (we_gint (by rfl) B.MAX_SIZE.choose_spec) we_int) wa_nil)))))), fun as n R hl hc => ?_⟩
  obtain ⟨feet, pairs, rfl, hf, hR⟩ := hc
  refine ⟨_, rfl, rfl, feet, pairs, rfl, hf, fun ms he hm hml => ⟨by show 1 ≤ sizeLine; decide, line1000 (by rw [List.length_map]; show ms.length + 1 ≤ 1000; omega), ?_⟩⟩
  have h := hR (ms ++ [1000000 + 1]) (by rw [he]; rfl) (fun k => by
    rw [List.mem_append, hm k, List.mem_singleton]
    exact Iff.rfl) (by rw [List.length_append]; exact Nat.succ_le_succ hml)
  rw [List.map_append] at h
  exact h
abbrev s_fewest_served : Stmt := topS 15
abbrev N_fewest_served : List Str := ["hall", "size"]
theorem sc_fewest_served : FnScope N_fewest_served ["hall"] (defScope s_fewest_served) := ⟨rfl, rfl, rfl, by decide +kernel, rfl, by decide +kernel, by decide +kernel⟩
theorem fn_fewest_served {f : Addr} {fd : FuncData} (F : Fun K "fewest_served" "fewest_served" s_fewest_served f fd) (B : Bn K mg C) (H_counts_at : Has P w K mg base "counts_at" 1 ["hall", "size"] c_counts_at) (H__deciding_sizes : Has P w K mg base "_deciding_sizes" 2 ["hall"] c__deciding_sizes) : FnG P w K mg base 3 f fd ["hall"] (spD K 1 c_fewest_served) := by
  refine fnd (k := 2) c_fewest_served F sc_fewest_served fun cdv A outer s H hgd0 hr Y => ?_
  have hu := hr.units
  have hu1 : (A.deeper (envOfC "fewest_served" (defScope s_fewest_served) s.heap.objs.size f cdv)).units + 65 < cLine := by have := hr.un; omega
  have hu0 : (A.deeper (envOfC "fewest_served" (defScope s_fewest_served) s.heap.objs.size f cdv)).units + 1 < cLine := by have := hr.un; omega
  have hgd : (A.deeper (envOfC "fewest_served" (defScope s_fewest_served) s.heap.objs.size f cdv)).guards = some [] := hgd0
  refine ⟨_, (dss_one (ds_ret (we_callB (call_minA rfl) ck_min (by rfl) B.min PyProof.Rows.boot_min (wa_cons (we_ofM (me_compV (own := [("size", 1)]) rfl sc_fewest_served.nd (di_seqV (we_has H__deciding_sizes hgd (hr.mono (by decide)) (by rfl) (wa_cons (we_var 0) wa_nil))) (blkOk_by (N := N_fewest_served) (sc := defScope s_fewest_served) (by decide +kernel)) gok_name (fun _ _ _ _ _ => (pg_name (i := 1) sc_fewest_served.nd rfl (Or.inl rfl))) (fun _ _ _ _ _ => wts_nil) (fun _ _ _ _ _ => (we_callB (call_maxA rfl) ck_max (by rfl) B.max PyProof.Rows.boot_max (wa_cons (we_has H_counts_at hgd (hr.mono (by decide)) (by rfl) (wa_cons (we_var 0) (wa_cons (we_var 1) wa_nil))) wa_nil))) (by decide))) wa_nil)))), fun as n R hl hc => ?_⟩
  obtain ⟨feet, pairs, rfl, hh, hR⟩ := hc
  have hf40 := hh.f2
  have hp40 := hh.p2
  refine ⟨_, rfl, rfl, feet, pairs, rfl, hf40, fun ms hme hm hml => ⟨_, rfl, compR_m ms .int (fun s => .int (((max (cF feet s) (cP pairs s) : Nat) : Int))) (small1000 (by omega)) (fun x hx acc KK ha hK => ⟨_, rfl, _, rfl, rfl, feet, pairs, x, rfl, by omega, by omega, [(cF feet x : Int), (cP pairs x : Int)], rfl, (by show 0 < 2; decide), fun m q1 q2 => ?_⟩) ?_⟩⟩
  · have e : m = ((max (cF feet x) (cP pairs x) : Nat) : Int) := by
      have a1 := q2 (cF feet x : Int) (by simp)
      have a2 := q2 (cP pairs x : Int) (by simp)
      simp only [List.mem_cons, List.not_mem_nil, or_false] at q1
      rcases q1 with rfl | rfl <;> omega
    subst e
    exact ⟨ha, hK⟩
  refine ⟨ms.map fun s => ((max (cF feet s) (cP pairs s) : Nat) : Int), by rw [List.map_map]; rfl, ?_, fun m hm2 hle => hR m ?_⟩
  · rw [List.length_map]
    exact List.length_pos_of_mem ((hm 1000001).mpr (.inr rfl))
  obtain ⟨s, hs, rfl⟩ := List.mem_map.mp hm2
  obtain ⟨s0, h0, h1⟩ := few_at (feet := feet) (pairs := pairs) (top := 1000001) fun x hx => by have := hh.pi x hx; omega
  refine ⟨⟨s, rfl⟩, fun s' => ?_⟩
  exact Int.le_trans (hle _ (List.mem_map_of_mem ((hm s0).mpr h0))) (h1 s')
abbrev s_most_served : Stmt := topS 14
abbrev N_most_served : List Str := ["hall", "size"]
theorem sc_most_served : FnScope N_most_served ["hall"] (defScope s_most_served) := ⟨rfl, rfl, rfl, by decide +kernel, rfl, by decide +kernel, by decide +kernel⟩
theorem fn_most_served {f : Addr} {fd : FuncData} (F : Fun K "most_served" "most_served" s_most_served f fd) (B : Bn K mg C) (H_counts_at : Has P w K mg base "counts_at" 1 ["hall", "size"] c_counts_at) (H__deciding_sizes : Has P w K mg base "_deciding_sizes" 2 ["hall"] c__deciding_sizes) : FnG P w K mg base 3 f fd ["hall"] (spD K 1 c_most_served) := by
  refine fnd (k := 2) c_most_served F sc_most_served fun cdv A outer s H hgd0 hr Y => ?_
  have hu := hr.units
  have hu1 : (A.deeper (envOfC "most_served" (defScope s_most_served) s.heap.objs.size f cdv)).units + 65 < cLine := by have := hr.un; omega
  have hu0 : (A.deeper (envOfC "most_served" (defScope s_most_served) s.heap.objs.size f cdv)).units + 1 < cLine := by have := hr.un; omega
  have hgd : (A.deeper (envOfC "most_served" (defScope s_most_served) s.heap.objs.size f cdv)).guards = some [] := hgd0
  refine ⟨_, (dss_one (ds_ret (we_callB (call_minA rfl) ck_min (by rfl) B.min PyProof.Rows.boot_min (wa_cons (we_ofM (me_compV (own := [("size", 1)]) rfl sc_most_served.nd (di_seqV (we_has H__deciding_sizes hgd (hr.mono (by decide)) (by rfl) (wa_cons (we_var 0) wa_nil))) (blkOk_by (N := N_most_served) (sc := defScope s_most_served) (by decide +kernel)) gok_name (fun _ _ _ _ _ => (pg_name (i := 1) sc_most_served.nd rfl (Or.inl rfl))) (fun _ _ _ _ _ => wts_nil) (fun _ _ _ _ _ => (we_callB (call_sumA rfl) ck_sum (by rfl) B.sum PyProof.Rows.boot_sum (wa_cons (we_has H_counts_at hgd (hr.mono (by decide)) (by rfl) (wa_cons (we_var 0) (wa_cons (we_var 1) wa_nil))) wa_nil))) (by decide))) wa_nil)))), fun as n R hl hc => ?_⟩
  obtain ⟨feet, pairs, rfl, hh, hR⟩ := hc
  have hf40 := hh.f2
  have hp40 := hh.p2
  refine ⟨_, rfl, rfl, feet, pairs, rfl, hf40, fun ms hme hm hml => ⟨_, rfl, compR_m ms .int (fun s => .int ((cF feet s : Int) + cP pairs s)) (small1000 (by omega)) (fun x hx acc KK ha hK => ⟨_, rfl, _, rfl, rfl, feet, pairs, x, rfl, by omega, by omega, _, [(cF feet x : Int), (cP pairs x : Int)], rfl, rfl, ?_⟩) ?_⟩⟩
  · rw [show ([(cF feet x : Int), (cP pairs x : Int)] : List Int).sum = (cF feet x : Int) + cP pairs x by simp]; exact ⟨ha, hK⟩
  refine ⟨ms.map fun s => (cF feet s : Int) + cP pairs s, by rw [List.map_map]; rfl, ?_, fun m hm2 hle => hR m ?_⟩
  · rw [List.length_map]
    exact List.length_pos_of_mem ((hm 1000001).mpr (.inr rfl))
  obtain ⟨s, hs, rfl⟩ := List.mem_map.mp hm2
  obtain ⟨s0, h0, h1⟩ := most_at (feet := feet) (pairs := pairs) (top := 1000001) (fun x hx => by have := hh.fi x hx; omega) fun x hx => by have := hh.pi x hx; omega
  refine ⟨⟨s, rfl⟩, fun s' => ?_⟩
  exact Int.le_trans (hle _ (List.mem_map_of_mem ((hm s0).mpr h0))) (h1 s')
abbrev s_left_by : Stmt := topS 7
abbrev N_left_by : List Str := ["hall", "run", "taken", "_", "pair"]
theorem sc_left_by : FnScope N_left_by ["hall", "run"] (defScope s_left_by) := ⟨rfl, rfl, rfl, by decide +kernel, rfl, by decide +kernel, by decide +kernel⟩
theorem fn_left_by {f : Addr} {fd : FuncData} (F : Fun K "left_by" "left_by" s_left_by f fd) (B : Bn K mg C) : FnG P w K mg base 1 f fd ["hall", "run"] (spD K 2 c_left_by) := by
  refine fnd (k := 0) c_left_by F sc_left_by fun cdv A outer s H hgd0 hr Y => ?_
  have hu := hr.units
  have hu1 : (A.deeper (envOfC "left_by" (defScope s_left_by) s.heap.objs.size f cdv)).units + 65 < cLine := by have := hr.un; omega
  have hu0 : (A.deeper (envOfC "left_by" (defScope s_left_by) s.heap.objs.size f cdv)).units + 1 < cLine := by have := hr.un; omega
  have hgd : (A.deeper (envOfC "left_by" (defScope s_left_by) s.heap.objs.size f cdv)).guards = some [] := hgd0
  refine ⟨_, (dss_cons (ds_set (i := 2) sc_left_by.nd rfl (Or.inr rfl) (xe_d (we_ofM (me_compV (own := [("_", 3), ("pair", 4)]) rfl sc_left_by.nd (di_seqV (we_var 1)) (blkOk_by (N := N_left_by) (sc := defScope s_left_by) (by decide +kernel)) gok_two (fun _ _ _ _ _ => (pg_tup rfl (pgs_cons (pg_name (i := 3) sc_left_by.nd rfl (Or.inl rfl)) (pgs_cons (pg_name (i := 4) sc_left_by.nd rfl (Or.inl rfl)) pgs_nil)))) (fun _ _ _ _ _ => wts_nil) (fun _ _ _ _ _ => (we_var 4)) (by decide))))) (dss_one (ds_ret (we_callTy call_tuple_of ck_tuple (by rfl) B.tuple PyProof.Rows.boot_tuple (wa_cons (we_ofM (me_compV (own := [("pair", 4)]) rfl sc_left_by.nd (div_of (di_range1 (by rfl) B.range (wa_cons (we_callB call_len_seq ck_len (by rfl) B.len PySem.boot_len (wa_cons (we_ix (we_var 0) we_int (fun _ _ => rfl)) wa_nil)) wa_nil))) (blkOk_by (N := N_left_by) (sc := defScope s_left_by) (by decide +kernel)) gok_name (fun _ _ _ _ _ => (pg_name (i := 4) sc_left_by.nd rfl (Or.inl rfl))) (fun _ _ _ _ _ => (wts_one (wt_cmp (op_notInD hu1) bi_notIn (we_var 4) (we_var 2) (by rfl)))) (fun _ _ _ _ _ => (we_var 4)) (by decide))) wa_nil))))), fun as n R hl hc => ?_⟩
  obtain ⟨feet, pairs, run, rfl, hr1, hp40, hR⟩ := hc
  refine ⟨_, rfl, _, rfl, compR_m run prD (fun q => .int q.2) (small1000 (by omega)) (fun x hx acc KK ha hK => ⟨_, _, rfl, _, rfl, ha, hK⟩) ?_⟩
  refine ⟨_, rfl, 1, _, rfl, rfl, _, _, rfl, rfl, ((pairs.map PyData.int).length : Nat), rfl, by omega, by rw [List.length_map]; omega, ?_⟩
  rw [List.length_map, rng_ints]
  refine compR_p (intsN pairs.length) .int (fun j => !(run.any fun q => decide (q.2 = j))) .int (small1000 (by rw [intsN_len]; omega)) (fun x hx acc KK hK => ⟨_, rfl, _, rfl, rfl, rfl, _, rfl, rfl, ?_, _, rfl, ?_⟩) ?_
  · rw [show (run.map fun q => PyData.int q.2) = (run.map (·.2)).map PyData.int by rw [List.map_map]; rfl]
    exact sh_ints _
  · show if (!((run.map fun q => PyData.int q.2).any fun z => PyData.eqv z (.int x))) = true then _ else _
    rw [show (run.map fun q => PyData.int q.2) = (run.map (·.2)).map PyData.int by rw [List.map_map]; rfl, any_eqv, List.any_map]
    exact ite_imp (fun h => ⟨_, rfl, h⟩) id hK
  · exact ⟨_, _, rfl, rfl, hR⟩
abbrev s__large_then_small : Stmt := topS 19
abbrev N__large_then_small : List Str := ["hall", "many", "order", "begun"]
theorem sc__large_then_small : FnScope N__large_then_small ["hall", "many"] (defScope s__large_then_small) := ⟨rfl, rfl, rfl, by decide +kernel, rfl, by decide +kernel, by decide +kernel⟩
theorem fn__large_then_small {f : Addr} {fd : FuncData} (F : Fun K "_large_then_small" "_large_then_small" s__large_then_small f fd) (B : Bn K mg C) (H_order_by_feet : Has P w K mg base "order_by_feet" 1 ["hall"] c_order_by_feet) (H_large_run : Has P w K mg base "large_run" 3 ["hall", "order"] c_large_run) (H_run_by_liking : Has P w K mg base "run_by_liking" 2 ["hall", "order", "liking"] c_run_by_liking) (H__by_size : Has P w K mg base "_by_size" 1 ["hall", "pairs"] c__by_size) (H_left_by : Has P w K mg base "left_by" 1 ["hall", "run"] c_left_by) : FnG P w K mg base 4 f fd ["hall", "many"] (spD K 2 c__large_then_small) := by
  refine fnd (k := 3) c__large_then_small F sc__large_then_small fun cdv A outer s H hgd0 hr Y => ?_
  have hu := hr.units
  have hu1 : (A.deeper (envOfC "_large_then_small" (defScope s__large_then_small) s.heap.objs.size f cdv)).units + 65 < cLine := by have := hr.un; omega
  have hu0 : (A.deeper (envOfC "_large_then_small" (defScope s__large_then_small) s.heap.objs.size f cdv)).units + 1 < cLine := by have := hr.un; omega
  have hgd : (A.deeper (envOfC "_large_then_small" (defScope s__large_then_small) s.heap.objs.size f cdv)).guards = some [] := hgd0
  refine ⟨_, (dss_cons (ds_set (i := 2) sc__large_then_small.nd rfl (Or.inl rfl) (xe_d (we_has H_order_by_feet hgd (hr.mono (by decide)) (by rfl) (wa_cons (we_var 0) wa_nil)))) (dss_cons (ds_set (i := 3) sc__large_then_small.nd rfl (Or.inl rfl) (xe_d (we_slice (we_has H_large_run hgd (hr.mono (by decide)) (by rfl) (wa_cons (we_var 0) (wa_cons (we_var 2) wa_nil))) wo_none (wo_some (we_var 1))))) (dss_one (ds_ret (we_bin or_addA bi_add (we_var 3) (we_has H_run_by_liking hgd (hr.mono (by decide)) (by rfl) (wa_cons (we_var 0) (wa_cons (we_slice (we_var 2) (wo_some (we_var 1)) wo_none) (wa_cons (we_has H__by_size hgd (hr.mono (by decide)) (by rfl) (wa_cons (we_var 0) (wa_cons (we_has H_left_by hgd (hr.mono (by decide)) (by rfl) (wa_cons (we_var 0) (wa_cons (we_var 3) wa_nil))) wa_nil))) wa_nil))))))))), fun as n R hl hc => ?_⟩
  obtain ⟨feet, pairs, k, rfl, hh, hk, hR⟩ := hc
  have hf40 := hh.f2
  have hp40 := hh.p2
  have hol : (obf feet).length = feet.length := by rw [(obf_perm feet).length_eq, intsN_len]
  have hoi : InR feet.length (obf feet) := fun j hj => mem_intsN ((obf_perm feet).mem_iff.mp hj)
  refine ⟨_, rfl, rfl, feet, pairs, rfl, hf40, ?_⟩
  refine ⟨_, rfl, _, rfl, rfl, feet, pairs, obf feet, rfl, hh, hoi, by omega, ?_⟩
  refine ⟨_, rfl, _, rfl, ?_⟩
  have e1 : cutG ((largeR feet pairs).map prD) none (some (k : Int)) = (bigA feet pairs k).map prD := by rw [cut_take, ← List.map_take]; rfl
  have e2 : cutG ((obf feet).map PyData.int) (some (k : Int)) none = ((obf feet).drop k).map PyData.int := by rw [cut_drop, ← List.map_drop]
  have hbl : (bigA feet pairs k).length ≤ 40 := by
    unfold bigA
    rw [List.length_take, (large_v feet pairs).len]
    omega
  have hll : (leftL pairs.length (bigA feet pairs k)).length ≤ 40 := Nat.le_trans (List.length_filter_le _ _) (by rw [intsN_len]; exact hp40)
  have hli : InR pairs.length (leftL pairs.length (bigA feet pairs k)) := fun j hj => mem_intsN (List.mem_filter.mp hj).1
  have hsl := (bySz_perm pairs (leftL pairs.length (bigA feet pairs k))).length_eq
  refine ⟨_, rfl, _, rfl, _, rfl, _, rfl, _, rfl, _, rfl, _, rfl, _, rfl, rfl, feet, pairs, bigA feet pairs k, by rw [← e1]; rfl, by omega, hp40, ?_⟩
  refine ⟨rfl, feet, pairs, leftL pairs.length (bigA feet pairs k), _, rfl, rfl, hli, by omega, ?_⟩
  refine ⟨rfl, feet, pairs, (obf feet).drop k, bySz pairs (leftL pairs.length (bigA feet pairs k)), _, rfl, ?_, fun j hj => hoi j (List.mem_of_mem_drop hj), fun j hj => hli j ((bySz_perm _ _).mem_iff.mp hj), by rw [List.length_drop]; omega, by omega, ?_⟩
  · show seqD (.tuple (cutG ((obf feet).map PyData.int) (some (k : Int)) none)) = _
    rw [e2]; rfl
  rw [byL_fold, List.nil_append]
  rw [show cutG (List.map prD (ruled (fun j => -getI pairs j) feet pairs (obf feet))) none (some (k : Int)) = (bigA feet pairs k).map prD from e1]
  have hlen := (lts_v feet pairs k).len
  have hap : (bigA feet pairs k).map prD ++ (smallB feet pairs k).map prD = (ltsR feet pairs k).map prD := (List.map_append ..).symm
  have hlen2 : ((bigA feet pairs k).map prD ++ (smallB feet pairs k).map prD).length ≤ 40 := by rw [hap, List.length_map]; omega
  rw [List.length_append] at hlen2
  refine ⟨line1000 (Nat.le_trans hlen2 (by decide)), ?_⟩
  show R (.tuple ((bigA feet pairs k).map prD ++ (smallB feet pairs k).map prD)) n
  rw [hap]
  exact hR
abbrev s_served_by : Stmt := topS 6
abbrev N_served_by : List Str := ["hall", "run", "guest", "pair"]
theorem sc_served_by : FnScope N_served_by ["hall", "run"] (defScope s_served_by) := ⟨rfl, rfl, rfl, by decide +kernel, rfl, by decide +kernel, by decide +kernel⟩
theorem fn_served_by {f : Addr} {fd : FuncData} (F : Fun K "served_by" "served_by" s_served_by f fd) (B : Bn K mg C) : FnG P w K mg base 1 f fd ["hall", "run"] (spD K 2 c_served_by) := by
  refine fnd (k := 0) c_served_by F sc_served_by fun cdv A outer s H hgd0 hr Y => ?_
  have hu := hr.units
  have hu1 : (A.deeper (envOfC "served_by" (defScope s_served_by) s.heap.objs.size f cdv)).units + 65 < cLine := by have := hr.un; omega
  have hu0 : (A.deeper (envOfC "served_by" (defScope s_served_by) s.heap.objs.size f cdv)).units + 1 < cLine := by have := hr.un; omega
  have hgd : (A.deeper (envOfC "served_by" (defScope s_served_by) s.heap.objs.size f cdv)).guards = some [] := hgd0
  refine ⟨_, (dss_one (ds_ret (we_callTy call_tuple_of ck_tuple (by rfl) B.tuple PyProof.Rows.boot_tuple (wa_cons (we_ofM (me_callB cr_sortedI ck_sortI (by rfl) B.sorted PyProof.Rows.boot_sorted (wa_cons (we_ofM (me_compV (own := [("guest", 2), ("pair", 3)]) rfl sc_served_by.nd (di_seqV (we_var 1)) (blkOk_by (N := N_served_by) (sc := defScope s_served_by) (by decide +kernel)) gok_two (fun _ _ _ _ _ => (pg_tup rfl (pgs_cons (pg_name (i := 2) sc_served_by.nd rfl (Or.inl rfl)) (pgs_cons (pg_name (i := 3) sc_served_by.nd rfl (Or.inl rfl)) pgs_nil)))) (fun _ _ _ _ _ => (wts_one (wt_cmp (or_neA hu) bi_neA (we_var 3) (we_gint (by rfl) B.NO_PAIR.choose_spec) (nomark _)))) (fun _ _ _ _ _ => (we_var 2)) (by decide))) wa_nil))) wa_nil)))), fun as n R hl hc => ?_⟩
  obtain ⟨feet, pairs, run, rfl, hr1, hr2, hR⟩ := hc
  have hrl := hr1.len
  refine ⟨_, rfl, _, rfl, compR_p run prD (fun q => decide (q.2 ≠ -1)) (fun q => .int q.1) (small1000 (by omega)) (fun x hx acc KK hK => ⟨_, _, rfl, _, rfl, rfl, rfl, rfl, rfl, _, rfl, ?_⟩) ?_⟩
  · show if (!PyData.eqv (.int x.2) (.int (-1))) = true then _ else _
    rw [eqv_int, show (!decide (x.2 = -1)) = decide (x.2 ≠ -1) by simp]
    exact ite_imp (fun h => ⟨_, rfl, h⟩) id hK
  refine ⟨_, (run.filter fun q => decide (q.2 ≠ -1)).map (·.1), rfl, by rw [List.map_map]; rfl, fun ns' hp hs => ?_⟩
  rw [shod_uniq hr1 hp hs]
  exact ⟨_, _, rfl, rfl, hR⟩
abbrev s_run_with : Stmt := topS 20
abbrev N_run_with : List Str := ["hall", "number", "many", "run"]
theorem sc_run_with : FnScope N_run_with ["hall", "number"] (defScope s_run_with) := ⟨rfl, rfl, rfl, by decide +kernel, rfl, by decide +kernel, by decide +kernel⟩
theorem fn_run_with {f : Addr} {fd : FuncData} (F : Fun K "run_with" "run_with" s_run_with f fd) (B : Bn K mg C) (H__large_then_small : Has P w K mg base "_large_then_small" 4 ["hall", "many"] c__large_then_small) (H_served_by : Has P w K mg base "served_by" 1 ["hall", "run"] c_served_by) : FnG P w K mg base 5 f fd ["hall", "number"] (spD K 2 c_run_with) := by
  refine fnd (k := 4) c_run_with F sc_run_with fun cdv A outer s H hgd0 hr Y => ?_
  have hu := hr.units
  have hu1 : (A.deeper (envOfC "run_with" (defScope s_run_with) s.heap.objs.size f cdv)).units + 65 < cLine := by have := hr.un; omega
  have hu0 : (A.deeper (envOfC "run_with" (defScope s_run_with) s.heap.objs.size f cdv)).units + 1 < cLine := by have := hr.un; omega
  have hgd : (A.deeper (envOfC "run_with" (defScope s_run_with) s.heap.objs.size f cdv)).guards = some [] := hgd0
  refine ⟨_, (dss_cons (ds_for PassesOwn.never rfl (di_range1 (by rfl) B.range (wa_cons (we_bin or_addA bi_add (we_callB call_len_seq ck_len (by rfl) B.len PySem.boot_len (wa_cons (we_ix (we_var 0) we_int (fun _ _ => rfl)) wa_nil)) we_int) wa_nil)) ⟨(pg_name (i := 2) sc_run_with.nd rfl (Or.inl rfl)), gok_name⟩ (dss_cons (ds_set (i := 3) sc_run_with.nd rfl (Or.inl rfl) (xe_d (we_has H__large_then_small hgd (hr.mono (by decide)) (by rfl) (wa_cons (we_var 0) (wa_cons (we_var 2) wa_nil))))) (dss_one (ds_if (wt_cmp (or_eqA hu) bi_eqA (we_callB call_len_seq ck_len (by rfl) B.len PySem.boot_len (wa_cons (we_has H_served_by hgd (hr.mono (by decide)) (by rfl) (wa_cons (we_var 0) (wa_cons (we_var 3) wa_nil))) wa_nil)) (we_var 1) (nomark _)) (dss_one (ds_ret (we_var 3))) dss_nil)))) (dss_one (ds_ret we_non))), fun as n R hl hc => ?_⟩
  obtain ⟨feet, pairs, num, rfl, hh, hR⟩ := hc
  have hf40 := hh.f2
  refine ⟨_, rfl, 0, _, rfl, rfl, _, _, rfl, rfl, _, rfl, by omega, by rw [List.length_map]; omega, ?_⟩
  refine forR_inv (fun k ρ n' => n' = n ∧ (∀ j < k, (srv (ltsR feet pairs j) : Int) ≠ num) ∧ ∃ a2 a3, ρ = [some (.dat (hallD feet pairs)), some (.dat (.int num)), a2, a3])
    ⟨rfl, fun _ h => absurd h (Nat.not_lt_zero _), none, none, rfl⟩ ?_ ?_
  · rintro k x ρ n' hx ⟨rfl, hlt, a2, a3, rfl⟩
    obtain ⟨rfl, hk⟩ := rngD_mem hx
    rw [List.length_map] at hk
    have hk8 : k ≤ feet.length := by omega
    have hv := lts_v feet pairs k
    refine ⟨_, rfl, _, rfl, rfl, feet, pairs, k, by rw [Int.zero_add], hh, hk8, ?_⟩
    refine ⟨_, rfl, _, rfl, rfl, feet, pairs, ltsR feet pairs k, rfl, hv.ok, hf40, _, _, rfl, rfl, _, rfl, rfl, rfl, rfl, rfl, _, rfl, ite2 (fun h => ?_) fun h => ?_⟩
    · have h := of_decide_eq_true ((eqv_int _ _).symm.trans h)
      rw [List.length_map, shod_len hv.ok] at h
      have e2 : withR feet pairs num = some k := find_some (by omega) (decide_eq_true h) fun j hj => decide_eq_false (hlt j hj)
      unfold withD at hR
      rw [e2] at hR
      exact ⟨_, rfl, hR⟩
    · have h : ¬ (srv (ltsR feet pairs k) : Int) = num := fun q => h ((eqv_int _ _).trans (decide_eq_true (by rw [List.length_map, shod_len hv.ok]; exact q)))
      refine ⟨rfl, fun j hj => ?_, _, _, rfl⟩
      rcases Nat.lt_succ_iff_lt_or_eq.mp hj with q | rfl
      · exact hlt j q
      · exact h
  · rintro ρ n' ⟨rfl, hlt, a2, a3, rfl⟩
    have e2 : withR feet pairs num = none := find_none fun j hj => decide_eq_false (hlt j (by rw [rngD_length, List.length_map]; omega))
    unfold withD at hR
    rw [e2] at hR
    exact hR
abbrev s__law_ends_right : Stmt := topS 31
abbrev N__law_ends_right : List Str := ["hall", "low", "high", "found", "number"]
theorem sc__law_ends_right : FnScope N__law_ends_right ["hall"] (defScope s__law_ends_right) := ⟨rfl, rfl, rfl, by decide +kernel, rfl, by decide +kernel, by decide +kernel⟩
theorem fn__law_ends_right {f : Addr} {fd : FuncData} (F : Fun K "_law_ends_right" "_law_ends_right" s__law_ends_right f fd) (B : Bn K mg C) (H_fewest_served : Has P w K mg base "fewest_served" 3 ["hall"] c_fewest_served) (H_most_served : Has P w K mg base "most_served" 3 ["hall"] c_most_served) (H_run_with : Has P w K mg base "run_with" 5 ["hall", "number"] c_run_with) : FnG P w K mg base 6 f fd ["hall"] (spD K 1 c__law_ends_right) := by
  refine fnd (k := 5) c__law_ends_right F sc__law_ends_right fun cdv A outer s H hgd0 hr Y => ?_
  have hu := hr.units
  have hu1 : (A.deeper (envOfC "_law_ends_right" (defScope s__law_ends_right) s.heap.objs.size f cdv)).units + 65 < cLine := by have := hr.un; omega
  have hu0 : (A.deeper (envOfC "_law_ends_right" (defScope s__law_ends_right) s.heap.objs.size f cdv)).units + 1 < cLine := by have := hr.un; omega
  have hgd : (A.deeper (envOfC "_law_ends_right" (defScope s__law_ends_right) s.heap.objs.size f cdv)).guards = some [] := hgd0
  refine ⟨_, (dss_cons (ds_par (i := 1) (j := 2) rfl sc__law_ends_right.nd rfl rfl (by decide) rfl rfl (xe_d (we_has H_fewest_served hgd (hr.mono (by decide)) (by rfl) (wa_cons (we_var 0) wa_nil))) (xe_d (we_has H_most_served hgd (hr.mono (by decide)) (by rfl) (wa_cons (we_var 0) wa_nil))) (by rfl)) (dss_cons (ds_setLcV (i := 3) (u := xD (dOfM _)) (hyl := rfl) (hy := rfl) (hsw := sw_true rfl rfl rfl (by decide +kernel)) (hu := lc_dat) (own := [("number", 4)]) (hc := rfl) (hN := sc__law_ends_right.nd) (hi := (div_of (di_range2 (by rfl) B.range (wa_cons (we_callB (call_maxA rfl) ck_max (by rfl) B.max PyProof.Rows.boot_max (wa_cons we_int (wa_cons (we_bin op_sub bi_I0 (we_var 1) we_int) wa_nil))) (wa_cons (we_bin or_addA bi_add (we_var 2) we_int) wa_nil))))) (ok := (blkOk_by (N := N__law_ends_right) (sc := defScope s__law_ends_right) (by decide +kernel))) (hk := gok_name) (hg := fun _ _ _ _ _ => (pg_name (i := 4) sc__law_ends_right.nd rfl (Or.inl rfl))) (ht := fun _ _ _ _ _ => wts_nil) (he := fun _ _ _ _ _ => (we_cmp op_notN bi_notN (we_has H_run_with hgd (hr.mono (by decide)) (by rfl) (wa_cons (we_var 0) (wa_cons (we_var 4) wa_nil))) we_non (nomark _))) (hv := by decide)) (dss_one (ds_ret (we_cmp (or_eqA hu) bi_eqA (we_var 3) (we_bin or_addA bi_add (we_bin or_addA bi_add (we_bin or_mulA bi_mul (we_ofM (me_lst (wa_cons we_bl wa_nil))) (we_callTy call_int1 ck_int (by rfl) B.int PyProof.Rows.boot_int (wa_cons (we_cmp op_gt bi_B0 (we_var 1) we_int (nomark _)) wa_nil))) (we_bin or_mulA bi_mul (we_ofM (me_lst (wa_cons we_bl wa_nil))) (we_bin or_addA bi_add (we_bin op_sub bi_I0 (we_var 2) (we_var 1)) we_int))) (we_ofM (me_lst (wa_cons we_bl wa_nil)))) (nomark _)))))), fun as n R hl hc => ?_⟩
  obtain ⟨feet, pairs, rfl, hh, hR⟩ := hc
  have hf40 := hh.f2
  refine ⟨_, rfl, rfl, feet, pairs, rfl, hh, fun f hf => ⟨_, rfl, rfl, feet, pairs, rfl, hh, fun m hm => ?_⟩⟩
  have f0 := few_0 hf
  have fm := few_most hf hm
  have m9 : m ≤ 80 := by
    have h1 := hm.2 0
    have h2 : cF feet 0 ≤ feet.length := List.length_filter_le _ _
    have h3 : cP pairs 0 ≤ pairs.length := List.length_filter_le _ _
    have := hh.p2
    omega
  obtain ⟨lo, hlo⟩ : ∃ lo : Int, lo = if f > 0 then f - 1 else 0 := ⟨_, rfl⟩
  have hmx : (if f - 1 > 0 then f - 1 else 0) = lo := by
    rw [hlo]
    split <;> split <;> omega
  have hlo0 : 0 ≤ lo ∧ lo ≤ f := by
    rw [hlo]
    split <;> omega
  refine ⟨_, rfl, _, rfl, _, _, rfl, ⟨by rw [hmx]; omega, by rw [hmx]; omega, by omega, by omega⟩, ?_⟩
  rw [hmx]
  obtain ⟨N, hN⟩ : ∃ N : Nat, N = (m + 2 - lo).toNat := ⟨_, rfl⟩
  rw [← hN]
  have hr : rngD lo N = ((List.range N).map fun (k : Nat) => lo + (k : Int)).map PyData.int := by
    unfold rngD
    rw [List.map_map]
    rfl
  rw [hr]
  refine compR_m ((List.range N).map fun (k : Nat) => lo + (k : Int)) .int (fun i => .bool (decide (f ≤ i ∧ i ≤ m))) (small1000 (by rw [List.length_map, List.length_range]; omega)) (fun x hx acc KK ha hK => ?_) ?_
  · have e : PyData.bool (!isN (withD feet pairs x)) = .bool (decide (f ≤ x ∧ x ≤ m)) := by
      rcases with_form hf hm x with ⟨h1, h2, W, e, _⟩ | ⟨h1, e⟩
      · rw [e, decide_eq_true ⟨h1, h2⟩]
        rfl
      · rw [e, decide_eq_false h1]
        rfl
    rw [← e] at hK
    exact ⟨_, rfl, _, rfl, rfl, feet, pairs, x, rfl, hh, rfl, rfl, ha, hK⟩
  have hb : ((List.range N).map fun (k : Nat) => lo + (k : Int)).map (fun i => PyData.bool (decide (f ≤ i ∧ i ≤ m))) = (List.replicate (if f > 0 then 1 else 0) false ++ List.replicate (m - f + 1).toNat true ++ [false]).map PyData.bool := by
    rw [← ends_form f0 fm hlo (show (N : Int) = m + 2 - lo by omega), List.map_map, List.map_map, List.map_map]
    rfl
  rw [hb]
  have z : (if decide (0 < f) = true then (1 : Int) else 0).toNat = if f > 0 then 1 else 0 := by
    by_cases q : 0 < f
    · rw [if_pos (decide_eq_true q), if_pos q]; rfl
    · rw [if_neg (by simp [q]), if_neg q]; rfl
  have z1 : (if f > 0 then 1 else 0 : Nat) ≤ 1 := by split <;> omega
  have he : (List.replicate (if decide (0 < f) = true then (1 : Int) else 0).toNat [PyData.bool false]).flatten ++ (List.replicate (m - f + 1).toNat [PyData.bool true]).flatten ++ [PyData.bool false] = (List.replicate (if f > 0 then 1 else 0) false ++ List.replicate (m - f + 1).toNat true ++ [false]).map PyData.bool := by
    rw [z, List.flatten_replicate_singleton, List.flatten_replicate_singleton, List.map_append, List.map_append, List.map_replicate, List.map_replicate]
    rfl
  refine ⟨_, rfl, by show 1 ≤ sizeLine; decide, _, rfl, by split <;> decide, by split <;> decide, ?_, by show 1 ≤ sizeLine; decide, _, rfl, _, rfl, by omega, by omega, ?_, ?_, by show 1 ≤ sizeLine; decide, ?_, rfl, rfl, sh_bools _, ?_, ?_⟩
  · rw [z]; exact line1000 (by show 1 * _ ≤ 1000; omega)
  · exact line1000 (by show 1 * _ ≤ 1000; omega)
  · rw [z, List.flatten_replicate_singleton, List.flatten_replicate_singleton, List.length_replicate, List.length_replicate]
    exact line1000 (by omega)
  · rw [z, List.flatten_replicate_singleton, List.flatten_replicate_singleton, List.length_append, List.length_replicate, List.length_replicate]
    exact line1000 (by show _ + 1 ≤ 1000; omega)
  · rw [he]; exact sh_bools _
  · rw [he]
    show R (.bool (PyData.eqv (.list _) (.list _))) n
    rw [eqv_bools, decide_eq_true rfl]
    exact hR
abbrev s_run_leaving : Stmt := topS 23
abbrev N_run_leaving : List Str := ["hall", "pair", "others", "run", "other"]
theorem sc_run_leaving : FnScope N_run_leaving ["hall", "pair"] (defScope s_run_leaving) := ⟨rfl, rfl, rfl, by decide +kernel, rfl, by decide +kernel, by decide +kernel⟩
theorem fn_run_leaving {f : Addr} {fd : FuncData} (F : Fun K "run_leaving" "run_leaving" s_run_leaving f fd) (B : Bn K mg C) (H_run_by_liking : Has P w K mg base "run_by_liking" 2 ["hall", "order", "liking"] c_run_by_liking) (H_order_by_feet : Has P w K mg base "order_by_feet" 1 ["hall"] c_order_by_feet) (H_left_by : Has P w K mg base "left_by" 1 ["hall", "run"] c_left_by) (H__by_size : Has P w K mg base "_by_size" 1 ["hall", "pairs"] c__by_size) : FnG P w K mg base 3 f fd ["hall", "pair"] (spD K 2 c_run_leaving) := by
  refine fnd (k := 2) c_run_leaving F sc_run_leaving fun cdv A outer s H hgd0 hr Y => ?_
  have hu := hr.units
  have hu1 : (A.deeper (envOfC "run_leaving" (defScope s_run_leaving) s.heap.objs.size f cdv)).units + 65 < cLine := by have := hr.un; omega
  have hu0 : (A.deeper (envOfC "run_leaving" (defScope s_run_leaving) s.heap.objs.size f cdv)).units + 1 < cLine := by have := hr.un; omega
  have hgd : (A.deeper (envOfC "run_leaving" (defScope s_run_leaving) s.heap.objs.size f cdv)).guards = some [] := hgd0
  refine ⟨_, (dss_cons (ds_setLcV (i := 2) (u := xD (dOfM _)) (hyl := rfl) (hy := rfl) (hsw := sw_true rfl rfl rfl (by decide +kernel)) (hu := lc_dat) (own := [("other", 4)]) (hc := rfl) (hN := sc_run_leaving.nd) (hi := (div_of (di_range1 (by rfl) B.range (wa_cons (we_callB call_len_seq ck_len (by rfl) B.len PySem.boot_len (wa_cons (we_ix (we_var 0) we_int (fun _ _ => rfl)) wa_nil)) wa_nil)))) (ok := (blkOk_by (N := N_run_leaving) (sc := defScope s_run_leaving) (by decide +kernel))) (hk := gok_name) (hg := fun _ _ _ _ _ => (pg_name (i := 4) sc_run_leaving.nd rfl (Or.inl rfl))) (ht := fun _ _ _ _ _ => (wts_one (wt_cmp (or_neA hu) bi_neA (we_var 4) (we_var 1) (nomark _)))) (he := fun _ _ _ _ _ => (we_var 4)) (hv := by decide)) (dss_cons (ds_set (i := 3) sc_run_leaving.nd rfl (Or.inl rfl) (xe_d (we_has H_run_by_liking hgd (hr.mono (by decide)) (by rfl) (wa_cons (we_var 0) (wa_cons (we_has H_order_by_feet hgd (hr.mono (by decide)) (by rfl) (wa_cons (we_var 0) wa_nil)) (wa_cons (we_bin or_addA bi_add (we_has H__by_size hgd (hr.mono (by decide)) (by rfl) (wa_cons (we_var 0) (wa_cons (we_var 2) wa_nil))) (we_ofM (me_lst (wa_cons (we_var 1) wa_nil)))) wa_nil)))))) (dss_cons (ds_if (wt_cmp (op_notInDT hu1) (bi_inT true) (we_var 1) (we_has H_left_by hgd (hr.mono (by decide)) (by rfl) (wa_cons (we_var 0) (wa_cons (we_var 3) wa_nil))) (by rfl)) (dss_one (ds_ret we_non)) dss_nil) (dss_one (ds_ret (we_var 3)))))), fun as n R hl hc => ?_⟩
  obtain ⟨feet, pairs, p, rfl, hh, hp1, hp2, hR⟩ := hc
  have hf40 := hh.f2
  have hp40 := hh.p2
  have hpm : p ∈ intsN pairs.length := mem_ints hp1 hp2
  have hol : (othersG pairs.length p).length ≤ 40 := Nat.le_trans (List.length_filter_le _ _) (by rw [intsN_len]; exact hp40)
  have hoi : InR pairs.length (othersG pairs.length p) := fun j hj => mem_intsN (List.mem_filter.mp hj).1
  have hbl := (bySz_perm pairs (othersG pairs.length p)).length_eq
  have hobl : (obf feet).length = feet.length := by rw [(obf_perm feet).length_eq, intsN_len]
  refine ⟨_, rfl, 1, _, rfl, rfl, _, _, rfl, rfl, ((pairs.map PyData.int).length : Nat), rfl, by omega, by rw [List.length_map]; omega, ?_⟩
  rw [List.length_map, rng_ints]
  refine compR_p (intsN pairs.length) .int (fun o => decide (o ≠ p)) .int (small1000 (by rw [intsN_len]; omega)) (fun x hx acc KK hK => ⟨_, rfl, _, rfl, rfl, rfl, rfl, rfl, _, rfl, ?_⟩) ?_
  · show if (!PyData.eqv (.int x) (.int p)) = true then _ else _
    rw [eqv_int, show (!decide (x = p)) = decide (x ≠ p) by simp]
    exact ite_imp (fun h => ⟨_, rfl, h⟩) id hK
  refine ⟨_, rfl, _, rfl, rfl, feet, pairs, rfl, hf40, _, rfl, _, rfl, rfl, feet, pairs, othersG pairs.length p, _, rfl, rfl, hoi, by omega, _, rfl, by show 1 ≤ sizeLine; decide, line1000 (by rw [List.length_map, hbl]; show _ + 1 ≤ 1000; omega), rfl, feet, pairs, obf feet, bySz pairs (othersG pairs.length p) ++ [p], _, by rw [List.map_append]; rfl, rfl, fun j hj => mem_intsN ((obf_perm feet).mem_iff.mp hj), fun j hj => mem_intsN ((likeP_perm hpm).mem_iff.mp hj), by omega, by rw [List.length_append, hbl]; show _ + 1 ≤ 100; omega, ?_⟩
  rw [byL_fold, List.nil_append]
  have hv := (leaving_v (feet := feet) hpm)
  have el : (byL feet pairs (bySz pairs (othersG pairs.length p) ++ [p]) (obf feet)) = leavingR feet pairs p := rfl
  rw [el]
  refine ⟨_, rfl, _, rfl, _, rfl, rfl, feet, pairs, leavingR feet pairs p, rfl, by rw [hv.len]; omega, hp40, rfl, rfl, _, rfl, rfl, sh_tints _, _, rfl, ?_⟩
  show if (!(((leftL pairs.length (leavingR feet pairs p)).map PyData.int).any fun z => PyData.eqv z (.int p))) = true then _ else _
  unfold leavingD at hR
  rcases leaving_form (feet := feet) hpm with ⟨h, _, _, hm⟩ | ⟨h, _⟩
  · rw [if_pos h] at hR
    exact ninF ((leftL_mem hpm).mpr hm) ⟨_, rfl, hR⟩
  · rw [if_neg (by rw [h]; decide)] at hR
    refine ninT (fun hm => ?_) hR
    have := left_serve hv hpm ((leftL_mem hpm).mp hm)
    rw [h] at this
    exact absurd this Bool.false_ne_true
abbrev s_run_without : Stmt := topS 22
abbrev N_run_without : List Str := ["hall", "guest", "others", "run", "other"]
theorem sc_run_without : FnScope N_run_without ["hall", "guest"] (defScope s_run_without) := ⟨rfl, rfl, rfl, by decide +kernel, rfl, by decide +kernel, by decide +kernel⟩
theorem fn_run_without {f : Addr} {fd : FuncData} (F : Fun K "run_without" "run_without" s_run_without f fd) (B : Bn K mg C) (H__run_against : Has P w K mg base "_run_against" 3 ["hall", "others", "guest"] c__run_against) : FnG P w K mg base 4 f fd ["hall", "guest"] (spD K 2 c_run_without) := by
  refine fnd (k := 3) c_run_without F sc_run_without fun cdv A outer s H hgd0 hr Y => ?_
  have hu := hr.units
  have hu1 : (A.deeper (envOfC "run_without" (defScope s_run_without) s.heap.objs.size f cdv)).units + 65 < cLine := by have := hr.un; omega
  have hu0 : (A.deeper (envOfC "run_without" (defScope s_run_without) s.heap.objs.size f cdv)).units + 1 < cLine := by have := hr.un; omega
  have hgd : (A.deeper (envOfC "run_without" (defScope s_run_without) s.heap.objs.size f cdv)).guards = some [] := hgd0
  refine ⟨_, (dss_cons (ds_setLcV (i := 2) (u := xD (dOfM _)) (hyl := rfl) (hy := rfl) (hsw := sw_true rfl rfl rfl (by decide +kernel)) (hu := lc_dat) (own := [("other", 4)]) (hc := rfl) (hN := sc_run_without.nd) (hi := (div_of (di_range1 (by rfl) B.range (wa_cons (we_callB call_len_seq ck_len (by rfl) B.len PySem.boot_len (wa_cons (we_ix (we_var 0) we_int (fun _ _ => rfl)) wa_nil)) wa_nil)))) (ok := (blkOk_by (N := N_run_without) (sc := defScope s_run_without) (by decide +kernel))) (hk := gok_name) (hg := fun _ _ _ _ _ => (pg_name (i := 4) sc_run_without.nd rfl (Or.inl rfl))) (ht := fun _ _ _ _ _ => (wts_one (wt_cmp (or_neA hu) bi_neA (we_var 4) (we_var 1) (nomark _)))) (he := fun _ _ _ _ _ => (we_var 4)) (hv := by decide)) (dss_cons (ds_set (i := 3) sc_run_without.nd rfl (Or.inl rfl) (xe_d (we_has H__run_against hgd (hr.mono (by decide)) (by rfl) (wa_cons (we_var 0) (wa_cons (we_var 2) (wa_cons (we_var 1) wa_nil)))))) (dss_cons (ds_if (wt_cmp (or_neA hu) bi_neA (we_ix (we_var 3) (we_neg we_int) (fun _ _ => rfl)) (we_tup (wa_cons (we_var 1) (wa_cons (we_gint (by rfl) B.NO_PAIR.choose_spec) wa_nil))) (nomark _)) (dss_one (ds_ret we_non)) dss_nil) (dss_one (ds_ret (we_var 3)))))), fun as n R hl hc => ?_⟩
  obtain ⟨feet, pairs, g, rfl, hh, hg1, hg2, hR⟩ := hc
  have hf40 := hh.f2
  have hgm : g ∈ intsN feet.length := List.mem_map.mpr ⟨g.toNat, List.mem_range.mpr (by omega), by omega⟩
  refine ⟨_, rfl, 0, _, rfl, rfl, _, _, rfl, rfl, ((feet.map PyData.int).length : Nat), rfl, by omega, by rw [List.length_map]; omega, ?_⟩
  rw [List.length_map, rng_ints]
  refine compR_p (intsN feet.length) .int (fun o => decide (o ≠ g)) .int (small1000 (by rw [intsN_len]; omega)) (fun x hx acc KK hK => ⟨_, rfl, _, rfl, rfl, rfl, rfl, rfl, _, rfl, ?_⟩) ?_
  · show if (!PyData.eqv (.int x) (.int g)) = true then _ else _
    rw [eqv_int, show (!decide (x = g)) = decide (x ≠ g) by simp]
    exact ite_imp (fun h => ⟨_, rfl, h⟩) id hK
  refine ⟨_, rfl, _, rfl, _, rfl, rfl, feet, pairs, othersG feet.length g, g, _, rfl, rfl, hh, hg1, hg2, ?_⟩
  have hv := against_v (pairs := pairs) hgm
  unfold withoutD at hR
  obtain ⟨a, j, ha⟩ : ∃ a j, againstR feet pairs (othersG feet.length g) g = a ++ [(g, j)] := byL_last feet pairs g _ _
  rw [ha] at hv hR ⊢
  have hat : atI ((a ++ [(g, j)]).map prD) (-1) = some (prD (g, j)) := by
    rw [List.map_append]
    exact atI_lastG _ _
  refine ⟨_, rfl, -1, _, rfl, hat, _, rfl, by show 2 ≤ sizeLine; decide, rfl, rfl, rfl, rfl, _, rfl, ?_⟩
  show if (!PyData.eqv (.tuple [.int g, .int j]) (.tuple [.int g, .int (-1)])) = true then _ else _
  rw [eqv_pr]
  by_cases hj : j = -1
  · have hct := miss_take hv (g := g) (by rw [hj]; simp)
    rw [if_pos hct] at hR
    rw [hj]
    refine ifN (by simp) ⟨_, rfl, ?_⟩
    rw [hj] at hR
    exact hR
  · have hct : ¬ canTake (othF feet g) (fitS feet pairs g) = true := fun q => hj (take_miss hv q)
    rw [if_neg hct] at hR
    exact ifNF (by simp [hj]) hR
/-- a def of the module with any promise -/
def HasS (P : Program) (w : World) (K : PySem.W.Frag) (mg : Str → Option Value) (base : Heap) (x : Str) (k : Nat) (ps : List Str) (sp : Sp) : Prop :=
  ∃ f fd, mg x = some (.ref f) ∧ PySem.W.keepIn K (.ref f) = true ∧ Binds K fd ps [] ∧ FnG P w K mg base k f fd ps sp
theorem pe_hasS {X : Cx} {k : Nat} {ps : List Str} {sp : Sp} {x : Str} {p pos : Pos} {e : Expr} {es : List Expr} {t : TA} (h : HasS X.prog X.w X.K X.mg X.base x k ps sp) (hgd : X.A.guards = some []) (hr : Room k X.A) (hg : Gl X x)
    (ha : PA X (e :: es) t) (hdb : (x == ("__debug__" : Str)) = false := by decide) (he : starEach (e :: es) X.env = (false, eval e X.env) :: starEach es X.env := by rfl) (hpl : (backTo pos (starEach es X.env)).any (·.1) = false := by rfl) :
    PE X (.Call (.Name x p) (e :: es) [] pos) (fun σ H Q => t σ H fun vs H1 => sp vs H1 Q E0) := by
  obtain ⟨f, fd, h1, h2, h3, h4⟩ := h
  exact pe_callg h4 hgd hr hg h1 h2 h3 ha hdb he hpl
theorem spDeckB_ok {K : PySem.W.Frag} (a : Addr) (ns : List Int) (H : Hp) (Q : VK) (hS : SqL K H a (ns.map V.int)) (hl : ns.length ≤ 63)
    (k : ∀ (H' : Hp) (δ : DkS) (p : Addr), Same H H' → IsDk true δ p → δ.at0 H' 0 → (∀ b, b ∈ δ.own → H' b ≠ none) → Q (.ref p) H') : spDeckB K [.ref a] H Q E0 :=
  ⟨a, ns, rfl, hS, hl, fun H' p q r s _ _ _ hat => k H' (dkB p q r) p s ⟨q, r, rfl⟩ hat fun b hb => by
    obtain ⟨cells, rests, h1, h2, h3, _⟩ := hat
    simp only [dkB, List.mem_cons, List.not_mem_nil, or_false] at hb
    rcases hb with rfl | rfl | rfl
    · rw [h1]; nofun
    · rw [h2]; nofun
    · rw [h3]; nofun⟩
abbrev s_law : Stmt := topS 32
abbrev N_law : List Str := ["script", "drawn", "turn", "hall", "many", "order", "guest", "last", "run", "rows", "found", "other", "pair", "size"]
theorem sc_law : FnScope N_law ["script"] (defScope s_law) := ⟨rfl, rfl, rfl, by decide +kernel, rfl, by decide +kernel, by decide +kernel⟩
theorem fn_law {f : Addr} {fd : FuncData} (F : Fun K "law" "law" s_law f fd) (B : Bn K mg C) (HD : HasS P w K mg base "_law_draws" 1 ["script"] (spDeckB K)) (H__law_hall : Has P w K mg base "_law_hall" 2 ["drawn", "guests", "most"] c__law_hall) (H__law_order : Has P w K mg base "_law_order" 2 ["drawn", "many"] c__law_order) (H_can_miss : Has P w K mg base "can_miss" 4 ["hall", "order", "guest"] c_can_miss) (H_small_run : Has P w K mg base "small_run" 3 ["hall", "order"] c_small_run) (H_large_run : Has P w K mg base "large_run" 3 ["hall", "order"] c_large_run) (H__law_moved_right : Has P w K mg base "_law_moved_right" 5 ["hall", "order", "spot"] c__law_moved_right) (H__law_ends_right : Has P w K mg base "_law_ends_right" 6 ["hall"] c__law_ends_right) (H_run_leaving : Has P w K mg base "run_leaving" 3 ["hall", "pair"] c_run_leaving) (H_run_without : Has P w K mg base "run_without" 4 ["hall", "guest"] c_run_without) (H_counts_at : Has P w K mg base "counts_at" 1 ["hall", "size"] c_counts_at) (H__law_next : Has P w K mg base "_law_next" 1 ["drawn", "many"] c__law_next) : FnG P w K mg base 7 f fd ["script"] (spLaw K) := by
  refine law_start (N := N_law) (k := 6) (m := 12) (kd := true) (spD0 := spDeckB) F sc_law rfl rfl spDeckB_ok fun cdv A outer s H hgd0 hr => ?_
  have hu := hr.units
  have hu1 : (A.deeper (envOfC "law" (defScope s_law) s.heap.objs.size f cdv)).units + 65 < cLine := by have := hr.un; omega
  have hu0 : (A.deeper (envOfC "law" (defScope s_law) s.heap.objs.size f cdv)).units + 1 < cLine := by have := hr.un; omega
  have hgd : (A.deeper (envOfC "law" (defScope s_law) s.heap.objs.size f cdv)).guards = some [] := hgd0
  refine ⟨ps_set (i := 1) sc_law.nd rfl (Or.inl rfl) (pe_hasS HD hgd (hr.mono (by decide)) (by rfl) (pa_cons (pv 0) pa_nil)), fun Y => ⟨_, (dss_cons (ds_for PassesOwn.never rfl (di_range1 (by rfl) B.range (wa_cons we_int wa_nil)) ⟨(pg_name (i := 2) sc_law.nd rfl (Or.inl rfl)), gok_name⟩ (dss_cons (ds_set (i := 3) sc_law.nd rfl (Or.inr rfl) (xe_d (we_has H__law_hall hgd (hr.mono (by decide)) (by rfl) (wa_cons (we_var 1) (wa_cons we_int (wa_cons we_int wa_nil)))))) (dss_cons (ds_parT (i := 4) (j := 5) rfl (by decide) (pgs_cons (pg_name (i := 4) sc_law.nd rfl (Or.inl rfl)) (pgs_cons (pg_name (i := 5) sc_law.nd rfl (Or.inr rfl)) pgs_nil)) (xe_d (we_callB call_len_seq ck_len (by rfl) B.len PySem.boot_len (wa_cons (we_ix (we_var 3) we_int (fun _ _ => rfl)) wa_nil))) (xe_d (we_has H__law_order hgd (hr.mono (by decide)) (by rfl) (wa_cons (we_var 1) (wa_cons (we_callB call_len_seq ck_len (by rfl) B.len PySem.boot_len (wa_cons (we_ix (we_var 3) we_int (fun _ _ => rfl)) wa_nil)) wa_nil)))) (by rfl)) (dss_cons (ds_for PassesOwn.never rfl (di_range1 (by rfl) B.range (wa_cons (we_var 4) wa_nil)) ⟨(pg_name (i := 6) sc_law.nd rfl (Or.inr rfl)), gok_name⟩ (dss_cons (ds_set (i := 7) sc_law.nd rfl (Or.inl rfl) (xe_d (we_bin op_catC bi_catC (we_callTy call_tupC ck_tupC (by rfl) B.tuple PyProof.Rows.boot_tuple (wa_cons (we_ofM (me_compV (own := [("other", 11)]) rfl sc_law.nd (di_seqV (we_unc (we_var 5))) (blkOk_by (N := N_law) (sc := defScope s_law) (by decide +kernel)) gok_name (fun _ _ _ _ _ => (pg_name (i := 11) sc_law.nd rfl (Or.inl rfl))) (fun _ _ _ _ _ => (wts_one (wt_cmp (or_neA hu) bi_neA (we_var 11) (we_var 6) (nomark _)))) (fun _ _ _ _ _ => (we_var 11)) (by decide))) wa_nil)) (we_tupD (wa_cons (we_var 6) wa_nil))))) (dss_one (ds_if (wt_cmp (or_neA hu) bi_neA (we_has H_can_miss hgd (hr.mono (by decide)) (by rfl) (wa_cons (we_var 3) (wa_cons (we_var 7) (wa_cons (we_var 6) wa_nil)))) (we_cmp op_notN bi_notN (we_has H_run_without hgd (hr.mono (by decide)) (by rfl) (wa_cons (we_var 3) (wa_cons (we_var 6) wa_nil))) we_non (nomark _)) (nomark _)) (dss_one (ds_ret we_bl)) dss_nil)))) (dss_cons (ds_if (wt_cmp (or_neA hu) bi_neA (we_has H_can_miss hgd (hr.mono (by decide)) (by rfl) (wa_cons (we_var 3) (wa_cons (we_var 5) (wa_cons (we_ix (we_unc (we_var 5)) we_int (fun _ _ => rfl)) wa_nil)))) (we_cmp (or_eqA hu) bi_eqA (we_ix (we_has H_counts_at hgd (hr.mono (by decide)) (by rfl) (wa_cons (we_var 3) (wa_cons (we_ix (we_ix (we_var 3) we_int (fun _ _ => rfl)) (we_ix (we_unc (we_var 5)) we_int (fun _ _ => rfl)) (fun _ _ => rfl)) wa_nil))) we_int (fun _ _ => rfl)) we_int (nomark _)) (nomark _)) (dss_one (ds_ret we_bl)) dss_nil) (dss_cons (ds_for PassesOwn.never rfl (di_seq (we_tup (wa_cons (we_has H_small_run hgd (hr.mono (by decide)) (by rfl) (wa_cons (we_var 3) (wa_cons (we_unc (we_var 5)) wa_nil))) (wa_cons (we_has H_large_run hgd (hr.mono (by decide)) (by rfl) (wa_cons (we_var 3) (wa_cons (we_unc (we_var 5)) wa_nil))) wa_nil)))) ⟨(pg_name (i := 8) sc_law.nd rfl (Or.inl rfl)), gok_name⟩ (dss_one (ds_if (wt_cmp (or_neA hu) bi_neA (we_ofM (me_compV (own := [("guest", 6), ("pair", 12)]) rfl sc_law.nd (di_seqV (we_var 8)) (blkOk_by (N := N_law) (sc := defScope s_law) (by decide +kernel)) gok_two (fun _ _ _ _ _ => (pg_tup rfl (pgs_cons (pg_name (i := 6) sc_law.nd rfl (Or.inl rfl)) (pgs_cons (pg_name (i := 12) sc_law.nd rfl (Or.inl rfl)) pgs_nil)))) (fun _ _ _ _ _ => (wts_one (wt_w (ww_and (wt_cmp op_lt bi_B0 (we_var 12) we_int (nomark _)) (ww_and1 (wt_not (wt_val (we_has H_can_miss hgd (hr.mono (by decide)) (by rfl) (wa_cons (we_var 3) (wa_cons (we_var 5) (wa_cons (we_var 6) wa_nil))))))))))) (fun _ _ _ _ _ => (we_var 6)) (by decide))) (we_ofM (me_lst wa_nil)) (nomark _)) (dss_one (ds_ret we_bl)) dss_nil))) (dss_cons (ds_if (wt_w (ww_or (wt_not (wt_val (we_has H__law_moved_right hgd (hr.mono (by decide)) (by rfl) (wa_cons (we_var 3) (wa_cons (we_var 5) (wa_cons (we_has H__law_next hgd (hr.mono (by decide)) (by rfl) (wa_cons (we_var 1) (wa_cons (we_var 4) wa_nil))) wa_nil)))))) (ww_or1 (wt_not (wt_val (we_has H__law_ends_right hgd (hr.mono (by decide)) (by rfl) (wa_cons (we_var 3) wa_nil))))))) (dss_one (ds_ret we_bl)) dss_nil) (dss_cons (ds_set (i := 9) sc_law.nd rfl (Or.inl rfl) (xe_d (we_ofM (me_callB cr_sortedPO ck_sortP (by rfl) B.sorted PyProof.Rows.boot_sorted (wa_cons (we_ofM (me_compV (own := [("pair", 12), ("size", 13)]) rfl sc_law.nd (div_of (di_enumA (by rfl) B.enumerate (wa_cons (we_ix (we_var 3) we_int (fun _ _ => rfl)) wa_nil))) (blkOk_by (N := N_law) (sc := defScope s_law) (by decide +kernel)) gok_two (fun _ _ _ _ _ => (pg_tup rfl (pgs_cons (pg_name (i := 12) sc_law.nd rfl (Or.inl rfl)) (pgs_cons (pg_name (i := 13) sc_law.nd rfl (Or.inl rfl)) pgs_nil)))) (fun _ _ _ _ _ => wts_nil) (fun _ _ _ _ _ => (we_tup (wa_cons (we_var 13) (wa_cons (we_var 12) wa_nil)))) (by decide))) wa_nil))))) (dss_cons (ds_setLcV (i := 10) (u := xD (dOfM _)) (hyl := rfl) (hy := rfl) (hsw := sw_true rfl rfl rfl (by decide +kernel)) (hu := lc_dat) (own := [("size", 13), ("pair", 12)]) (hc := rfl) (hN := sc_law.nd) (hi := (di_seqV (we_var 9))) (ok := (blkOk_by (N := N_law) (sc := defScope s_law) (by decide +kernel))) (hk := gok_two) (hg := fun _ _ _ _ _ => (pg_tup rfl (pgs_cons (pg_name (i := 13) sc_law.nd rfl (Or.inl rfl)) (pgs_cons (pg_name (i := 12) sc_law.nd rfl (Or.inl rfl)) pgs_nil)))) (ht := fun _ _ _ _ _ => wts_nil) (he := fun _ _ _ _ _ => (we_cmp op_notN bi_notN (we_has H_run_leaving hgd (hr.mono (by decide)) (by rfl) (wa_cons (we_var 3) (wa_cons (we_var 12) wa_nil))) we_non (nomark _))) (hv := by decide)) (dss_one (ds_if (wt_cmp (or_neA hu) bi_neA (we_var 10) (we_revL (we_ofM (me_callB cr_sortedB ck_sortB (by rfl) B.sorted PyProof.Rows.boot_sorted (wa_cons (we_var 10) wa_nil)))) (nomark _)) (dss_one (ds_ret we_bl)) dss_nil))))))))))) (dss_one (ds_ret we_bl))), ?_⟩⟩
  refine ⟨5, rfl, by decide, by decide, forR_inv (fun k ρ n => n.n ≤ k * 2000 ∧ ∃ a2 a3 a4 a5 a6 a7 a8 a9 a10 a11 a12 a13, ρ = [none, some (.deck true), a2, a3, a4, a5, a6, a7, a8, a9, a10, a11, a12, a13])
    ⟨Nat.zero_le _, none, none, none, none, none, none, none, none, none, none, none, none, rfl⟩ ?_ ?_⟩
  · rintro k x ρ' n hx ⟨hn, a2, a3, a4, a5, a6, a7, a8, a9, a10, a11, a12, a13, rfl⟩
    obtain ⟨rfl, hk⟩ := rngD_mem hx
    have hk : k < 5 := hk
    refine ⟨_, rfl, rfl, 12, 12, rfl, by decide, by decide, by decide, by decide, by omega, fun feet pairs n1 hh hf hp hn1 => ?_⟩
    have hn1' : n1.n ≤ n.n + 1000 := hn1.1
    have hf40 := hh.f2
    have hp40 := hh.p2
    have hf1 := hh.f1
    have el : (feet.map PyData.int).length = feet.length := List.length_map ..
    refine ⟨_, rfl, 0, _, rfl, rfl, _, _, rfl, rfl, _, rfl, _, rfl, 0, _, rfl, rfl, _, _, rfl, rfl, rfl, feet.length, by show [Dv.deck true, .dat (.int ((feet.map PyData.int).length : Nat))] = _; rw [el], hf40, by omega, fun os n2 hos hn2 => ?_⟩
    have hn2' : n2.n ≤ n1.n + 100 := hn2.1
    have hol : os.length = feet.length := by rw [hos.length_eq, intsN_len]
    have hor : InR feet.length os := fun j hj => mem_intsN (hos.mem_iff.mp hj)
    have hnd : os.Nodup := hos.nodup_iff.mpr ((intsN_lt _).imp fun h => Int.ne_of_lt h)
    refine ⟨_, rfl, ((feet.map PyData.int).length : Nat), rfl, by omega, by rw [el]; omega, ?_⟩
    rw [el, rng_ints]
    refine forR_inv (fun k2 ρ n' => n' = n2 ∧ ∃ a6 a7 a8 a9 a10 a11 a12 a13, ρ = [none, some (.deck true), some (.dat (.int (0 + (k : Int)))), some (.dat (hallD feet pairs)), some (.dat (.int ((feet.length : Nat) : Int))), some (.dat (clnD os)), a6, a7, a8, a9, a10, a11, a12, a13]) ⟨rfl, a6, a7, a8, a9, a10, a11, a12, a13, rfl⟩ ?_ ?_
    · rintro k2 x ρ2 n3 hx2 ⟨rfl, a6, a7, a8, a9, a10, a11, a12, a13, rfl⟩
      obtain ⟨g, hg, rfl⟩ := map_get hx2
      have hgm := List.mem_of_getElem? hg
      obtain ⟨g0, g1⟩ := mem_intsN hgm
      refine ⟨_, rfl, os, rfl, _, rfl, compR_p os .int (fun o => decide (o ≠ g)) .int (small1000 (by omega)) (fun x hx acc KK hK => ⟨_, rfl, _, rfl, rfl, rfl, rfl, rfl, _, rfl, ?_⟩) ?_⟩
      · show if (!PyData.eqv (.int x) (.int g)) = true then _ else _
        rw [eqv_int, show (!decide (x = g)) = decide (x ≠ g) by simp]
        exact ite_imp (fun h => ⟨_, rfl, h⟩) id hK
      have hfl : (os.filter fun o => decide (o ≠ g)).length ≤ 40 := Nat.le_trans (List.length_filter_le _ _) (by omega)
      have hlp := last_perm hos hgm
      refine ⟨_, os.filter (fun o => decide (o ≠ g)), rfl, rfl, _, rfl, [g], rfl, by show 1 ≤ sizeLine; decide, _, _, rfl, rfl, line1000 (by show _ + 1 ≤ 1000; omega), ?_⟩
      have hN : canTake ((befO (os.filter (fun o => decide (o ≠ g)) ++ [g]) g).map (getI feet)) (fitS feet pairs g) = !isN (withoutD feet pairs g) := by
        rw [take_last hos]
        rcases without_form (pairs := pairs) hgm with ⟨h, W, e, _⟩ | ⟨h, e⟩
        · rw [e, h]; rfl
        · rw [e, h]; rfl
      refine ⟨_, rfl, _, rfl, _, rfl, rfl, feet, pairs, _, g, rfl, hh, hlp, g0, g1, _, rfl, _, rfl, rfl, feet, pairs, g, rfl, hh, g0, g1, rfl, rfl, rfl, rfl, rfl, rfl, _, rfl, neB hN ⟨rfl, _, _, _, _, _, _, _, _, rfl⟩⟩
    · rintro ρ2 n3 ⟨rfl, a6, a7, a8, a9, a10, a11, a12, a13, rfl⟩
      obtain ⟨g0, rest, rfl⟩ : ∃ g0 rest, os = g0 :: rest := by
        cases os with
        | nil => simp at hol; omega
        | cons a l => exact ⟨a, l, rfl⟩
      have hgr := hor g0 List.mem_cons_self
      have hat0 : atI ((g0 :: rest).map PyData.int) 0 = some (.int g0) := atI0 g0 rest
      refine ⟨_, rfl, _, rfl, _, rfl, g0 :: rest, rfl, 0, _, rfl, hat0, rfl, feet, pairs, _, g0, rfl, hh, hos, hgr.1, hgr.2, ?_⟩
      refine ⟨_, rfl, _, rfl, 0, _, rfl, rfl, _, rfl, g0 :: rest, rfl, 0, _, rfl, hat0, _, _, rfl, atI_get hgr.1 hgr.2, rfl, feet, pairs, getI feet g0, rfl, by omega, by omega, 1, _, rfl, rfl, rfl, rfl, rfl, rfl, rfl, rfl, rfl, rfl, _, rfl, neB ?_ ?_⟩
      · rw [show befO (g0 :: rest) g0 = [] from befO_app (a := []) (by simp)]
        show canTake [] (fitS feet pairs g0) = PyData.eqv (.int (cP pairs (getI feet g0) : Nat)) (.int 0)
        rw [take_none, eqv_int]
      refine ⟨_, rfl, _, rfl, g0 :: rest, rfl, rfl, feet, pairs, g0 :: rest, rfl, hh, hor, by omega, _, rfl, _, rfl, g0 :: rest, rfl, rfl, feet, pairs, g0 :: rest, rfl, hh, hor, by omega, by show 2 ≤ sizeLine; decide, _, rfl, ?_⟩
      refine forR_inv (fun _ ρ n' => n' = n3 ∧ ∃ a6 a7 a8 a9 a10 a11 a12 a13, ρ = [none, some (.deck true), some (.dat (.int (0 + (k : Int)))), some (.dat (hallD feet pairs)), some (.dat (.int ((feet.length : Nat) : Int))), some (.dat (clnD (g0 :: rest))), a6, a7, a8, a9, a10, a11, a12, a13]) ⟨rfl, a6, a7, a8, a9, a10, a11, a12, a13, rfl⟩ ?_ ?_
      · rintro k3 x ρ3 n4 hx3 ⟨rfl, a6, a7, a8, a9, a10, a11, a12, a13, rfl⟩
        obtain ⟨W, rl, rfl, hW, hWv⟩ : ∃ (W : List (Int × Int)) (rl : Int → Int → Prop), x = runD W ∧ W.map (·.1) = g0 :: rest ∧ RunV rl feet pairs W := by
          have hx3 := List.mem_of_getElem? hx3
          simp only [List.mem_cons, List.not_mem_nil, or_false] at hx3
          rcases hx3 with rfl | rfl
          · exact ⟨_, _, rfl, (ruled_ok _ _ _ _).2, ruled_small feet pairs hos⟩
          · exact ⟨_, _, rfl, (ruled_ok _ _ _ _).2, ruled_large feet pairs hos⟩
        have hWl : W.length ≤ 40 := by
          have := congrArg List.length hW
          rw [List.length_map] at this
          omega
        refine ⟨_, rfl, _, rfl, compR_p W prD (fun _ => false) (fun q => .int q.1) (small1000 (by omega)) (fun q hq acc KK hK => ⟨_, _, rfl, _, rfl, _, rfl, ite2 (fun h => ?_) fun _ => hK⟩) ?_⟩
        · have hqo : q.1 ∈ g0 :: rest := by rw [← hW]; exact List.mem_map.mpr ⟨q, hq, rfl⟩
          have hq2 : q.2 = -1 := by
            have h := of_decide_eq_true h
            have := (hWv.snd hq).1
            omega
          refine ⟨_, rfl, _, rfl, _, rfl, rfl, feet, pairs, _, q.1, rfl, hh, hos, (hor _ hqo).1, (hor _ hqo).2, _, rfl, ?_⟩
          rw [run_miss hnd hqo hW hWv (by rw [← hq2]; exact hq)]
          exact hK
        · rw [show (W.filter fun _ => false) = [] from List.filter_eq_nil_iff.mpr fun _ _ => Bool.false_ne_true]
          exact ⟨Nat.zero_le _, rfl, rfl, sh_ints [], sh_ints [], _, rfl, iteF ⟨rfl, _, _, _, _, _, _, _, _, rfl⟩⟩
      · rintro ρ3 n4 ⟨rfl, a6, a7, a8, a9, a10, a11, a12, a13, rfl⟩
        refine ⟨_, rfl, _, rfl, _, rfl, _, rfl, rfl, ((feet.length : Nat) : Int), rfl, by omega, by omega, by omega, fun r r0 r1 => ?_⟩
        refine ⟨rfl, feet, pairs, g0 :: rest, r.toNat, by rw [Int.toNat_of_nonneg r0], hh, hos, by omega, _, rfl, iteF ⟨_, rfl, rfl, feet, pairs, rfl, hh, _, rfl, iteF ?_⟩⟩
        refine ⟨_, rfl, 1, _, rfl, rfl, _, _, rfl, rfl, ?_⟩
        rw [enum_ints]
        refine compR_m (intsN pairs.length) _ (fun j => prD (getI pairs j, j)) (small1000 (by rw [intsN_len]; omega)) (fun x hx acc KK ha hK => ⟨_, _, rfl, _, rfl, _, rfl, by show 2 ≤ sizeLine; decide, ha, hK⟩) ?_
        refine ⟨_, (intsN pairs.length).map fun j => (getI pairs j, j), rfl, by rw [List.map_map]; rfl, fun qs hp2 hs => ?_⟩
        have hql : qs.length = pairs.length := by rw [hp2.length_eq, List.length_map, intsN_len]
        have hqi : ∀ q ∈ qs, q.2 ∈ intsN pairs.length ∧ q.1 = getI pairs q.2 := fun q hq => by
          obtain ⟨j, hj, rfl⟩ := List.mem_map.mp (hp2.mem_iff.mp hq)
          exact ⟨hj, rfl⟩
        refine ⟨_, rfl, _, rfl, compR_m qs prD (fun q => .bool (canServe (firstF feet pairs q.2) (othS pairs q.2))) (small1000 (by omega)) (fun q hq acc KK ha hK => ?_) ?_⟩
        · have e : PyData.bool (!isN (leavingD feet pairs q.2)) = .bool (canServe (firstF feet pairs q.2) (othS pairs q.2)) := by rw [leaving_isN (hqi q hq).1, Bool.not_not]
          rw [← e] at hK
          have hr := mem_intsN (hqi q hq).1
          exact ⟨_, _, rfl, _, rfl, _, rfl, rfl, feet, pairs, q.2, rfl, hh, hr.1, hr.2, rfl, rfl, ha, hK⟩
        · obtain ⟨bs, hbs⟩ : ∃ bs : List Bool, bs = qs.map fun q => canServe (firstF feet pairs q.2) (othS pairs q.2) := ⟨_, rfl⟩
          rw [show (qs.map fun q => PyData.bool (canServe (firstF feet pairs q.2) (othS pairs q.2))) = bs.map PyData.bool by rw [hbs, List.map_map]; rfl]
          have hd : bs.Pairwise (fun x y => y = true → x = true) := by
            rw [hbs, List.pairwise_map]
            refine hs.imp_of_mem fun {a b} ha hb h hy => ?_
            refine serve_mono (hqi b hb).1 (hqi a ha).1 ?_ hy
            have h1 := (hqi a ha).2
            have h2 := (hqi b hb).2
            omega
          refine ⟨_, rfl, _, rfl, _, bs, rfl, rfl, fun bs' h1 h2 => ⟨_, rfl, rfl, rfl, sh_bools _, ?_, _, rfl, ?_⟩⟩
          · show Sh (.list (bs'.map PyData.bool).reverse)
            rw [← List.map_reverse]
            exact sh_bools _
          · show if (!PyData.eqv (.list (bs.map PyData.bool)) (.list (bs'.map PyData.bool).reverse)) = true then _ else _
            rw [← List.map_reverse, desc_rev hd h1 h2, eqv_bools, decide_eq_true rfl]
            exact iteF ⟨by show n4.n + 1 ≤ _; omega, _, _, _, _, _, _, _, _, _, _, _, _, rfl⟩
  · rintro ρ' n' ⟨hn, a2, a3, a4, a5, a6, a7, a8, a9, a10, a11, a12, a13, rfl⟩
    rfl
end
theorem all_mk {l : PySem.W.OpenLaw} {w : World} {K : PySem.W.Frag} {h : Heap} {mg : Str → Option Value} {fa : Addr} {C : CA} (X : K.In h) (G : h.Ns mainGlobals mg) (hfa : mg "law" = some (.ref fa))
    {f0 : Addr} {od0 an0 : Option Addr} {sl0 : Array (Option Value)} {oc0 kV0 dc0 pm0 cd0 ct0 : Value}
    (a0 : PySem.W.nsIn K mainGlobals "_law_draws" = some (some (.ref f0)))
    (l0 : K.lookup f0 = some ⟨oc0, od0, .func (PySem.W.fnOf "_law_draws" "_law_draws" (defArgs s__law_draws) (defBody s__law_draws) (defScope s__law_draws) .none kV0 dc0 pm0 an0 cd0 ct0), sl0⟩) (c0 : PySem.W.codeIn K cd0 "_law_draws" = true) (k0 : PySem.W.keepIn K (.ref f0) = true)
    {f1 : Addr} {od1 an1 : Option Addr} {sl1 : Array (Option Value)} {oc1 kV1 dc1 pm1 cd1 ct1 : Value}
    (a1 : PySem.W.nsIn K mainGlobals "_law_next" = some (some (.ref f1)))
    (l1 : K.lookup f1 = some ⟨oc1, od1, .func (PySem.W.fnOf "_law_next" "_law_next" (defArgs s__law_next) (defBody s__law_next) (defScope s__law_next) .none kV1 dc1 pm1 an1 cd1 ct1), sl1⟩) (c1 : PySem.W.codeIn K cd1 "_law_next" = true) (k1 : PySem.W.keepIn K (.ref f1) = true)
    {f2 : Addr} {od2 an2 : Option Addr} {sl2 : Array (Option Value)} {oc2 kV2 dc2 pm2 cd2 ct2 : Value}
    (a2 : PySem.W.nsIn K mainGlobals "_law_hall" = some (some (.ref f2)))
    (l2 : K.lookup f2 = some ⟨oc2, od2, .func (PySem.W.fnOf "_law_hall" "_law_hall" (defArgs s__law_hall) (defBody s__law_hall) (defScope s__law_hall) .none kV2 dc2 pm2 an2 cd2 ct2), sl2⟩) (c2 : PySem.W.codeIn K cd2 "_law_hall" = true) (k2 : PySem.W.keepIn K (.ref f2) = true)
    {f3 : Addr} {od3 an3 : Option Addr} {sl3 : Array (Option Value)} {oc3 kV3 dc3 pm3 cd3 ct3 : Value}
    (a3 : PySem.W.nsIn K mainGlobals "_law_order" = some (some (.ref f3)))
    (l3 : K.lookup f3 = some ⟨oc3, od3, .func (PySem.W.fnOf "_law_order" "_law_order" (defArgs s__law_order) (defBody s__law_order) (defScope s__law_order) .none kV3 dc3 pm3 an3 cd3 ct3), sl3⟩) (c3 : PySem.W.codeIn K cd3 "_law_order" = true) (k3 : PySem.W.keepIn K (.ref f3) = true)
    {f4 : Addr} {od4 an4 : Option Addr} {sl4 : Array (Option Value)} {oc4 kV4 dc4 pm4 cd4 ct4 : Value}
    (a4 : PySem.W.nsIn K mainGlobals "_fitting" = some (some (.ref f4)))
    (l4 : K.lookup f4 = some ⟨oc4, od4, .func (PySem.W.fnOf "_fitting" "_fitting" (defArgs s__fitting) (defBody s__fitting) (defScope s__fitting) .none kV4 dc4 pm4 an4 cd4 ct4), sl4⟩) (c4 : PySem.W.codeIn K cd4 "_fitting" = true) (k4 : PySem.W.keepIn K (.ref f4) = true)
    {f5 : Addr} {od5 an5 : Option Addr} {sl5 : Array (Option Value)} {oc5 kV5 dc5 pm5 cd5 ct5 : Value}
    (a5 : PySem.W.nsIn K mainGlobals "run_by_liking" = some (some (.ref f5)))
    (l5 : K.lookup f5 = some ⟨oc5, od5, .func (PySem.W.fnOf "run_by_liking" "run_by_liking" (defArgs s_run_by_liking) (defBody s_run_by_liking) (defScope s_run_by_liking) .none kV5 dc5 pm5 an5 cd5 ct5), sl5⟩) (c5 : PySem.W.codeIn K cd5 "run_by_liking" = true) (k5 : PySem.W.keepIn K (.ref f5) = true)
    {f6 : Addr} {od6 an6 : Option Addr} {sl6 : Array (Option Value)} {oc6 kV6 dc6 pm6 cd6 ct6 : Value}
    (a6 : PySem.W.nsIn K mainGlobals "order_by_feet" = some (some (.ref f6)))
    (l6 : K.lookup f6 = some ⟨oc6, od6, .func (PySem.W.fnOf "order_by_feet" "order_by_feet" (defArgs s_order_by_feet) (defBody s_order_by_feet) (defScope s_order_by_feet) .none kV6 dc6 pm6 an6 cd6 ct6), sl6⟩) (c6 : PySem.W.codeIn K cd6 "order_by_feet" = true) (k6 : PySem.W.keepIn K (.ref f6) = true)
    {f7 : Addr} {od7 an7 : Option Addr} {sl7 : Array (Option Value)} {oc7 kV7 dc7 pm7 cd7 ct7 : Value}
    (a7 : PySem.W.nsIn K mainGlobals "_by_size" = some (some (.ref f7)))
    (l7 : K.lookup f7 = some ⟨oc7, od7, .func (PySem.W.fnOf "_by_size" "_by_size" (defArgs s__by_size) (defBody s__by_size) (defScope s__by_size) .none kV7 dc7 pm7 an7 cd7 ct7), sl7⟩) (c7 : PySem.W.codeIn K cd7 "_by_size" = true) (k7 : PySem.W.keepIn K (.ref f7) = true)
    {f8 : Addr} {od8 an8 : Option Addr} {sl8 : Array (Option Value)} {oc8 kV8 dc8 pm8 cd8 ct8 : Value}
    (a8 : PySem.W.nsIn K mainGlobals "_run_against" = some (some (.ref f8)))
    (l8 : K.lookup f8 = some ⟨oc8, od8, .func (PySem.W.fnOf "_run_against" "_run_against" (defArgs s__run_against) (defBody s__run_against) (defScope s__run_against) .none kV8 dc8 pm8 an8 cd8 ct8), sl8⟩) (c8 : PySem.W.codeIn K cd8 "_run_against" = true) (k8 : PySem.W.keepIn K (.ref f8) = true)
    {f9 : Addr} {od9 an9 : Option Addr} {sl9 : Array (Option Value)} {oc9 kV9 dc9 pm9 cd9 ct9 : Value}
    (a9 : PySem.W.nsIn K mainGlobals "can_miss" = some (some (.ref f9)))
    (l9 : K.lookup f9 = some ⟨oc9, od9, .func (PySem.W.fnOf "can_miss" "can_miss" (defArgs s_can_miss) (defBody s_can_miss) (defScope s_can_miss) .none kV9 dc9 pm9 an9 cd9 ct9), sl9⟩) (c9 : PySem.W.codeIn K cd9 "can_miss" = true) (k9 : PySem.W.keepIn K (.ref f9) = true)
    {f10 : Addr} {od10 an10 : Option Addr} {sl10 : Array (Option Value)} {oc10 kV10 dc10 pm10 cd10 ct10 : Value}
    (a10 : PySem.W.nsIn K mainGlobals "small_run" = some (some (.ref f10)))
    (l10 : K.lookup f10 = some ⟨oc10, od10, .func (PySem.W.fnOf "small_run" "small_run" (defArgs s_small_run) (defBody s_small_run) (defScope s_small_run) .none kV10 dc10 pm10 an10 cd10 ct10), sl10⟩) (c10 : PySem.W.codeIn K cd10 "small_run" = true) (k10 : PySem.W.keepIn K (.ref f10) = true)
    {f11 : Addr} {od11 an11 : Option Addr} {sl11 : Array (Option Value)} {oc11 kV11 dc11 pm11 cd11 ct11 : Value}
    (a11 : PySem.W.nsIn K mainGlobals "large_run" = some (some (.ref f11)))
    (l11 : K.lookup f11 = some ⟨oc11, od11, .func (PySem.W.fnOf "large_run" "large_run" (defArgs s_large_run) (defBody s_large_run) (defScope s_large_run) .none kV11 dc11 pm11 an11 cd11 ct11), sl11⟩) (c11 : PySem.W.codeIn K cd11 "large_run" = true) (k11 : PySem.W.keepIn K (.ref f11) = true)
    {f12 : Addr} {od12 an12 : Option Addr} {sl12 : Array (Option Value)} {oc12 kV12 dc12 pm12 cd12 ct12 : Value}
    (a12 : PySem.W.nsIn K mainGlobals "_law_moved_right" = some (some (.ref f12)))
    (l12 : K.lookup f12 = some ⟨oc12, od12, .func (PySem.W.fnOf "_law_moved_right" "_law_moved_right" (defArgs s__law_moved_right) (defBody s__law_moved_right) (defScope s__law_moved_right) .none kV12 dc12 pm12 an12 cd12 ct12), sl12⟩) (c12 : PySem.W.codeIn K cd12 "_law_moved_right" = true) (k12 : PySem.W.keepIn K (.ref f12) = true)
    {f13 : Addr} {od13 an13 : Option Addr} {sl13 : Array (Option Value)} {oc13 kV13 dc13 pm13 cd13 ct13 : Value}
    (a13 : PySem.W.nsIn K mainGlobals "counts_at" = some (some (.ref f13)))
    (l13 : K.lookup f13 = some ⟨oc13, od13, .func (PySem.W.fnOf "counts_at" "counts_at" (defArgs s_counts_at) (defBody s_counts_at) (defScope s_counts_at) .none kV13 dc13 pm13 an13 cd13 ct13), sl13⟩) (c13 : PySem.W.codeIn K cd13 "counts_at" = true) (k13 : PySem.W.keepIn K (.ref f13) = true)
    {f14 : Addr} {od14 an14 : Option Addr} {sl14 : Array (Option Value)} {oc14 kV14 dc14 pm14 cd14 ct14 : Value}
    (a14 : PySem.W.nsIn K mainGlobals "_foot_sizes" = some (some (.ref f14)))
    (l14 : K.lookup f14 = some ⟨oc14, od14, .func (PySem.W.fnOf "_foot_sizes" "_foot_sizes" (defArgs s__foot_sizes) (defBody s__foot_sizes) (defScope s__foot_sizes) .none kV14 dc14 pm14 an14 cd14 ct14), sl14⟩) (c14 : PySem.W.codeIn K cd14 "_foot_sizes" = true) (k14 : PySem.W.keepIn K (.ref f14) = true)
    {f15 : Addr} {od15 an15 : Option Addr} {sl15 : Array (Option Value)} {oc15 kV15 dc15 pm15 cd15 ct15 : Value}
    (a15 : PySem.W.nsIn K mainGlobals "_deciding_sizes" = some (some (.ref f15)))
    (l15 : K.lookup f15 = some ⟨oc15, od15, .func (PySem.W.fnOf "_deciding_sizes" "_deciding_sizes" (defArgs s__deciding_sizes) (defBody s__deciding_sizes) (defScope s__deciding_sizes) .none kV15 dc15 pm15 an15 cd15 ct15), sl15⟩) (c15 : PySem.W.codeIn K cd15 "_deciding_sizes" = true) (k15 : PySem.W.keepIn K (.ref f15) = true)
    {f16 : Addr} {od16 an16 : Option Addr} {sl16 : Array (Option Value)} {oc16 kV16 dc16 pm16 cd16 ct16 : Value}
    (a16 : PySem.W.nsIn K mainGlobals "fewest_served" = some (some (.ref f16)))
    (l16 : K.lookup f16 = some ⟨oc16, od16, .func (PySem.W.fnOf "fewest_served" "fewest_served" (defArgs s_fewest_served) (defBody s_fewest_served) (defScope s_fewest_served) .none kV16 dc16 pm16 an16 cd16 ct16), sl16⟩) (c16 : PySem.W.codeIn K cd16 "fewest_served" = true) (k16 : PySem.W.keepIn K (.ref f16) = true)
    {f17 : Addr} {od17 an17 : Option Addr} {sl17 : Array (Option Value)} {oc17 kV17 dc17 pm17 cd17 ct17 : Value}
    (a17 : PySem.W.nsIn K mainGlobals "most_served" = some (some (.ref f17)))
    (l17 : K.lookup f17 = some ⟨oc17, od17, .func (PySem.W.fnOf "most_served" "most_served" (defArgs s_most_served) (defBody s_most_served) (defScope s_most_served) .none kV17 dc17 pm17 an17 cd17 ct17), sl17⟩) (c17 : PySem.W.codeIn K cd17 "most_served" = true) (k17 : PySem.W.keepIn K (.ref f17) = true)
    {f18 : Addr} {od18 an18 : Option Addr} {sl18 : Array (Option Value)} {oc18 kV18 dc18 pm18 cd18 ct18 : Value}
    (a18 : PySem.W.nsIn K mainGlobals "left_by" = some (some (.ref f18)))
    (l18 : K.lookup f18 = some ⟨oc18, od18, .func (PySem.W.fnOf "left_by" "left_by" (defArgs s_left_by) (defBody s_left_by) (defScope s_left_by) .none kV18 dc18 pm18 an18 cd18 ct18), sl18⟩) (c18 : PySem.W.codeIn K cd18 "left_by" = true) (k18 : PySem.W.keepIn K (.ref f18) = true)
    {f19 : Addr} {od19 an19 : Option Addr} {sl19 : Array (Option Value)} {oc19 kV19 dc19 pm19 cd19 ct19 : Value}
    (a19 : PySem.W.nsIn K mainGlobals "_large_then_small" = some (some (.ref f19)))
    (l19 : K.lookup f19 = some ⟨oc19, od19, .func (PySem.W.fnOf "_large_then_small" "_large_then_small" (defArgs s__large_then_small) (defBody s__large_then_small) (defScope s__large_then_small) .none kV19 dc19 pm19 an19 cd19 ct19), sl19⟩) (c19 : PySem.W.codeIn K cd19 "_large_then_small" = true) (k19 : PySem.W.keepIn K (.ref f19) = true)
    {f20 : Addr} {od20 an20 : Option Addr} {sl20 : Array (Option Value)} {oc20 kV20 dc20 pm20 cd20 ct20 : Value}
    (a20 : PySem.W.nsIn K mainGlobals "served_by" = some (some (.ref f20)))
    (l20 : K.lookup f20 = some ⟨oc20, od20, .func (PySem.W.fnOf "served_by" "served_by" (defArgs s_served_by) (defBody s_served_by) (defScope s_served_by) .none kV20 dc20 pm20 an20 cd20 ct20), sl20⟩) (c20 : PySem.W.codeIn K cd20 "served_by" = true) (k20 : PySem.W.keepIn K (.ref f20) = true)
    {f21 : Addr} {od21 an21 : Option Addr} {sl21 : Array (Option Value)} {oc21 kV21 dc21 pm21 cd21 ct21 : Value}
    (a21 : PySem.W.nsIn K mainGlobals "run_with" = some (some (.ref f21)))
    (l21 : K.lookup f21 = some ⟨oc21, od21, .func (PySem.W.fnOf "run_with" "run_with" (defArgs s_run_with) (defBody s_run_with) (defScope s_run_with) .none kV21 dc21 pm21 an21 cd21 ct21), sl21⟩) (c21 : PySem.W.codeIn K cd21 "run_with" = true) (k21 : PySem.W.keepIn K (.ref f21) = true)
    {f22 : Addr} {od22 an22 : Option Addr} {sl22 : Array (Option Value)} {oc22 kV22 dc22 pm22 cd22 ct22 : Value}
    (a22 : PySem.W.nsIn K mainGlobals "_law_ends_right" = some (some (.ref f22)))
    (l22 : K.lookup f22 = some ⟨oc22, od22, .func (PySem.W.fnOf "_law_ends_right" "_law_ends_right" (defArgs s__law_ends_right) (defBody s__law_ends_right) (defScope s__law_ends_right) .none kV22 dc22 pm22 an22 cd22 ct22), sl22⟩) (c22 : PySem.W.codeIn K cd22 "_law_ends_right" = true) (k22 : PySem.W.keepIn K (.ref f22) = true)
    {f23 : Addr} {od23 an23 : Option Addr} {sl23 : Array (Option Value)} {oc23 kV23 dc23 pm23 cd23 ct23 : Value}
    (a23 : PySem.W.nsIn K mainGlobals "run_leaving" = some (some (.ref f23)))
    (l23 : K.lookup f23 = some ⟨oc23, od23, .func (PySem.W.fnOf "run_leaving" "run_leaving" (defArgs s_run_leaving) (defBody s_run_leaving) (defScope s_run_leaving) .none kV23 dc23 pm23 an23 cd23 ct23), sl23⟩) (c23 : PySem.W.codeIn K cd23 "run_leaving" = true) (k23 : PySem.W.keepIn K (.ref f23) = true)
    {f24 : Addr} {od24 an24 : Option Addr} {sl24 : Array (Option Value)} {oc24 kV24 dc24 pm24 cd24 ct24 : Value}
    (a24 : PySem.W.nsIn K mainGlobals "run_without" = some (some (.ref f24)))
    (l24 : K.lookup f24 = some ⟨oc24, od24, .func (PySem.W.fnOf "run_without" "run_without" (defArgs s_run_without) (defBody s_run_without) (defScope s_run_without) .none kV24 dc24 pm24 an24 cd24 ct24), sl24⟩) (c24 : PySem.W.codeIn K cd24 "run_without" = true) (k24 : PySem.W.keepIn K (.ref f24) = true)
    {f25 : Addr} {od25 an25 : Option Addr} {sl25 : Array (Option Value)} {oc25 kV25 dc25 pm25 cd25 ct25 : Value}
    (a25 : PySem.W.nsIn K mainGlobals "law" = some (some (.ref f25)))
    (l25 : K.lookup f25 = some ⟨oc25, od25, .func (PySem.W.fnOf "law" "law" (defArgs s_law) (defBody s_law) (defScope s_law) .none kV25 dc25 pm25 an25 cd25 ct25), sl25⟩) (c25 : PySem.W.codeIn K cd25 "law" = true) (k25 : PySem.W.keepIn K (.ref f25) = true)
    (z_enumerate : PySem.W.nsIn K mainGlobals "enumerate" = some none)
    (z_int : PySem.W.nsIn K mainGlobals "int" = some none)
    (z_len : PySem.W.nsIn K mainGlobals "len" = some none)
    (z_list : PySem.W.nsIn K mainGlobals "list" = some none)
    (z_max : PySem.W.nsIn K mainGlobals "max" = some none)
    (z_min : PySem.W.nsIn K mainGlobals "min" = some none)
    (z_range : PySem.W.nsIn K mainGlobals "range" = some none)
    (z_set : PySem.W.nsIn K mainGlobals "set" = some none)
    (z_sorted : PySem.W.nsIn K mainGlobals "sorted" = some none)
    (z_sum : PySem.W.nsIn K mainGlobals "sum" = some none)
    (z_tuple : PySem.W.nsIn K mainGlobals "tuple" = some none)
    {t_MAX_SIZE : Tok} (y_MAX_SIZE : PySem.W.nsIn K mainGlobals "MAX_SIZE" = some (some (.int (1000000) t_MAX_SIZE)))
    {t_NO_PAIR : Tok} (y_NO_PAIR : PySem.W.nsIn K mainGlobals "NO_PAIR" = some (some (.int (-1) t_NO_PAIR)))
    : ∃ fd : FuncData, (∀ (s : Shared) (v : Value), BindsTo s fd ⟨[v], []⟩ [("script", v)]) ∧ ∀ base : Heap, K.In base → base.Ns mainGlobals mg → FnG l.prog w K mg base 7 fa fd ["script"] (spLaw K) := by
  have e := hfa.symm.trans (PySem.W.mg_of X G a25)
  cases e
  have B : Bn K mg C := { enumerate := PySem.W.mg_none_of X G z_enumerate, int := PySem.W.mg_none_of X G z_int, len := PySem.W.mg_none_of X G z_len, list := PySem.W.mg_none_of X G z_list, max := PySem.W.mg_none_of X G z_max, min := PySem.W.mg_none_of X G z_min, range := PySem.W.mg_none_of X G z_range, set := PySem.W.mg_none_of X G z_set, sorted := PySem.W.mg_none_of X G z_sorted, sum := PySem.W.mg_none_of X G z_sum, tuple := PySem.W.mg_none_of X G z_tuple, MAX_SIZE := ⟨_, PySem.W.mg_of X G y_MAX_SIZE⟩, NO_PAIR := ⟨_, PySem.W.mg_of X G y_NO_PAIR⟩ }
  have F0 := fun_mk (st := s__law_draws) l0 c0 k0
  have b0 := F0.binds (ps := ["script"]) fun _ _ _ _ _ _ us hl => match us, hl with | [_], _ => rfl
  have F1 := fun_mk (st := s__law_next) l1 c1 k1
  have b1 := F1.binds (ps := ["drawn", "many"]) fun _ _ _ _ _ _ us hl => match us, hl with | [_, _], _ => rfl
  have F2 := fun_mk (st := s__law_hall) l2 c2 k2
  have b2 := F2.binds (ps := ["drawn", "guests", "most"]) fun _ _ _ _ _ _ us hl => match us, hl with | [_, _, _], _ => rfl
  have F3 := fun_mk (st := s__law_order) l3 c3 k3
  have b3 := F3.binds (ps := ["drawn", "many"]) fun _ _ _ _ _ _ us hl => match us, hl with | [_, _], _ => rfl
  have F4 := fun_mk (st := s__fitting) l4 c4 k4
  have b4 := F4.binds (ps := ["hall", "guest", "left"]) fun _ _ _ _ _ _ us hl => match us, hl with | [_, _, _], _ => rfl
  have F5 := fun_mk (st := s_run_by_liking) l5 c5 k5
  have b5 := F5.binds (ps := ["hall", "order", "liking"]) fun _ _ _ _ _ _ us hl => match us, hl with | [_, _, _], _ => rfl
  have F6 := fun_mk (st := s_order_by_feet) l6 c6 k6
  have b6 := F6.binds (ps := ["hall"]) fun _ _ _ _ _ _ us hl => match us, hl with | [_], _ => rfl
  have F7 := fun_mk (st := s__by_size) l7 c7 k7
  have b7 := F7.binds (ps := ["hall", "pairs"]) fun _ _ _ _ _ _ us hl => match us, hl with | [_, _], _ => rfl
  have F8 := fun_mk (st := s__run_against) l8 c8 k8
  have b8 := F8.binds (ps := ["hall", "others", "guest"]) fun _ _ _ _ _ _ us hl => match us, hl with | [_, _, _], _ => rfl
  have F9 := fun_mk (st := s_can_miss) l9 c9 k9
  have b9 := F9.binds (ps := ["hall", "order", "guest"]) fun _ _ _ _ _ _ us hl => match us, hl with | [_, _, _], _ => rfl
  have F10 := fun_mk (st := s_small_run) l10 c10 k10
  have b10 := F10.binds (ps := ["hall", "order"]) fun _ _ _ _ _ _ us hl => match us, hl with | [_, _], _ => rfl
  have F11 := fun_mk (st := s_large_run) l11 c11 k11
  have b11 := F11.binds (ps := ["hall", "order"]) fun _ _ _ _ _ _ us hl => match us, hl with | [_, _], _ => rfl
  have F12 := fun_mk (st := s__law_moved_right) l12 c12 k12
  have b12 := F12.binds (ps := ["hall", "order", "spot"]) fun _ _ _ _ _ _ us hl => match us, hl with | [_, _, _], _ => rfl
  have F13 := fun_mk (st := s_counts_at) l13 c13 k13
  have b13 := F13.binds (ps := ["hall", "size"]) fun _ _ _ _ _ _ us hl => match us, hl with | [_, _], _ => rfl
  have F14 := fun_mk (st := s__foot_sizes) l14 c14 k14
  have b14 := F14.binds (ps := ["hall"]) fun _ _ _ _ _ _ us hl => match us, hl with | [_], _ => rfl
  have F15 := fun_mk (st := s__deciding_sizes) l15 c15 k15
  have b15 := F15.binds (ps := ["hall"]) fun _ _ _ _ _ _ us hl => match us, hl with | [_], _ => rfl
  have F16 := fun_mk (st := s_fewest_served) l16 c16 k16
  have b16 := F16.binds (ps := ["hall"]) fun _ _ _ _ _ _ us hl => match us, hl with | [_], _ => rfl
  have F17 := fun_mk (st := s_most_served) l17 c17 k17
  have b17 := F17.binds (ps := ["hall"]) fun _ _ _ _ _ _ us hl => match us, hl with | [_], _ => rfl
  have F18 := fun_mk (st := s_left_by) l18 c18 k18
  have b18 := F18.binds (ps := ["hall", "run"]) fun _ _ _ _ _ _ us hl => match us, hl with | [_, _], _ => rfl
  have F19 := fun_mk (st := s__large_then_small) l19 c19 k19
  have b19 := F19.binds (ps := ["hall", "many"]) fun _ _ _ _ _ _ us hl => match us, hl with | [_, _], _ => rfl
  have F20 := fun_mk (st := s_served_by) l20 c20 k20
  have b20 := F20.binds (ps := ["hall", "run"]) fun _ _ _ _ _ _ us hl => match us, hl with | [_, _], _ => rfl
  have F21 := fun_mk (st := s_run_with) l21 c21 k21
  have b21 := F21.binds (ps := ["hall", "number"]) fun _ _ _ _ _ _ us hl => match us, hl with | [_, _], _ => rfl
  have F22 := fun_mk (st := s__law_ends_right) l22 c22 k22
  have b22 := F22.binds (ps := ["hall"]) fun _ _ _ _ _ _ us hl => match us, hl with | [_], _ => rfl
  have F23 := fun_mk (st := s_run_leaving) l23 c23 k23
  have b23 := F23.binds (ps := ["hall", "pair"]) fun _ _ _ _ _ _ us hl => match us, hl with | [_, _], _ => rfl
  have F24 := fun_mk (st := s_run_without) l24 c24 k24
  have b24 := F24.binds (ps := ["hall", "guest"]) fun _ _ _ _ _ _ us hl => match us, hl with | [_, _], _ => rfl
  refine ⟨PySem.W.fnOf "law" "law" (defArgs s_law) (defBody s_law) (defScope s_law) .none kV25 dc25 pm25 an25 cd25 ct25, fun s v => .of_eq rfl, fun base _ _ => ?_⟩
  have H__law_draws : HasS l.prog w K mg base "_law_draws" 1 ["script"] (spDeckB K) := ⟨f0, _, PySem.W.mg_of X G a0, k0, b0, ok_draws F0 B.list B.int B.len⟩
  have H__law_next : Has l.prog w K mg base "_law_next" 1 ["drawn", "many"] c__law_next := ⟨f1, _, PySem.W.mg_of X G a1, k1, b1, ok_next F1 B.len⟩
  have H__law_hall : Has l.prog w K mg base "_law_hall" 2 ["drawn", "guests", "most"] c__law_hall := ⟨f2, _, PySem.W.mg_of X G a2, k2, b2, fn__law_hall F2 B H__law_next⟩
  have H__law_order : Has l.prog w K mg base "_law_order" 2 ["drawn", "many"] c__law_order := ⟨f3, _, PySem.W.mg_of X G a3, k3, b3, fn__law_order F3 B H__law_next⟩
  have H__fitting : Has l.prog w K mg base "_fitting" 1 ["hall", "guest", "left"] c__fitting := ⟨f4, _, PySem.W.mg_of X G a4, k4, b4, fn__fitting F4 B⟩
  have H_run_by_liking : Has l.prog w K mg base "run_by_liking" 2 ["hall", "order", "liking"] c_run_by_liking := ⟨f5, _, PySem.W.mg_of X G a5, k5, b5, fn_run_by_liking F5 B H__fitting⟩
  have H_order_by_feet : Has l.prog w K mg base "order_by_feet" 1 ["hall"] c_order_by_feet := ⟨f6, _, PySem.W.mg_of X G a6, k6, b6, fn_order_by_feet F6 B⟩
  have H__by_size : Has l.prog w K mg base "_by_size" 1 ["hall", "pairs"] c__by_size := ⟨f7, _, PySem.W.mg_of X G a7, k7, b7, fn__by_size F7 B⟩
  have H__run_against : Has l.prog w K mg base "_run_against" 3 ["hall", "others", "guest"] c__run_against := ⟨f8, _, PySem.W.mg_of X G a8, k8, b8, fn__run_against F8 B H_run_by_liking H_order_by_feet H__by_size⟩
  have H_can_miss : Has l.prog w K mg base "can_miss" 4 ["hall", "order", "guest"] c_can_miss := ⟨f9, _, PySem.W.mg_of X G a9, k9, b9, fn_can_miss F9 B H__run_against⟩
  have H_small_run : Has l.prog w K mg base "small_run" 3 ["hall", "order"] c_small_run := ⟨f10, _, PySem.W.mg_of X G a10, k10, b10, fn_small_run F10 B H_run_by_liking⟩
  have H_large_run : Has l.prog w K mg base "large_run" 3 ["hall", "order"] c_large_run := ⟨f11, _, PySem.W.mg_of X G a11, k11, b11, fn_large_run F11 B H_run_by_liking⟩
  have H__law_moved_right : Has l.prog w K mg base "_law_moved_right" 5 ["hall", "order", "spot"] c__law_moved_right := ⟨f12, _, PySem.W.mg_of X G a12, k12, b12, fn__law_moved_right F12 B H_can_miss⟩
  have H_counts_at : Has l.prog w K mg base "counts_at" 1 ["hall", "size"] c_counts_at := ⟨f13, _, PySem.W.mg_of X G a13, k13, b13, fn_counts_at F13 B⟩
  have H__foot_sizes : Has l.prog w K mg base "_foot_sizes" 1 ["hall"] c__foot_sizes := ⟨f14, _, PySem.W.mg_of X G a14, k14, b14, fn__foot_sizes F14 B⟩
  have H__deciding_sizes : Has l.prog w K mg base "_deciding_sizes" 2 ["hall"] c__deciding_sizes := ⟨f15, _, PySem.W.mg_of X G a15, k15, b15, fn__deciding_sizes F15 B H__foot_sizes⟩
  have H_fewest_served : Has l.prog w K mg base "fewest_served" 3 ["hall"] c_fewest_served := ⟨f16, _, PySem.W.mg_of X G a16, k16, b16, fn_fewest_served F16 B H_counts_at H__deciding_sizes⟩
  have H_most_served : Has l.prog w K mg base "most_served" 3 ["hall"] c_most_served := ⟨f17, _, PySem.W.mg_of X G a17, k17, b17, fn_most_served F17 B H_counts_at H__deciding_sizes⟩
  have H_left_by : Has l.prog w K mg base "left_by" 1 ["hall", "run"] c_left_by := ⟨f18, _, PySem.W.mg_of X G a18, k18, b18, fn_left_by F18 B⟩
  have H__large_then_small : Has l.prog w K mg base "_large_then_small" 4 ["hall", "many"] c__large_then_small := ⟨f19, _, PySem.W.mg_of X G a19, k19, b19, fn__large_then_small F19 B H_order_by_feet H_large_run H_run_by_liking H__by_size H_left_by⟩
  have H_served_by : Has l.prog w K mg base "served_by" 1 ["hall", "run"] c_served_by := ⟨f20, _, PySem.W.mg_of X G a20, k20, b20, fn_served_by F20 B⟩
  have H_run_with : Has l.prog w K mg base "run_with" 5 ["hall", "number"] c_run_with := ⟨f21, _, PySem.W.mg_of X G a21, k21, b21, fn_run_with F21 B H__large_then_small H_served_by⟩
  have H__law_ends_right : Has l.prog w K mg base "_law_ends_right" 6 ["hall"] c__law_ends_right := ⟨f22, _, PySem.W.mg_of X G a22, k22, b22, fn__law_ends_right F22 B H_fewest_served H_most_served H_run_with⟩
  have H_run_leaving : Has l.prog w K mg base "run_leaving" 3 ["hall", "pair"] c_run_leaving := ⟨f23, _, PySem.W.mg_of X G a23, k23, b23, fn_run_leaving F23 B H_run_by_liking H_order_by_feet H_left_by H__by_size⟩
  have H_run_without : Has l.prog w K mg base "run_without" 4 ["hall", "guest"] c_run_without := ⟨f24, _, PySem.W.mg_of X G a24, k24, b24, fn_run_without F24 B H__run_against⟩
  exact fn_law (fun_mk (st := s_law) l25 c25 k25) B H__law_draws H__law_hall H__law_order H_can_miss H_small_run H_large_run H__law_moved_right H__law_ends_right H_run_leaving H_run_without H_counts_at H__law_next
theorem all_mk2 {l : PySem.W.OpenLaw} {w : World} {K : PySem.W.Frag} {h : Heap} {mg : Str → Option Value} {fa : Addr}  (X : K.In h) (G : h.Ns mainGlobals mg) (hfa : mg "law" = some (.ref fa))
    {f0 : Addr} {od0 an0 : Option Addr} {sl0 : Array (Option Value)} {oc0 kV0 dc0 pm0 cd0 ct0 : Value}
    (a0 : PySem.W.nsIn K mainGlobals "_law_draws" = some (some (.ref f0)))
    (l0 : K.lookup f0 = some ⟨oc0, od0, .func (PySem.W.fnOf "_law_draws" "_law_draws" (defArgs s__law_draws) (defBody s__law_draws) (defScope s__law_draws) .none kV0 dc0 pm0 an0 cd0 ct0), sl0⟩) (c0 : PySem.W.codeIn K cd0 "_law_draws" = true) (k0 : PySem.W.keepIn K (.ref f0) = true)
    {f1 : Addr} {od1 an1 : Option Addr} {sl1 : Array (Option Value)} {oc1 kV1 dc1 pm1 cd1 ct1 : Value}
    (a1 : PySem.W.nsIn K mainGlobals "_law_next" = some (some (.ref f1)))
    (l1 : K.lookup f1 = some ⟨oc1, od1, .func (PySem.W.fnOf "_law_next" "_law_next" (defArgs s__law_next) (defBody s__law_next) (defScope s__law_next) .none kV1 dc1 pm1 an1 cd1 ct1), sl1⟩) (c1 : PySem.W.codeIn K cd1 "_law_next" = true) (k1 : PySem.W.keepIn K (.ref f1) = true)
    {f2 : Addr} {od2 an2 : Option Addr} {sl2 : Array (Option Value)} {oc2 kV2 dc2 pm2 cd2 ct2 : Value}
    (a2 : PySem.W.nsIn K mainGlobals "_law_hall" = some (some (.ref f2)))
    (l2 : K.lookup f2 = some ⟨oc2, od2, .func (PySem.W.fnOf "_law_hall" "_law_hall" (defArgs s__law_hall) (defBody s__law_hall) (defScope s__law_hall) .none kV2 dc2 pm2 an2 cd2 ct2), sl2⟩) (c2 : PySem.W.codeIn K cd2 "_law_hall" = true) (k2 : PySem.W.keepIn K (.ref f2) = true)
    {f3 : Addr} {od3 an3 : Option Addr} {sl3 : Array (Option Value)} {oc3 kV3 dc3 pm3 cd3 ct3 : Value}
    (a3 : PySem.W.nsIn K mainGlobals "_law_order" = some (some (.ref f3)))
    (l3 : K.lookup f3 = some ⟨oc3, od3, .func (PySem.W.fnOf "_law_order" "_law_order" (defArgs s__law_order) (defBody s__law_order) (defScope s__law_order) .none kV3 dc3 pm3 an3 cd3 ct3), sl3⟩) (c3 : PySem.W.codeIn K cd3 "_law_order" = true) (k3 : PySem.W.keepIn K (.ref f3) = true)
    {f4 : Addr} {od4 an4 : Option Addr} {sl4 : Array (Option Value)} {oc4 kV4 dc4 pm4 cd4 ct4 : Value}
    (a4 : PySem.W.nsIn K mainGlobals "_fitting" = some (some (.ref f4)))
    (l4 : K.lookup f4 = some ⟨oc4, od4, .func (PySem.W.fnOf "_fitting" "_fitting" (defArgs s__fitting) (defBody s__fitting) (defScope s__fitting) .none kV4 dc4 pm4 an4 cd4 ct4), sl4⟩) (c4 : PySem.W.codeIn K cd4 "_fitting" = true) (k4 : PySem.W.keepIn K (.ref f4) = true)
    {f5 : Addr} {od5 an5 : Option Addr} {sl5 : Array (Option Value)} {oc5 kV5 dc5 pm5 cd5 ct5 : Value}
    (a5 : PySem.W.nsIn K mainGlobals "run_by_liking" = some (some (.ref f5)))
    (l5 : K.lookup f5 = some ⟨oc5, od5, .func (PySem.W.fnOf "run_by_liking" "run_by_liking" (defArgs s_run_by_liking) (defBody s_run_by_liking) (defScope s_run_by_liking) .none kV5 dc5 pm5 an5 cd5 ct5), sl5⟩) (c5 : PySem.W.codeIn K cd5 "run_by_liking" = true) (k5 : PySem.W.keepIn K (.ref f5) = true)
    {f6 : Addr} {od6 an6 : Option Addr} {sl6 : Array (Option Value)} {oc6 kV6 dc6 pm6 cd6 ct6 : Value}
    (a6 : PySem.W.nsIn K mainGlobals "order_by_feet" = some (some (.ref f6)))
    (l6 : K.lookup f6 = some ⟨oc6, od6, .func (PySem.W.fnOf "order_by_feet" "order_by_feet" (defArgs s_order_by_feet) (defBody s_order_by_feet) (defScope s_order_by_feet) .none kV6 dc6 pm6 an6 cd6 ct6), sl6⟩) (c6 : PySem.W.codeIn K cd6 "order_by_feet" = true) (k6 : PySem.W.keepIn K (.ref f6) = true)
    {f7 : Addr} {od7 an7 : Option Addr} {sl7 : Array (Option Value)} {oc7 kV7 dc7 pm7 cd7 ct7 : Value}
    (a7 : PySem.W.nsIn K mainGlobals "_by_size" = some (some (.ref f7)))
    (l7 : K.lookup f7 = some ⟨oc7, od7, .func (PySem.W.fnOf "_by_size" "_by_size" (defArgs s__by_size) (defBody s__by_size) (defScope s__by_size) .none kV7 dc7 pm7 an7 cd7 ct7), sl7⟩) (c7 : PySem.W.codeIn K cd7 "_by_size" = true) (k7 : PySem.W.keepIn K (.ref f7) = true)
    {f8 : Addr} {od8 an8 : Option Addr} {sl8 : Array (Option Value)} {oc8 kV8 dc8 pm8 cd8 ct8 : Value}
    (a8 : PySem.W.nsIn K mainGlobals "_run_against" = some (some (.ref f8)))
    (l8 : K.lookup f8 = some ⟨oc8, od8, .func (PySem.W.fnOf "_run_against" "_run_against" (defArgs s__run_against) (defBody s__run_against) (defScope s__run_against) .none kV8 dc8 pm8 an8 cd8 ct8), sl8⟩) (c8 : PySem.W.codeIn K cd8 "_run_against" = true) (k8 : PySem.W.keepIn K (.ref f8) = true)
    {f9 : Addr} {od9 an9 : Option Addr} {sl9 : Array (Option Value)} {oc9 kV9 dc9 pm9 cd9 ct9 : Value}
    (a9 : PySem.W.nsIn K mainGlobals "can_miss" = some (some (.ref f9)))
    (l9 : K.lookup f9 = some ⟨oc9, od9, .func (PySem.W.fnOf "can_miss" "can_miss" (defArgs s_can_miss) (defBody s_can_miss) (defScope s_can_miss) .none kV9 dc9 pm9 an9 cd9 ct9), sl9⟩) (c9 : PySem.W.codeIn K cd9 "can_miss" = true) (k9 : PySem.W.keepIn K (.ref f9) = true)
    {f10 : Addr} {od10 an10 : Option Addr} {sl10 : Array (Option Value)} {oc10 kV10 dc10 pm10 cd10 ct10 : Value}
    (a10 : PySem.W.nsIn K mainGlobals "small_run" = some (some (.ref f10)))
    (l10 : K.lookup f10 = some ⟨oc10, od10, .func (PySem.W.fnOf "small_run" "small_run" (defArgs s_small_run) (defBody s_small_run) (defScope s_small_run) .none kV10 dc10 pm10 an10 cd10 ct10), sl10⟩) (c10 : PySem.W.codeIn K cd10 "small_run" = true) (k10 : PySem.W.keepIn K (.ref f10) = true)
    {f11 : Addr} {od11 an11 : Option Addr} {sl11 : Array (Option Value)} {oc11 kV11 dc11 pm11 cd11 ct11 : Value}
    (a11 : PySem.W.nsIn K mainGlobals "large_run" = some (some (.ref f11)))
    (l11 : K.lookup f11 = some ⟨oc11, od11, .func (PySem.W.fnOf "large_run" "large_run" (defArgs s_large_run) (defBody s_large_run) (defScope s_large_run) .none kV11 dc11 pm11 an11 cd11 ct11), sl11⟩) (c11 : PySem.W.codeIn K cd11 "large_run" = true) (k11 : PySem.W.keepIn K (.ref f11) = true)
    {f12 : Addr} {od12 an12 : Option Addr} {sl12 : Array (Option Value)} {oc12 kV12 dc12 pm12 cd12 ct12 : Value}
    (a12 : PySem.W.nsIn K mainGlobals "_law_moved_right" = some (some (.ref f12)))
    (l12 : K.lookup f12 = some ⟨oc12, od12, .func (PySem.W.fnOf "_law_moved_right" "_law_moved_right" (defArgs s__law_moved_right) (defBody s__law_moved_right) (defScope s__law_moved_right) .none kV12 dc12 pm12 an12 cd12 ct12), sl12⟩) (c12 : PySem.W.codeIn K cd12 "_law_moved_right" = true) (k12 : PySem.W.keepIn K (.ref f12) = true)
    {f13 : Addr} {od13 an13 : Option Addr} {sl13 : Array (Option Value)} {oc13 kV13 dc13 pm13 cd13 ct13 : Value}
    (a13 : PySem.W.nsIn K mainGlobals "counts_at" = some (some (.ref f13)))
    (l13 : K.lookup f13 = some ⟨oc13, od13, .func (PySem.W.fnOf "counts_at" "counts_at" (defArgs s_counts_at) (defBody s_counts_at) (defScope s_counts_at) .none kV13 dc13 pm13 an13 cd13 ct13), sl13⟩) (c13 : PySem.W.codeIn K cd13 "counts_at" = true) (k13 : PySem.W.keepIn K (.ref f13) = true)
    {f14 : Addr} {od14 an14 : Option Addr} {sl14 : Array (Option Value)} {oc14 kV14 dc14 pm14 cd14 ct14 : Value}
    (a14 : PySem.W.nsIn K mainGlobals "_foot_sizes" = some (some (.ref f14)))
    (l14 : K.lookup f14 = some ⟨oc14, od14, .func (PySem.W.fnOf "_foot_sizes" "_foot_sizes" (defArgs s__foot_sizes) (defBody s__foot_sizes) (defScope s__foot_sizes) .none kV14 dc14 pm14 an14 cd14 ct14), sl14⟩) (c14 : PySem.W.codeIn K cd14 "_foot_sizes" = true) (k14 : PySem.W.keepIn K (.ref f14) = true)
    {f15 : Addr} {od15 an15 : Option Addr} {sl15 : Array (Option Value)} {oc15 kV15 dc15 pm15 cd15 ct15 : Value}
    (a15 : PySem.W.nsIn K mainGlobals "_deciding_sizes" = some (some (.ref f15)))
    (l15 : K.lookup f15 = some ⟨oc15, od15, .func (PySem.W.fnOf "_deciding_sizes" "_deciding_sizes" (defArgs s__deciding_sizes) (defBody s__deciding_sizes) (defScope s__deciding_sizes) .none kV15 dc15 pm15 an15 cd15 ct15), sl15⟩) (c15 : PySem.W.codeIn K cd15 "_deciding_sizes" = true) (k15 : PySem.W.keepIn K (.ref f15) = true)
    {f16 : Addr} {od16 an16 : Option Addr} {sl16 : Array (Option Value)} {oc16 kV16 dc16 pm16 cd16 ct16 : Value}
    (a16 : PySem.W.nsIn K mainGlobals "fewest_served" = some (some (.ref f16)))
    (l16 : K.lookup f16 = some ⟨oc16, od16, .func (PySem.W.fnOf "fewest_served" "fewest_served" (defArgs s_fewest_served) (defBody s_fewest_served) (defScope s_fewest_served) .none kV16 dc16 pm16 an16 cd16 ct16), sl16⟩) (c16 : PySem.W.codeIn K cd16 "fewest_served" = true) (k16 : PySem.W.keepIn K (.ref f16) = true)
    {f17 : Addr} {od17 an17 : Option Addr} {sl17 : Array (Option Value)} {oc17 kV17 dc17 pm17 cd17 ct17 : Value}
    (a17 : PySem.W.nsIn K mainGlobals "most_served" = some (some (.ref f17)))
    (l17 : K.lookup f17 = some ⟨oc17, od17, .func (PySem.W.fnOf "most_served" "most_served" (defArgs s_most_served) (defBody s_most_served) (defScope s_most_served) .none kV17 dc17 pm17 an17 cd17 ct17), sl17⟩) (c17 : PySem.W.codeIn K cd17 "most_served" = true) (k17 : PySem.W.keepIn K (.ref f17) = true)
    {f18 : Addr} {od18 an18 : Option Addr} {sl18 : Array (Option Value)} {oc18 kV18 dc18 pm18 cd18 ct18 : Value}
    (a18 : PySem.W.nsIn K mainGlobals "left_by" = some (some (.ref f18)))
    (l18 : K.lookup f18 = some ⟨oc18, od18, .func (PySem.W.fnOf "left_by" "left_by" (defArgs s_left_by) (defBody s_left_by) (defScope s_left_by) .none kV18 dc18 pm18 an18 cd18 ct18), sl18⟩) (c18 : PySem.W.codeIn K cd18 "left_by" = true) (k18 : PySem.W.keepIn K (.ref f18) = true)
    {f19 : Addr} {od19 an19 : Option Addr} {sl19 : Array (Option Value)} {oc19 kV19 dc19 pm19 cd19 ct19 : Value}
    (a19 : PySem.W.nsIn K mainGlobals "_large_then_small" = some (some (.ref f19)))
    (l19 : K.lookup f19 = some ⟨oc19, od19, .func (PySem.W.fnOf "_large_then_small" "_large_then_small" (defArgs s__large_then_small) (defBody s__large_then_small) (defScope s__large_then_small) .none kV19 dc19 pm19 an19 cd19 ct19), sl19⟩) (c19 : PySem.W.codeIn K cd19 "_large_then_small" = true) (k19 : PySem.W.keepIn K (.ref f19) = true)
    {f20 : Addr} {od20 an20 : Option Addr} {sl20 : Array (Option Value)} {oc20 kV20 dc20 pm20 cd20 ct20 : Value}
    (a20 : PySem.W.nsIn K mainGlobals "served_by" = some (some (.ref f20)))
    (l20 : K.lookup f20 = some ⟨oc20, od20, .func (PySem.W.fnOf "served_by" "served_by" (defArgs s_served_by) (defBody s_served_by) (defScope s_served_by) .none kV20 dc20 pm20 an20 cd20 ct20), sl20⟩) (c20 : PySem.W.codeIn K cd20 "served_by" = true) (k20 : PySem.W.keepIn K (.ref f20) = true)
    {f21 : Addr} {od21 an21 : Option Addr} {sl21 : Array (Option Value)} {oc21 kV21 dc21 pm21 cd21 ct21 : Value}
    (a21 : PySem.W.nsIn K mainGlobals "run_with" = some (some (.ref f21)))
    (l21 : K.lookup f21 = some ⟨oc21, od21, .func (PySem.W.fnOf "run_with" "run_with" (defArgs s_run_with) (defBody s_run_with) (defScope s_run_with) .none kV21 dc21 pm21 an21 cd21 ct21), sl21⟩) (c21 : PySem.W.codeIn K cd21 "run_with" = true) (k21 : PySem.W.keepIn K (.ref f21) = true)
    {f22 : Addr} {od22 an22 : Option Addr} {sl22 : Array (Option Value)} {oc22 kV22 dc22 pm22 cd22 ct22 : Value}
    (a22 : PySem.W.nsIn K mainGlobals "_law_ends_right" = some (some (.ref f22)))
    (l22 : K.lookup f22 = some ⟨oc22, od22, .func (PySem.W.fnOf "_law_ends_right" "_law_ends_right" (defArgs s__law_ends_right) (defBody s__law_ends_right) (defScope s__law_ends_right) .none kV22 dc22 pm22 an22 cd22 ct22), sl22⟩) (c22 : PySem.W.codeIn K cd22 "_law_ends_right" = true) (k22 : PySem.W.keepIn K (.ref f22) = true)
    {f23 : Addr} {od23 an23 : Option Addr} {sl23 : Array (Option Value)} {oc23 kV23 dc23 pm23 cd23 ct23 : Value}
    (a23 : PySem.W.nsIn K mainGlobals "run_leaving" = some (some (.ref f23)))
    (l23 : K.lookup f23 = some ⟨oc23, od23, .func (PySem.W.fnOf "run_leaving" "run_leaving" (defArgs s_run_leaving) (defBody s_run_leaving) (defScope s_run_leaving) .none kV23 dc23 pm23 an23 cd23 ct23), sl23⟩) (c23 : PySem.W.codeIn K cd23 "run_leaving" = true) (k23 : PySem.W.keepIn K (.ref f23) = true)
    {f24 : Addr} {od24 an24 : Option Addr} {sl24 : Array (Option Value)} {oc24 kV24 dc24 pm24 cd24 ct24 : Value}
    (a24 : PySem.W.nsIn K mainGlobals "run_without" = some (some (.ref f24)))
    (l24 : K.lookup f24 = some ⟨oc24, od24, .func (PySem.W.fnOf "run_without" "run_without" (defArgs s_run_without) (defBody s_run_without) (defScope s_run_without) .none kV24 dc24 pm24 an24 cd24 ct24), sl24⟩) (c24 : PySem.W.codeIn K cd24 "run_without" = true) (k24 : PySem.W.keepIn K (.ref f24) = true)
    {f25 : Addr} {od25 an25 : Option Addr} {sl25 : Array (Option Value)} {oc25 kV25 dc25 pm25 cd25 ct25 : Value}
    (a25 : PySem.W.nsIn K mainGlobals "law" = some (some (.ref f25)))
    (l25 : K.lookup f25 = some ⟨oc25, od25, .func (PySem.W.fnOf "law" "law" (defArgs s_law) (defBody s_law) (defScope s_law) .none kV25 dc25 pm25 an25 cd25 ct25), sl25⟩) (c25 : PySem.W.codeIn K cd25 "law" = true) (k25 : PySem.W.keepIn K (.ref f25) = true)
    (z_enumerate : PySem.W.nsIn K mainGlobals "enumerate" = some none)
    (z_int : PySem.W.nsIn K mainGlobals "int" = some none)
    (z_len : PySem.W.nsIn K mainGlobals "len" = some none)
    (z_list : PySem.W.nsIn K mainGlobals "list" = some none)
    (z_max : PySem.W.nsIn K mainGlobals "max" = some none)
    (z_min : PySem.W.nsIn K mainGlobals "min" = some none)
    (z_range : PySem.W.nsIn K mainGlobals "range" = some none)
    (z_set : PySem.W.nsIn K mainGlobals "set" = some none)
    (z_sorted : PySem.W.nsIn K mainGlobals "sorted" = some none)
    (z_sum : PySem.W.nsIn K mainGlobals "sum" = some none)
    (z_tuple : PySem.W.nsIn K mainGlobals "tuple" = some none)
    {t_MAX_SIZE : Tok} (y_MAX_SIZE : PySem.W.nsIn K mainGlobals "MAX_SIZE" = some (some (.int (1000000) t_MAX_SIZE)))
    {t_NO_PAIR : Tok} (y_NO_PAIR : PySem.W.nsIn K mainGlobals "NO_PAIR" = some (some (.int (-1) t_NO_PAIR)))
    : ∃ fd : FuncData, (∀ (s : Shared) (v : Value), BindsTo s fd ⟨[v], []⟩ [("script", v)]) ∧ ∀ base : Heap, K.In base → base.Ns mainGlobals mg → FnG l.prog w K mg base 7 fa fd ["script"] (spLaw K) :=
  all_mk (C := ⟨⟩) X G hfa a0 l0 c0 k0 a1 l1 c1 k1 a2 l2 c2 k2 a3 l3 c3 k3 a4 l4 c4 k4 a5 l5 c5 k5 a6 l6 c6 k6 a7 l7 c7 k7 a8 l8 c8 k8 a9 l9 c9 k9 a10 l10 c10 k10 a11 l11 c11 k11 a12 l12 c12 k12 a13 l13 c13 k13 a14 l14 c14 k14 a15 l15 c15 k15 a16 l16 c16 k16 a17 l17 c17 k17 a18 l18 c18 k18 a19 l19 c19 k19 a20 l20 c20 k20 a21 l21 c21 k21 a22 l22 c22 k22 a23 l23 c23 k23 a24 l24 c24 k24 a25 l25 c25 k25 z_enumerate z_int z_len z_list z_max z_min z_range z_set z_sorted z_sum z_tuple y_MAX_SIZE y_NO_PAIR
end DL
open PySem PySem.W PyProof.Rows in
set_option maxRecDepth 100000 in
set_option maxHeartbeats 0 in
theorem PySem.Challenge.cw_shoeparty_k23_whole_orders_holds : PySem.Challenge.rw_shoeparty_k23_whole_orders.Holds := by
  w_on; o_law; k_head; (case hw => w_witness2)
  k_fill
  refine DL.walk_g (l := PySem.Challenge.rw_shoeparty_k23_whole_orders) (k := 7) (x := "script") rfl rfl ⟨rfl, by decide, by decide⟩ (fun w h Y => PySem.W.kIn_of Y) ?F
  case F =>
    intro w mg fa h KX G hmg
    refine' DL.all_mk2 KX G hmg ?a0 ?l0 ?c0 ?k0 ?a1 ?l1 ?c1 ?k1 ?a2 ?l2 ?c2 ?k2 ?a3 ?l3 ?c3 ?k3 ?a4 ?l4 ?c4 ?k4 ?a5 ?l5 ?c5 ?k5 ?a6 ?l6 ?c6 ?k6 ?a7 ?l7 ?c7 ?k7 ?a8 ?l8 ?c8 ?k8 ?a9 ?l9 ?c9 ?k9 ?a10 ?l10 ?c10 ?k10 ?a11 ?l11 ?c11 ?k11 ?a12 ?l12 ?c12 ?k12 ?a13 ?l13 ?c13 ?k13 ?a14 ?l14 ?c14 ?k14 ?a15 ?l15 ?c15 ?k15 ?a16 ?l16 ?c16 ?k16 ?a17 ?l17 ?c17 ?k17 ?a18 ?l18 ?c18 ?k18 ?a19 ?l19 ?c19 ?k19 ?a20 ?l20 ?c20 ?k20 ?a21 ?l21 ?c21 ?k21 ?a22 ?l22 ?c22 ?k22 ?a23 ?l23 ?c23 ?k23 ?a24 ?l24 ?c24 ?k24 ?a25 ?l25 ?c25 ?k25 ?z_enumerate ?z_int ?z_len ?z_list ?z_max ?z_min ?z_range ?z_set ?z_sorted ?z_sum ?z_tuple ?y_MAX_SIZE ?y_NO_PAIR
    (case a0 => k_is)
    (case l0 => k_is)
    (case c0 => k_is)
    (case k0 => k_is)
    (case a1 => k_is)
    (case l1 => k_is)
    (case c1 => k_is)
    (case k1 => k_is)
    (case a2 => k_is)
    (case l2 => k_is)
    (case c2 => k_is)
    (case k2 => k_is)
    (case a3 => k_is)
    (case l3 => k_is)
    (case c3 => k_is)
    (case k3 => k_is)
    (case a4 => k_is)
    (case l4 => k_is)
    (case c4 => k_is)
    (case k4 => k_is)
    (case a5 => k_is)
    (case l5 => k_is)
    (case c5 => k_is)
    (case k5 => k_is)
    (case a6 => k_is)
    (case l6 => k_is)
    (case c6 => k_is)
    (case k6 => k_is)
    (case a7 => k_is)
    (case l7 => k_is)
    (case c7 => k_is)
    (case k7 => k_is)
    (case a8 => k_is)
    (case l8 => k_is)
    (case c8 => k_is)
    (case k8 => k_is)
    (case a9 => k_is)
    (case l9 => k_is)
    (case c9 => k_is)
    (case k9 => k_is)
    (case a10 => k_is)
    (case l10 => k_is)
    (case c10 => k_is)
    (case k10 => k_is)
    (case a11 => k_is)
    (case l11 => k_is)
    (case c11 => k_is)
    (case k11 => k_is)
    (case a12 => k_is)
    (case l12 => k_is)
    (case c12 => k_is)
    (case k12 => k_is)
    (case a13 => k_is)
    (case l13 => k_is)
    (case c13 => k_is)
    (case k13 => k_is)
    (case a14 => k_is)
    (case l14 => k_is)
    (case c14 => k_is)
    (case k14 => k_is)
    (case a15 => k_is)
    (case l15 => k_is)
    (case c15 => k_is)
    (case k15 => k_is)
    (case a16 => k_is)
    (case l16 => k_is)
    (case c16 => k_is)
    (case k16 => k_is)
    (case a17 => k_is)
    (case l17 => k_is)
    (case c17 => k_is)
    (case k17 => k_is)
    (case a18 => k_is)
    (case l18 => k_is)
    (case c18 => k_is)
    (case k18 => k_is)
    (case a19 => k_is)
    (case l19 => k_is)
    (case c19 => k_is)
    (case k19 => k_is)
    (case a20 => k_is)
    (case l20 => k_is)
    (case c20 => k_is)
    (case k20 => k_is)
    (case a21 => k_is)
    (case l21 => k_is)
    (case c21 => k_is)
    (case k21 => k_is)
    (case a22 => k_is)
    (case l22 => k_is)
    (case c22 => k_is)
    (case k22 => k_is)
    (case a23 => k_is)
    (case l23 => k_is)
    (case c23 => k_is)
    (case k23 => k_is)
    (case a24 => k_is)
    (case l24 => k_is)
    (case c24 => k_is)
    (case k24 => k_is)
    (case a25 => k_is)
    (case l25 => k_is)
    (case c25 => k_is)
    (case k25 => k_is)
    (case z_enumerate => k_is)
    (case z_int => k_is)
    (case z_len => k_is)
    (case z_list => k_is)
    (case z_max => k_is)
    (case z_min => k_is)
    (case z_range => k_is)
    (case z_set => k_is)
    (case z_sorted => k_is)
    (case z_sum => k_is)
    (case z_tuple => k_is)
    (case y_MAX_SIZE => k_is)
    (case y_NO_PAIR => k_is)
#print axioms PySem.Challenge.cw_shoeparty_k23_whole_orders_holds
