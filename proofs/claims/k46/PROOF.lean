import PyProof.Rows.All
import Wide.All
import OpenK.AllK
import Wide.FinOn
import HandS.ForMost
import HandS.TupAny
import HandS.TupMul
import HandS.IsInst
import HandS.SortInts
import HandS.Wide
import HandS.Style
import HandS.Flow
import HandS.Deep
import HandS.SetFor
import HandS.Conv
import HandS.SortRule
import HandS.RaiseMore
import HandS.Zip
import KE.GoesMore
import KE.GoesEnum
import HandS.Strs
import HandS.NoneIn
import HandS.List
import HandS.SortOrd
import HandS.Text
import HandS.FStr
import KE.KDictZip
import PyProof.TupleOfGen
import HandS.DictEq
import HandS.ForExc
import HandS.ExcInit
import HandS.ExcField
import HandS.ExcIs
import HandS.TryMany
import KE.KExcIs
import KE.KIsAll
import PySem.Challenge.RW_shoeparty_k46_pledges
set_option Elab.async false
set_option linter.all false
set_option maxRecDepth 100000
namespace DL
open PySem PySem.Spec PyProof.Rows L2

def keyD : Key → PyData
  | .inl i => .int i
  | .inr s => .str s
/-- a dict of ints under plain keys -/
def DctR (kvs : List (PyData × PyData)) (ks : List (Key × V)) : Prop :=
  ∃ ps : List (Key × Int), ks = ps.map (fun p => (p.1, V.int p.2)) ∧ kvs = ps.map (fun p => (keyD p.1, PyData.int p.2))
/-- a thing with a life of its own, named by its address -/
def refD (a : Addr) : PyData := .dict [(.none, .int (((2 : Nat) ^ 2000 + a : Nat) : Int))]
mutual
def Rp (K : PySem.W.Frag) (F : Hp) : PyData → V → Prop
  | .none, v => v = .non
  | .bool b, v => v = .bl b
  | .int i, v => v = .int i
  | .str s, v => v = .str s
  | .list ds, v => ∃ a xs, v = .ref a ∧ F a = some (.lst xs) ∧ Rps K F ds xs
  | .tuple ds, v => ∃ a xs, v = .ref a ∧ F a = some (.tup xs) ∧ Rps K F ds xs
  | .dict kvs, v => (∃ a ks, v = .ref a ∧ F a = some (.dK ks) ∧ DctR kvs ks) ∨ ∃ a : Addr, PyData.dict kvs = refD a ∧ v = .ref a
def Rps (K : PySem.W.Frag) (F : Hp) : List PyData → List V → Prop
  | [], vs => vs = []
  | d :: ds, vs => ∃ v r, vs = v :: r ∧ Rp K F d v ∧ Rps K F ds r
end
section
variable {K : PySem.W.Frag} {F F' H H' : Hp}
mutual
theorem Rp.mono (e : Same F F') : ∀ (d : PyData) (v : V), Rp K F d v → Rp K F' d v
  | .none, _, h => by simpa only [Rp] using h
  | .bool _, _, h => by simpa only [Rp] using h
  | .int _, _, h => by simpa only [Rp] using h
  | .str _, _, h => by simpa only [Rp] using h
  | .list ds, _, h => by
    simp only [Rp] at h ⊢
    obtain ⟨a, xs, rfl, h1, h2⟩ := h
    exact ⟨a, xs, rfl, e _ _ h1, Rps.mono e ds xs h2⟩
  | .tuple ds, _, h => by
    simp only [Rp] at h ⊢
    obtain ⟨a, xs, rfl, h1, h2⟩ := h
    exact ⟨a, xs, rfl, e _ _ h1, Rps.mono e ds xs h2⟩
  | .dict kvs, _, h => by
    simp only [Rp] at h ⊢
    rcases h with ⟨a, ks, rfl, h1, h2⟩ | h
    · exact .inl ⟨a, ks, rfl, e _ _ h1, h2⟩
    · exact .inr h
theorem Rps.mono (e : Same F F') : ∀ (ds : List PyData) (vs : List V), Rps K F ds vs → Rps K F' ds vs
  | [], _, h => by simpa only [Rps] using h
  | d :: ds, _, h => by
    simp only [Rps] at h ⊢
    obtain ⟨v, r, rfl, h1, h2⟩ := h
    exact ⟨v, r, rfl, Rp.mono e d v h1, Rps.mono e ds r h2⟩
end
theorem rp_ref {a : Addr} : Rp K F (refD a) (.ref a) := by
  have : Rp K F (.dict [(.none, .int (((2 : Nat) ^ 2000 + a : Nat) : Int))]) (.ref a) := by
    simp only [Rp]
    exact .inr ⟨a, rfl, rfl⟩
  exact this
theorem refD_inj {a b : Addr} (h : refD a = refD b) : a = b := by
  unfold refD at h
  injection h with h
  injection h with h
  injection h with _ h
  injection h with h
  exact Nat.add_left_cancel (Int.ofNat.inj h)
theorem keyD_ne {k : Key} : keyD k ≠ .none := by cases k <;> nofun
theorem ref_no {kvs : List (PyData × PyData)} {ks : List (Key × V)} {a : Addr} (h : DctR kvs ks) (e : PyData.dict kvs = refD a) : False := by
  obtain ⟨ps, _, e2⟩ := h
  unfold refD at e
  injection e with e
  rw [e2] at e
  cases ps with
  | nil => cases e
  | cons q ps =>
    rw [List.map_cons] at e
    injection e with e _
    injection e with e _
    exact absurd e keyD_ne
theorem Rp.ref {a : Addr} {v : V} (h : Rp K F (refD a) v) : v = .ref a := by
  have h : Rp K F (.dict [(.none, .int (((2 : Nat) ^ 2000 + a : Nat) : Int))]) v := h
  simp only [Rp] at h
  rcases h with ⟨_, _, _, _, q⟩ | ⟨b, e, rfl⟩
  · exact (ref_no (a := a) q rfl).elim
  · rw [refD_inj (show refD a = refD b from e)]
def isRefD : PyData → Bool
  | .dict [(.none, _)] => true
  | _ => false
theorem isRef_ref {a : Addr} : isRefD (refD a) = true := rfl
theorem rps_nil : Rps K F [] [] := by simp [Rps]
theorem rps_cons {d : PyData} {ds : List PyData} {v : V} {vs : List V} (h1 : Rp K F d v) (h2 : Rps K F ds vs) : Rps K F (d :: ds) (v :: vs) := by
  simp only [Rps]; exact ⟨v, vs, rfl, h1, h2⟩
theorem Rps.length : ∀ {ds : List PyData} {vs : List V}, Rps K F ds vs → ds.length = vs.length
  | [], _, h => by simp only [Rps] at h; subst h; rfl
  | d :: ds, _, h => by
    simp only [Rps] at h
    obtain ⟨v, r, rfl, _, h2⟩ := h
    simp [Rps.length h2]
theorem Rps.get : ∀ {ds : List PyData} {vs : List V} {i : Nat} {d : PyData}, Rps K F ds vs → ds[i]? = some d → ∃ v, vs[i]? = some v ∧ Rp K F d v
  | [], _, i, d, _, e => by simp at e
  | d :: ds, _, 0, d', h, e => by
    simp only [Rps] at h
    obtain ⟨v, r, rfl, h1, _⟩ := h
    simp at e; subst e
    exact ⟨v, rfl, h1⟩
  | d :: ds, _, i + 1, d', h, e => by
    simp only [Rps] at h
    obtain ⟨v, r, rfl, _, h2⟩ := h
    obtain ⟨w, e1, e2⟩ := Rps.get (i := i) h2 (by simpa using e)
    exact ⟨w, by simpa using e1, e2⟩
theorem Rps.getV {ds : List PyData} {vs : List V} {i : Nat} {v : V} (h : Rps K F ds vs) (e : vs[i]? = some v) : ∃ d, ds[i]? = some d ∧ Rp K F d v := by
  have hl := h.length
  obtain ⟨hi, he⟩ := List.getElem?_eq_some_iff.mp e
  have hd : ds[i]? = some (ds[i]'(by omega)) := by simp
  obtain ⟨w, e1, e2⟩ := h.get hd
  rw [e] at e1; cases e1
  exact ⟨_, hd, e2⟩
theorem Rps.append : ∀ {ds es : List PyData} {vs us : List V}, Rps K F ds vs → Rps K F es us → Rps K F (ds ++ es) (vs ++ us)
  | [], _, _, _, h, h' => by simp only [Rps] at h; subst h; exact h'
  | d :: ds, es, _, us, h, h' => by
    simp only [Rps] at h
    obtain ⟨v, r, rfl, h1, h2⟩ := h
    exact rps_cons h1 (Rps.append h2 h')
theorem Rps.take : ∀ (n : Nat) {ds : List PyData} {vs : List V}, Rps K F ds vs → Rps K F (ds.take n) (vs.take n)
  | 0, _, _, _ => by simp [Rps]
  | n + 1, [], _, h => by simp only [Rps] at h; subst h; simp [Rps]
  | n + 1, d :: ds, _, h => by
    simp only [Rps] at h
    obtain ⟨v, r, rfl, h1, h2⟩ := h
    exact rps_cons h1 (Rps.take n h2)
theorem Rps.drop : ∀ (n : Nat) {ds : List PyData} {vs : List V}, Rps K F ds vs → Rps K F (ds.drop n) (vs.drop n)
  | 0, _, _, h => h
  | n + 1, [], _, h => by simp only [Rps] at h; subst h; simp [Rps]
  | n + 1, d :: ds, _, h => by
    simp only [Rps] at h
    obtain ⟨v, r, rfl, h1, h2⟩ := h
    exact Rps.drop n h2
theorem Rps.rev : ∀ {ds : List PyData} {vs : List V}, Rps K F ds vs → Rps K F ds.reverse vs.reverse
  | [], _, h => by simp only [Rps] at h; subst h; simp [Rps]
  | d :: ds, _, h => by
    simp only [Rps] at h
    obtain ⟨v, r, rfl, h1, h2⟩ := h
    rw [List.reverse_cons, List.reverse_cons]
    exact (Rps.rev h2).append (rps_cons h1 rps_nil)
theorem rps_ints : ∀ (ns : List Int), Rps K F (ns.map PyData.int) (ns.map V.int)
  | [] => rps_nil
  | n :: ns => rps_cons (by simp [Rp]) (rps_ints ns)
theorem Rps.ints : ∀ {ns : List Int} {vs : List V}, Rps K F (ns.map PyData.int) vs → vs = ns.map V.int
  | [], _, h => by simpa only [List.map_nil, Rps] using h
  | n :: ns, _, h => by
    simp only [List.map_cons, Rps, Rp] at h
    obtain ⟨v, r, rfl, rfl, h2⟩ := h
    rw [Rps.ints h2]; rfl
end

/-! ### the deck, the slots, the state -/
/-- an object: its class, its fields -/
structure Ob where
  C : Addr
  fs : List (Str × PyData)
/-- an error that is being handled: its class, its own dict, its fields -/
structure Xo where
  cls : Value
  d : Option Addr
  fs : List (Str × PyData)
/-- the world: how many draws, what objects there are -/
structure Wo where
  n : Nat
  ob : Addr → Option Ob
  xs : Addr → Option Xo
def Wo.put (w : Wo) (a : Addr) (o : Ob) : Wo := { w with ob := fun b => if b = a then some o else w.ob b }
def Wo.putX (w : Wo) (a : Addr) (o : Xo) : Wo := { w with xs := fun b => if b = a then some o else w.xs b }
instance : HAdd Wo Nat Wo := ⟨fun w k => { w with n := w.n + k }⟩
/-- later: some draws more -/
instance : LE Wo := ⟨fun w w' => w.n ≤ w'.n ∧ w.ob = w'.ob ∧ w.xs = w'.xs⟩
theorem Wo.add0 (w : Wo) (d : Nat) : w = w + 0 * d := by rw [Nat.zero_mul]; rfl
theorem Wo.le0 (w : Wo) (d : Nat) : w ≤ w + 0 * d := by
  rw [← Wo.add0]
  exact ⟨Nat.le_refl _, rfl, rfl⟩
abbrev FsR (K : PySem.W.Frag) (F : Hp) : List (Str × PyData) → List (Str × V) → Prop := Paired fun p q => p.1 = q.1 ∧ Rp K F p.2 q.2
structure DkS where
  own : List Addr
  at0 : Hp → Nat → Prop
  stay : ∀ (H H' : Hp) (n : Nat), (∀ a, a ∈ own → H' a = H a) → at0 H n → at0 H' n
  lsts : ∀ (H : Hp) (n : Nat), at0 H n → ∀ a, a ∈ own → ∃ xs, H a = some (.lst xs)
def XoAt (K : PySem.W.Frag) (F : Hp) (x : Xo) : Prop := (x.d = none ∧ x.fs = []) ∨ ∃ dd vs, x.d = some dd ∧ F dd = some (.xd vs) ∧ FsR K F x.fs vs
def Obs (K : PySem.W.Frag) (F H : Hp) (w : Wo) : Prop := (∀ a o, w.ob a = some o → F a = none ∧ ∃ dx vs, H a = some (.ins o.C dx vs) ∧ FsR K F o.fs vs) ∧ ∀ a x, w.xs a = some x → XoAt K F x
def DkS.at_ (δ : DkS) (K : PySem.W.Frag) (F H : Hp) (w : Wo) : Prop := δ.at0 H w.n ∧ Obs K F H w
/-- [cells, count] -/
def dkA (a b : Addr) : DkS := ⟨[a, b], fun H n => ∃ cells : List Int, H a = some (.lst [.ref b, .int n]) ∧ H b = some (.lst (cells.map V.int)) ∧ cells.length ≤ 63 ∧ ∀ c ∈ cells, 0 ≤ c, fun H H' n h ⟨cells, h1, h2, h3⟩ =>
  ⟨cells, by rw [h a (by simp)]; exact h1, by rw [h b (by simp)]; exact h2, h3⟩, fun H n ⟨cells, h1, h2, _⟩ x hx => by
  rcases List.mem_cons.mp hx with rfl | hx
  · exact ⟨_, h1⟩
  · rw [List.mem_singleton.mp hx]; exact ⟨_, h2⟩⟩
/-- [cells, count, rests] -/
def dkB (a b c : Addr) : DkS := ⟨[a, b, c], fun H n => ∃ cells rests : List Int, H a = some (.lst [.ref b, .int n, .ref c]) ∧ H b = some (.lst (cells.map V.int)) ∧ H c = some (.lst (rests.map V.int)) ∧ rests.length = cells.length ∧ 1 ≤ cells.length ∧ cells.length ≤ 63 ∧ (∀ c ∈ cells, c = c) ∧ ∀ c ∈ rests, 0 ≤ c,
  fun H H' n h ⟨cells, rests, h1, h2, h3, h4⟩ => ⟨cells, rests, by rw [h a (by simp)]; exact h1, by rw [h b (by simp)]; exact h2, by rw [h c (by simp)]; exact h3, h4⟩, fun H n ⟨cells, rests, h1, h2, h3, _⟩ x hx => by
  rcases List.mem_cons.mp hx with rfl | hx
  · exact ⟨_, h1⟩
  rcases List.mem_cons.mp hx with rfl | hx
  · exact ⟨_, h2⟩
  · rw [List.mem_singleton.mp hx]; exact ⟨_, h3⟩⟩
def IsDk : Bool → DkS → Addr → Prop
  | false, δ, a => ∃ b, δ = dkA a b
  | true, δ, a => ∃ b c, δ = dkB a b c
def DkS.no : DkS := ⟨[], fun _ _ => True, fun _ _ _ _ _ => trivial, fun _ _ _ _ h => nomatch h⟩
/-- F0, H0: the entry; δ: the deck -/
structure Fx where
  F0 : Hp
  H0 : Hp
  δ : DkS
inductive Dv where
  | dat (d : PyData) | vw (ds : List PyData) | mt (ds : List PyData) | deck (b : Bool) | md (a : Addr) (ks : List (Key × V))
def Dv.toD : Dv → PyData
  | .dat d => d
  | .vw ds => .list ds
  | .mt ds => .list ds
  | .deck _ => .none
  | .md _ _ => .none
def Dv.isL : Dv → Bool
  | .vw _ => true
  | .mt _ => true
  | _ => false
def Dv.isDk : Dv → Bool
  | .deck _ => true
  | _ => false
abbrev Rho := List (Option Dv)
/-- a value that an expression hands on -/
def VR (K : PySem.W.Frag) (δ : DkS) (F H : Hp) : Dv → V → Prop
  | .dat d, v => Rp K F d v
  | .vw ds, v => ∃ a vs, v = .ref a ∧ H a = some (.lst vs) ∧ Rps K F ds vs ∧ a ∉ δ.own
  | .mt _, _ => False
  | .deck k, v => ∃ a, v = .ref a ∧ IsDk k δ a
  | .md _ _, _ => False
def SlotV (K : PySem.W.Frag) (Z : Fx) (F H : Hp) : Dv → V → Prop
  | .mt ds, v => ∃ a vs, v = .ref a ∧ Z.H0 a = none ∧ F a = none ∧ H a = some (.lst vs) ∧ Rps K F ds vs ∧ a ∉ Z.δ.own
  | .md a ks, v => v = .ref a ∧ Z.H0 a = none ∧ F a = none ∧ H a = some (.dK ks) ∧ a ∉ Z.δ.own
  | .dat d, v => VR K Z.δ F H (.dat d) v
  | .vw ds, v => VR K Z.δ F H (.vw ds) v
  | .deck k, v => VR K Z.δ F H (.deck k) v
def isIns : HO → Bool
  | .ins _ _ _ => true
  | _ => false
/-- one expression's growth -/
structure Gr (δ : DkS) (F H F' H' : Hp) : Prop where
  sF : Same F F'
  nF : ∀ a, H a ≠ none → F a = none → F' a = none
  kH : ∀ a o, a ∉ δ.own → H a = some o → isIns o = false → H' a = some o
  iH : ∀ a C dx fs, H a = some (.ins C dx fs) → ∃ fs', H' a = some (.ins C dx fs')
  dH : ∀ a, H a ≠ none → H' a ≠ none
structure Base (K : PySem.W.Frag) (Z : Fx) (F H : Hp) (n : Wo) : Prop where
  sub : Same F H
  dk : Z.δ.at_ K F H n
  dkF : ∀ a, a ∈ Z.δ.own → F a = none ∧ H a ≠ none
  gF : Same Z.F0 F
  gN : ∀ a, Z.H0 a ≠ none → Z.F0 a = none → F a = none
  gH : ∀ a o, a ∉ Z.δ.own → Z.H0 a = some o → isIns o = false → H a = some o
  gI : ∀ a C dx fs, Z.H0 a = some (.ins C dx fs) → ∃ fs', H a = some (.ins C dx fs')
structure SR (Y : Fx) (K : PySem.W.Frag) (Z : Fx) (F H : Hp) (σ : L2.St) (ρ : Rho) (n : Wo) : Prop where
  b : Base K Z F H n
  de : Z.δ = Y.δ
  he : Z.H0 = Y.H0
  gr : Gr Y.δ Y.F0 Y.H0 F H
  len : ρ.length = σ.length
  slot : ∀ (i : Nat) (x : Dv), ρ[i]? = some (some x) → ∃ v, σ[i]? = some (some v) ∧ SlotV K Z F H x v
  apart : ∀ (i j : Nat) (a : Addr) (ds : List PyData) (y : Dv), i ≠ j → ρ[i]? = some (some (.mt ds)) → σ[i]? = some (some (.ref a)) → ρ[j]? = some (some y) → y.isL = true → σ[j]? ≠ some (some (.ref a))
/-- .. that changes nothing -/
structure Gp (F H F' H' : Hp) : Prop where
  sF : Same F F'
  nF : ∀ a, H a ≠ none → F a = none → F' a = none
  sH : Same H H'
section
variable {K : PySem.W.Frag} {Y Z : Fx} {δ : DkS} {F F' F'' H H' H'' : Hp} {σ : L2.St} {ρ : Rho} {n n' : Wo}
theorem some_of_ne {H : Hp} {a : Addr} (h : H a ≠ none) : ∃ o, H a = some o := by
  cases e : H a with
  | none => exact absurd e h
  | some o => exact ⟨o, rfl⟩
theorem Gr.refl : Gr δ F H F H := ⟨Same.refl _, fun _ _ h => h, fun _ _ _ h _ => h, fun _ _ _ _ h => ⟨_, h⟩, fun _ h => h⟩
theorem Gr.trans (a : Gr δ F H F' H') (b : Gr δ F' H' F'' H'') : Gr δ F H F'' H'' :=
  ⟨a.sF.trans b.sF, fun x h1 h2 => b.nF x (a.dH x h1) (a.nF x h1 h2), fun x o h1 h2 h3 => b.kH x o h1 (a.kH x o h1 h2 h3) h3, fun x C dx fs h => by
    obtain ⟨fs', h'⟩ := a.iH x C dx fs h
    exact b.iH x C dx fs' h', fun x h => b.dH x (a.dH x h)⟩
theorem Gp.refl : Gp F H F H := ⟨Same.refl _, fun _ _ h => h, Same.refl _⟩
theorem Gp.ne (g : Gp F H F' H') {a : Addr} (h : H a ≠ none) : H' a ≠ none := by
  obtain ⟨o, e⟩ := some_of_ne h
  rw [g.sH _ _ e]; nofun
theorem Gp.trans (a : Gp F H F' H') (b : Gp F' H' F'' H'') : Gp F H F'' H'' :=
  ⟨a.sF.trans b.sF, fun x h1 h2 => b.nF x (a.ne h1) (a.nF x h1 h2), a.sH.trans b.sH⟩
theorem Gp.gr (g : Gp F H F' H') : Gr δ F H F' H' := ⟨g.sF, g.nF, fun _ _ _ h _ => g.sH _ _ h, fun _ _ _ _ h => ⟨_, g.sH _ _ h⟩, fun _ h => g.ne h⟩
theorem FsR.mono (e : Same F F') {fs : List (Str × PyData)} {vs : List (Str × V)} (h : FsR K F fs vs) : FsR K F' fs vs := Paired.mapP h fun p q r => ⟨r.1, Rp.mono e _ _ r.2⟩
theorem XoAt.mono (e : Same F F') {x : Xo} (h : XoAt K F x) : XoAt K F' x := by
  rcases h with h | ⟨dd, vs, h1, h2, h3⟩
  · exact .inl h
  · exact .inr ⟨dd, vs, h1, e _ _ h2, h3.mono e⟩
theorem Obs.grow (h : Obs K F H n) (hn : ∀ a, H a ≠ none → F a = none → F' a = none) (hF : Same F F') (hH : ∀ a C dx fs, H a = some (.ins C dx fs) → H' a = some (.ins C dx fs)) : Obs K F' H' n := ⟨fun a o e => by
  obtain ⟨h1, dx, vs, h2, h3⟩ := h.1 a o e
  exact ⟨hn a (by rw [h2]; nofun) h1, dx, vs, hH _ _ _ _ h2, h3.mono hF⟩, fun a x e => (h.2 a x e).mono hF⟩
theorem Gp.dk (g : Gp F H F' H') (b : Base K Z F H n) : Z.δ.at_ K F' H' n := ⟨Z.δ.stay H H' n.n (fun a ha => by
  obtain ⟨o, e⟩ := some_of_ne (b.dkF a ha).2
  rw [e]; exact g.sH _ _ e) b.dk.1, b.dk.2.grow g.nF g.sF fun _ _ _ _ h => g.sH _ _ h⟩
/-- a frozen new object -/
theorem Gp.new {p : Addr} {o : HO} (h : H p = none) (hs : Same F H) : Gp F H (upd F p o) (upd H p o) ∧ Same (upd F p o) (upd H p o) := by
  have hF : F p = none := hs.free h
  refine ⟨⟨fun a u e => ?_, fun a h1 h2 => ?_, fun a u e => ?_⟩, fun a u e => ?_⟩
  · rw [upd_ne (ne_of_none e hF)]; exact e
  · rw [upd_ne (fun q => h1 (by rw [q]; exact h))]; exact h2
  · rw [upd_ne (ne_of_none e h)]; exact e
  · by_cases q : a = p
    · subst q; rw [upd_same] at e ⊢; exact e
    · rw [upd_ne q] at e ⊢; exact hs _ _ e
/-- a new object, not frozen -/
theorem Gp.newM {p : Addr} {o : HO} (h : H p = none) (hs : Same F H) : Gp F H F (upd H p o) ∧ Same F (upd H p o) := by
  refine ⟨⟨Same.refl _, fun _ _ h => h, fun a u e => ?_⟩, fun a u e => ?_⟩
  · rw [upd_ne (ne_of_none e h)]; exact e
  · rw [upd_ne (ne_of_none (hs _ _ e) h)]; exact hs _ _ e
theorem VR.step {x : Dv} {v : V} (g : Gr δ F H F' H') (h : VR K δ F H x v) : VR K δ F' H' x v := by
  cases x with
  | dat d => exact Rp.mono g.sF d v h
  | vw ds =>
    obtain ⟨a, vs, rfl, h1, h2, h3⟩ := h
    exact ⟨a, vs, rfl, g.kH _ _ h3 h1 rfl, Rps.mono g.sF ds vs h2, h3⟩
  | mt ds => exact h
  | deck _ => exact h
  | md _ _ => exact h
theorem SlotV.step {x : Dv} {v : V} (g : Gr Z.δ F H F' H') (h : SlotV K Z F H x v) : SlotV K Z F' H' x v := by
  cases x with
  | mt ds =>
    obtain ⟨a, vs, rfl, h0, h1, h2, h3, h4⟩ := h
    exact ⟨a, vs, rfl, h0, g.nF a (by rw [h2]; nofun) h1, g.kH _ _ h4 h2 rfl, Rps.mono g.sF ds vs h3, h4⟩
  | dat d => exact VR.step (x := .dat d) g h
  | vw ds => exact VR.step (x := .vw ds) g h
  | deck _ => exact h
  | md a ks =>
    obtain ⟨e, h0, h1, h2, h3⟩ := h
    exact ⟨e, h0, g.nF a (by rw [h2]; nofun) h1, g.kH _ _ h3 h2 rfl, h3⟩
theorem Base.gD (b : Base K Z F H n) (a : Addr) (h : Z.H0 a ≠ none) : H a ≠ none := by
  by_cases ha : a ∈ Z.δ.own
  · exact (b.dkF a ha).2
  · obtain ⟨o, e⟩ := some_of_ne h
    by_cases hi : isIns o = false
    · rw [b.gH a o ha e hi]; nofun
    · cases o with
      | ins C dx fs =>
        obtain ⟨fs', h'⟩ := b.gI a C dx fs e
        rw [h']; nofun
      | _ => exact absurd rfl hi
theorem Base.step (b : Base K Z F H n) (g : Gr Z.δ F H F' H') (hs : Same F' H') (hd : Z.δ.at_ K F' H' n') : Base K Z F' H' n' where
  sub := hs
  dk := hd
  dkF := fun a ha => ⟨g.nF a (b.dkF a ha).2 (b.dkF a ha).1, g.dH a (b.dkF a ha).2⟩
  gF := b.gF.trans g.sF
  gN := fun a h1 h2 => by
    by_cases ha : a ∈ Z.δ.own
    · exact g.nF a (b.dkF a ha).2 (b.dkF a ha).1
    · exact g.nF a (b.gD a h1) (b.gN a h1 h2)
  gH := fun a o h1 h2 h3 => g.kH a o h1 (b.gH a o h1 h2 h3) h3
  gI := fun a C dx fs h => by
    obtain ⟨fs', h'⟩ := b.gI a C dx fs h
    exact g.iH a C dx fs' h'
theorem SR.step (r : SR Y K Z F H σ ρ n) (g : Gr Z.δ F H F' H') (hs : Same F' H') (hd : Z.δ.at_ K F' H' n') : SR Y K Z F' H' σ ρ n' where
  b := r.b.step g hs hd
  de := r.de
  he := r.he
  gr := r.gr.trans (r.de ▸ g)
  len := r.len
  slot := fun i x e => by
    obtain ⟨v, e1, e2⟩ := r.slot i x e
    exact ⟨v, e1, e2.step g⟩
  apart := r.apart
/-- what stands as data -/
def needD (x : Dv) (R : PyData → Prop) : Prop :=
  match x with
  | .dat d => R d
  | _ => False
/-- a view is data in the heap itself -/
theorem VR.rp {x : Dv} {v : V} (h : VR K δ F H x v) (hs : Same F H) (hx : x.isDk = false) : Rp K H x.toD v := by
  cases x with
  | dat d => exact Rp.mono hs d v h
  | vw ds =>
    obtain ⟨a, vs, rfl, h1, h2, _⟩ := h
    simp only [Dv.toD, Rp]
    exact ⟨a, vs, rfl, h1, Rps.mono hs ds vs h2⟩
  | mt ds => exact h.elim
  | deck _ => exact absurd hx (by simp [Dv.isDk])
  | md _ _ => exact h.elim
end

/-! ### expressions -/
abbrev DTE := Rho → Wo → (Dv → Wo → Prop) → Prop
abbrev DTA := Rho → Wo → (List Dv → Wo → Prop) → Prop
abbrev DTT := Rho → Wo → (Bool → Wo → Prop) → Prop
def up (Y : Fx) (K : PySem.W.Frag) (t : DTE) : TE := fun σ H Q => ∃ Z F ρ n R, SR Y K Z F H σ ρ n ∧ t ρ n R ∧
  ∀ x n' F' H' v, R x n' → Gr Z.δ F H F' H' → Same F' H' → Z.δ.at_ K F' H' n' → VR K Z.δ F' H' x v → Q v H'
def VRs (K : PySem.W.Frag) (δ : DkS) (F H : Hp) : List Dv → List V → Prop := Paired (VR K δ F H)
def upA (Y : Fx) (K : PySem.W.Frag) (t : DTA) : TA := fun σ H Q => ∃ Z F ρ n R, SR Y K Z F H σ ρ n ∧ t ρ n R ∧
  ∀ xs n' F' H' vs, R xs n' → Gr Z.δ F H F' H' → Same F' H' → Z.δ.at_ K F' H' n' → VRs K Z.δ F' H' xs vs → Q vs H'
def upT (Y : Fx) (K : PySem.W.Frag) (t : DTT) : TT := fun σ H Q => ∃ Z F ρ n R, SR Y K Z F H σ ρ n ∧ t ρ n R ∧
  ∀ c n' F' H', R c n' → Gr Z.δ F H F' H' → Same F' H' → Z.δ.at_ K F' H' n' → Q c H'
/-- a fresh list -/
abbrev DTM := Rho → Wo → (List PyData → Wo → Prop) → Prop
def upM (Y : Fx) (K : PySem.W.Frag) (t : DTM) : TE := fun σ H Q => ∃ Z F ρ n R, SR Y K Z F H σ ρ n ∧ t ρ n R ∧
  ∀ ds n' F' H' p vs, R ds n' → Gr Z.δ F H F' H' → Same F' H' → Z.δ.at_ K F' H' n' → H p = none → F' p = none → H' p = some (.lst vs) → Rps K F' ds vs → Q (.ref p) H'
abbrev WE (Y : Fx) (X : Cx) (e : Expr) (t : DTE) : Prop := PE X e (up Y X.K t)
abbrev WA (Y : Fx) (X : Cx) (es : List Expr) (t : DTA) : Prop := PA X es (upA Y X.K t)
abbrev WT (Y : Fx) (X : Cx) (e : Expr) (t : DTT) : Prop := PT X e (upT Y X.K t)
abbrev ME (Y : Fx) (X : Cx) (e : Expr) (t : DTM) : Prop := PE X e (upM Y X.K t)
theorem pe_imp {X : Cx} {e : Expr} {t t' : TE} (h : PE X e t) (q : ∀ σ H Q, t' σ H Q → t σ H Q) : PE X e t' := ⟨fun p s σ H Q I w => h.run p s σ H Q I (q σ H Q w)⟩
theorem pa_imp {X : Cx} {es : List Expr} {t t' : TA} (h : PA X es t) (q : ∀ σ H Q, t' σ H Q → t σ H Q) : PA X es t' := ⟨fun c p s σ H Q I w => h.run c p s σ H Q I (q σ H Q w)⟩
theorem pt_imp {X : Cx} {e : Expr} {t t' : TT} (h : PT X e t) (q : ∀ σ H Q, t' σ H Q → t σ H Q) : PT X e t' := ⟨fun p s σ H Q I w => h.run p s σ H Q I (q σ H Q w)⟩
theorem ps_imp {X : Cx} {st : Stmt} {t t' : TS} (h : PS X st t) (q : ∀ D σ H, t' D σ H → t D σ H) : PS X st t' := ⟨fun p s σ H D I w => h.run p s σ H D I (q D σ H w)⟩
theorem pss_imp {X : Cx} {st : List Stmt} {t t' : TS} (h : PSs X st t) (q : ∀ D σ H, t' D σ H → t D σ H) : PSs X st t' := ⟨fun p s σ H D I w => h.run p s σ H D I (q D σ H w)⟩
theorem DkS.at_.fz {K : PySem.W.Frag} {δ : DkS} {F H : Hp} {n : Wo} {p : Addr} {o : HO} (h : δ.at_ K F H n) (hp : H p = some o) (ho : isIns o = false) (hF : F p = none) : δ.at_ K (upd F p o) H n :=
  ⟨h.1, ⟨fun a ob e => by
    obtain ⟨h1, dx, vs, h2, h3⟩ := h.2.1 a ob e
    have ne : a ≠ p := fun q => by
      rw [q, hp] at h2
      cases h2
      cases ho
    exact ⟨by rw [upd_ne ne]; exact h1, dx, vs, h2, h3.mono fun b u e => by rw [upd_ne (ne_of_none e hF)]; exact e⟩, fun a x e => (h.2.2 a x e).mono fun b u e => by rw [upd_ne (ne_of_none e hF)]; exact e⟩⟩
/-- a thing of one's own (no object) is changed -/
theorem DkS.at_.chg {K : PySem.W.Frag} {δ : DkS} {F H : Hp} {n : Wo} {p : Addr} {o u : HO} (h : δ.at_ K F H n) (na : p ∉ δ.own) (hp : H p = some o) (ho : isIns o = false) : δ.at_ K F (upd H p u) n :=
  ⟨δ.stay H _ n.n (fun b hb => upd_ne fun q => na (by rw [← q]; exact hb)) h.1, ⟨fun a ob e => by
    obtain ⟨h1, dx, vs, h2, h3⟩ := h.2.1 a ob e
    have ne : a ≠ p := fun q => by
      rw [q, hp] at h2
      cases h2
      cases ho
    exact ⟨h1, dx, vs, by rw [upd_ne ne]; exact h2, h3⟩, h.2.2⟩⟩
theorem DkS.at_.lay {K : PySem.W.Frag} {δ : DkS} {F H : Hp} {n : Wo} {p : Addr} {u : HO} (h : δ.at_ K F H n) (na : p ∉ δ.own) (hp : H p = none) : δ.at_ K F (upd H p u) n :=
  ⟨δ.stay H _ n.n (fun b hb => upd_ne fun q => na (by rw [← q]; exact hb)) h.1, ⟨fun a ob e => by
    obtain ⟨h1, dx, vs, h2, h3⟩ := h.2.1 a ob e
    exact ⟨h1, dx, vs, by rw [upd_ne (ne_of_none h2 hp)]; exact h2, h3⟩, h.2.2⟩⟩
theorem Gr.chg {δ : DkS} {F H F' H' : Hp} {p : Addr} {u : HO} (g : Gr δ F H F' H') (hp : H p = none) : Gr δ F H F' (upd H' p u) :=
  ⟨g.sF, g.nF, fun a o na e hi => by rw [upd_ne (ne_of_none e hp)]; exact g.kH a o na e hi, fun a C dx fs e => by rw [upd_ne (ne_of_none e hp)]; exact g.iH a C dx fs e, fun a e => by
    rw [upd_ne (fun q => e (by rw [q]; exact hp))]; exact g.dH a e⟩
/-- a fresh list, frozen -/
def dOfM (t : DTM) : DTE := fun ρ n R => t ρ n fun ds n' => R (.dat (.list ds)) n'
theorem freeze {K : PySem.W.Frag} {δ : DkS} {F H F' H' : Hp} {p : Addr} {vs : List V} {ds : List PyData} (g : Gr δ F H F' H') (hs : Same F' H') (hp : H p = none) (hF : F' p = none) (hH : H' p = some (.lst vs)) (r : Rps K F' ds vs) :
    Gr δ F H (upd F' p (.lst vs)) H' ∧ Same (upd F' p (.lst vs)) H' ∧ Rp K (upd F' p (.lst vs)) (.list ds) (.ref p) := by
  have s1 : Same F' (upd F' p (.lst vs)) := fun a o e => by rw [upd_ne (ne_of_none e hF)]; exact e
  refine ⟨⟨g.sF.trans s1, fun a h1 h2 => ?_, g.kH, g.iH, g.dH⟩, fun a o e => ?_, ?_⟩
  · rw [upd_ne (fun q => h1 (by rw [q]; exact hp))]; exact g.nF a h1 h2
  · by_cases q : a = p
    · subst q; rw [upd_same] at e; cases e; exact hH
    · rw [upd_ne q] at e; exact hs _ _ e
  · simp only [Rp]
    exact ⟨p, vs, rfl, upd_same, Rps.mono s1 ds vs r⟩
theorem we_ofM {X : Cx} {e : Expr} {t : DTM} (h : ME Y X e t) : WE Y X e (dOfM t) := pe_imp h fun σ H Q ⟨Z, F, ρ, n, R, r, ht, k⟩ =>
  ⟨Z, F, ρ, n, _, r, ht, fun ds n' F' H' p vs hR g hs hd hp hF hH hr => by
    obtain ⟨g2, s2, r2⟩ := freeze g hs hp hF hH hr
    exact k _ _ _ _ _ hR g2 s2 (hd.fz hH rfl hF) r2⟩
end DL
namespace DL
open PySem PySem.Spec PyProof.Rows L2
variable {X : Cx} {Y : Fx}

/-! ### names, constants -/
def dView (x : Dv) (R : Dv → Prop) : Prop :=
  match x with
  | .mt ds => R (.vw ds)
  | .md _ _ => False
  | y => R y
def dVar (i : Nat) : DTE := fun ρ n R => ∃ x, ρ[i]? = some (some x) ∧ dView x fun y => R y n
theorem we_var (i : Nat) {x : Str} {pos : Pos} (hN : X.N[i]? = some x := by rfl) (hv : Vis X.env.scope x := by first | exact Or.inl rfl | exact Or.inr (Or.inl rfl) | exact Or.inr (Or.inr rfl))
    (hd : (x == ("__debug__" : Str)) = false := by decide) (hcd : (x == ("__classdict__" : Str)) = false := by decide) : WE Y X (.Name x pos) (dVar i) :=
  pe_imp (pe_var hN hv hd hcd) fun σ H Q ⟨Z, F, ρ, n, R, r, ⟨y, e, hy⟩, k⟩ => by
    obtain ⟨v, e1, e2⟩ := r.slot i y e
    refine ⟨v, e1, ?_⟩
    cases y with
    | mt ds =>
      obtain ⟨a, vs, rfl, _, _, h2, h3, h4⟩ := e2
      exact k _ _ _ _ _ hy Gr.refl r.b.sub r.b.dk ⟨a, vs, rfl, h2, h3, h4⟩
    | dat d => exact k _ _ _ _ _ hy Gr.refl r.b.sub r.b.dk e2
    | vw ds => exact k _ _ _ _ _ hy Gr.refl r.b.sub r.b.dk e2
    | deck _ => exact k _ _ _ _ _ hy Gr.refl r.b.sub r.b.dk e2
    | md _ _ => exact hy.elim
def dC (d : PyData) : DTE := fun _ n R => R (.dat d) n
theorem we_c {e : Expr} {v : V} {d : PyData} (h : PE X e (tC v)) (hd : ∀ F, Rp X.K F d v) : WE Y X e (dC d) :=
  pe_imp h fun σ H Q ⟨Z, F, ρ, n, R, r, hr, k⟩ => k _ _ _ _ _ hr Gr.refl r.b.sub r.b.dk (hd F)
theorem we_int {i j pos} : WE Y X (.Constant (.int i) j pos) (dC (.int i)) := we_c pe_int fun _ => by simp [Rp]
theorem we_bl {i j pos} : WE Y X (.Constant (.bool i) j pos) (dC (.bool i)) := we_c pe_bl fun _ => by simp [Rp]
theorem we_non {j pos} : WE Y X (.Constant .none j pos) (dC .none) := we_c pe_non fun _ => by simp [Rp]
theorem we_str {i j pos} : WE Y X (.Constant (.str i) j pos) (dC (.str i)) := we_c pe_str fun _ => by simp [Rp]
/-- a module's int -/
theorem we_gint {x : Str} {i : Int} {t : Tok} {pos : Pos} (hg : Gl X x) (hm : X.mg x = some (.int i t)) (hd : (x == ("__debug__" : Str)) = false := by decide) : WE Y X (.Name x pos) (dC (.int i)) :=
  we_c (pe_glob (v := .int i) hg hm ⟨_, rfl⟩ hd) fun _ => by simp [Rp]

/-! ### argument lists -/
def dNil : DTA := fun _ n R => R [] n
def dCons (t : DTE) (u : DTA) : DTA := fun ρ n R => t ρ n fun x n1 => u ρ n1 fun xs n2 => R (x :: xs) n2
theorem wa_nil : WA Y X [] dNil := pa_imp pa_nil fun σ H Q ⟨Z, F, ρ, n, R, r, hr, k⟩ => k _ _ _ _ _ hr Gr.refl r.b.sub r.b.dk .nil
theorem wa_cons {e : Expr} {es : List Expr} {t : DTE} {u : DTA} (ha : WE Y X e t) (hr : WA Y X es u) (hs : starEach (e :: es) X.env = (false, eval e X.env) :: starEach es X.env := by rfl) : WA Y X (e :: es) (dCons t u) :=
  pa_imp (pa_cons ha hr hs) fun σ H Q ⟨Z, F, ρ, n, R, r, ht, k⟩ =>
    ⟨Z, F, ρ, n, _, r, ht, fun x n1 F1 H1 v hx g1 s1 d1 w1 => ⟨Z, F1, ρ, n1, _, r.step g1 s1 d1, hx, fun xs n2 F2 H2 vs hxs g2 s2 d2 w2 =>
      k _ _ _ _ _ hxs (g1.trans g2) s2 d2 (.cons (w1.step g2) w2)⟩⟩
/-- all of them data -/
def needDs : List Dv → (List PyData → Prop) → Prop
  | [], R => R []
  | x :: xs, R => needD x fun d => needDs xs fun ds => R (d :: ds)
theorem needD_is {x : Dv} {R : PyData → Prop} (h : needD x R) : ∃ d, x = .dat d ∧ R d := by
  cases x with
  | dat d => exact ⟨d, rfl, h⟩
  | vw _ => exact h.elim
  | mt _ => exact h.elim
  | deck _ => exact h.elim
  | md _ _ => exact h.elim
theorem needDs_is {K : PySem.W.Frag} {δ : DkS} {F H : Hp} : ∀ {xs : List Dv} {vs : List V} {R : List PyData → Prop}, VRs K δ F H xs vs → needDs xs R → ∃ ds, R ds ∧ Rps K F ds vs
  | [], _, R, .nil, h => ⟨[], h, rps_nil⟩
  | x :: xs, _, R, .cons a b, h => by
    obtain ⟨d, rfl, h⟩ := needD_is h
    obtain ⟨ds, h1, h2⟩ := needDs_is b h
    exact ⟨d :: ds, h1, rps_cons a h2⟩

/-! ### displays -/
def dTup (t : DTA) : DTE := fun ρ n R => t ρ n fun xs n' => needDs xs fun ds => ds.length ≤ sizeLine ∧ R (.dat (.tuple ds)) n'
theorem we_tup {es : List Expr} {t : DTA} {x1} {pos : Pos} (h : WA Y X es t) : WE Y X (.Tuple es x1 pos) (dTup t) :=
  pe_imp (pe_tup h) fun σ H Q ⟨Z, F, ρ, n, R, r, ht, k⟩ => ⟨Z, F, ρ, n, _, r, ht, fun xs n1 F1 H1 vs hx g1 s1 d1 w1 => by
    obtain ⟨ds, ⟨hl, hR⟩, hr⟩ := needDs_is w1 hx
    refine ⟨by rw [← hr.length]; exact hl, fun p hp => ?_⟩
    obtain ⟨g2, s2⟩ := Gp.new (o := .tup vs) hp s1
    refine k _ _ _ _ _ hR (g1.trans g2.gr) s2 (g2.dk ((r.step g1 s1 d1).b)) ?_
    simp only [VR, Rp]
    exact ⟨p, vs, rfl, upd_same, Rps.mono g2.sF ds vs hr⟩⟩
def mLst (t : DTA) : DTM := fun ρ n R => t ρ n fun xs n' => needDs xs fun ds => ds.length ≤ sizeLine ∧ R ds n'
theorem me_lst {es : List Expr} {t : DTA} {pos : Pos} (h : WA Y X es t) : ME Y X (.List es pos) (mLst t) :=
  pe_imp (pe_lst h) fun σ H Q ⟨Z, F, ρ, n, R, r, ht, k⟩ => ⟨Z, F, ρ, n, _, r, ht, fun xs n1 F1 H1 vs hx g1 s1 d1 w1 => by
    obtain ⟨ds, ⟨hl, hR⟩, hr⟩ := needDs_is w1 hx
    refine ⟨by rw [← hr.length]; exact hl, fun p hp => ?_⟩
    obtain ⟨g2, s2⟩ := Gp.newM (o := .lst vs) hp s1
    have hp0 : H p = none := by
      cases e : H p with
      | none => rfl
      | some o => exact absurd hp (g1.dH p (by rw [e]; nofun))
    exact k _ _ _ _ _ _ hR (g1.trans g2.gr) s2 (g2.dk ((r.step g1 s1 d1).b)) hp0 (s1.free hp) upd_same hr⟩
theorem we_lst {es : List Expr} {t : DTA} {pos : Pos} (h : WA Y X es t) : WE Y X (.List es pos) (dOfM (mLst t)) := we_ofM (me_lst h)

/-! ### operators by values -/
abbrev D2 := Dv → Dv → (PyData → Prop) → Prop
abbrev Back (K : PySem.W.Frag) (F H : Hp) (R : PyData → Prop) (Q : VK) : Prop := ∀ d F' H' v, R d → Gp F H F' H' → Same F' H' → Rp K F' d v → Q v H'
def BinOk (K : PySem.W.Frag) (r : R2) (o : D2) : Prop := ∀ δ F H x y v u R Q, Same F H → VR K δ F H x v → VR K δ F H y u → o x y R → Back K F H R Q → r v u H Q
theorem Back.here {K : PySem.W.Frag} {F H : Hp} {R : PyData → Prop} {Q : VK} (b : Back K F H R Q) (hs : Same F H) {d : PyData} {v : V} (h : R d) (r : Rp K F d v) : Q v H := b d F H v h Gp.refl hs r
theorem Back.int {K : PySem.W.Frag} {F H : Hp} {R : PyData → Prop} {Q : VK} (b : Back K F H R Q) (hs : Same F H) {i : Int} (h : R (.int i)) : Q (.int i) H := b.here hs h (by simp [Rp])
theorem Back.bl {K : PySem.W.Frag} {F H : Hp} {R : PyData → Prop} {Q : VK} (b : Back K F H R Q) (hs : Same F H) {i : Bool} (h : R (.bool i)) : Q (.bl i) H := b.here hs h (by simp [Rp])
theorem Back.tup {K : PySem.W.Frag} {F H : Hp} {R : PyData → Prop} {Q : VK} (b : Back K F H R Q) (hs : Same F H) {ds : List PyData} {vs : List V} (h : R (.tuple ds)) (r : Rps K F ds vs) {p : Addr} (hp : H p = none) : Q (.ref p) (upd H p (.tup vs)) := by
  obtain ⟨g, s⟩ := Gp.new (o := .tup vs) hp hs
  refine b _ _ _ _ h g s ?_
  simp only [Rp]
  exact ⟨p, vs, rfl, upd_same, Rps.mono g.sF ds vs r⟩
theorem Back.lst {K : PySem.W.Frag} {F H : Hp} {R : PyData → Prop} {Q : VK} (b : Back K F H R Q) (hs : Same F H) {ds : List PyData} {vs : List V} (h : R (.list ds)) (r : Rps K F ds vs) {p : Addr} (hp : H p = none) : Q (.ref p) (upd H p (.lst vs)) := by
  obtain ⟨g, s⟩ := Gp.new (o := .lst vs) hp hs
  refine b _ _ _ _ h g s ?_
  simp only [Rp]
  exact ⟨p, vs, rfl, upd_same, Rps.mono g.sF ds vs r⟩
def dBin (o : D2) (t u : DTE) : DTE := fun ρ n R => t ρ n fun x n1 => u ρ n1 fun y n2 => o x y fun z => R (.dat z) n2
/-- the two operands, then o -/
theorem two {K : PySem.W.Frag} {r : R2} {o : D2} {t u : DTE} (hr : BinOk K r o) : ∀ σ H Q, up Y K (dBin o t u) σ H Q → tOp r (up Y K t) (up Y K u) σ H Q := fun σ H Q ⟨Z, F, ρ, n, R, s, ht, k⟩ =>
  ⟨Z, F, ρ, n, _, s, ht, fun x n1 F1 H1 v hx g1 s1 d1 w1 => ⟨Z, F1, ρ, n1, _, s.step g1 s1 d1, hx, fun y n2 F2 H2 u hy g2 s2 d2 w2 =>
    hr Z.δ F2 H2 x y v u _ Q s2 (w1.step g2) w2 hy fun d F3 H3 v3 h3 g3 s3 w3 =>
      k _ _ _ _ _ h3 ((g1.trans g2).trans g3.gr) s3 (g3.dk (((s.step g1 s1 d1).step g2 s2 d2).b)) w3⟩⟩
theorem we_bin {op : Operator} {r : R2} {o : D2} {a b : Expr} {t u : DTE} {pos : Pos} (ho : OpR X (binaryOp op) r) (hr : BinOk X.K r o) (ha : WE Y X a t) (hb : WE Y X b u) : WE Y X (.BinOp a op b pos) (dBin o t u) :=
  pe_imp (pe_op ho ha hb) (two hr)
theorem we_cmp {op : CmpOp} {r : R2} {o : D2} {a b : Expr} {t u : DTE} {pos : Pos} (ho : OpR X (compareOp op) r) (hr : BinOk X.K r o) (ha : WE Y X a t) (hb : WE Y X b u) (hm : behindInMarks op b = false) : WE Y X (.Compare a [op] [b] pos) (dBin o t u) :=
  pe_imp (pe_cmpR ho ha hb hm) (two hr)
def dTst (t : DTE) : DTT := fun ρ n R => t ρ n fun x n1 => ∃ c, x = .dat (.bool c) ∧ R c n1
theorem tst {K : PySem.W.Frag} {te : TE} {t : DTE} (h : ∀ σ H Q, up Y K t σ H Q → te σ H Q) : ∀ σ H Q, upT Y K (dTst t) σ H Q → tTest te σ H Q := fun σ H Q ⟨Z, F, ρ, n, R, s, ht, k⟩ => by
  refine h _ _ _ ⟨Z, F, ρ, n, _, s, ht, fun x n1 F1 H1 v ⟨c, e, hx⟩ g1 s1 d1 w1 => ?_⟩
  subst e
  simp only [VR, Rp] at w1
  exact ⟨c, w1, k _ _ _ _ hx g1 s1 d1⟩
theorem wt_cmp {op : CmpOp} {r : R2} {o : D2} {a b : Expr} {t u : DTE} {pos : Pos} (ho : OpR X (compareOp op) r) (hr : BinOk X.K r o) (ha : WE Y X a t) (hb : WE Y X b u) (hm : behindInMarks op b = false) : WT Y X (.Compare a [op] [b] pos) (dTst (dBin o t u)) :=
  pt_imp (pt_cmpR ho ha hb hm) (tst (two hr))
def dChain (o o' : D2) (t u w : DTE) : DTE := fun ρ n R => t ρ n fun x n1 => u ρ n1 fun y n2 => o x y fun c => ∃ k, c = .bool k ∧ (if k = true then w ρ n2 fun z n3 => o' y z fun d => R (.dat d) n3 else R (.dat (.bool false)) n2)
theorem chn {K : PySem.W.Frag} {r r' : R2} {o o' : D2} {t u w : DTE} (hr : BinOk K r o) (hr' : BinOk K r' o') : ∀ σ H Q, up Y K (dChain o o' t u w) σ H Q → tChain r r' (up Y K t) (up Y K u) (up Y K w) σ H Q := fun σ H Q ⟨Z, F, ρ, n, R, s, ht, k⟩ =>
  ⟨Z, F, ρ, n, _, s, ht, fun x n1 F1 H1 v hx g1 s1 d1 w1 => ⟨Z, F1, ρ, n1, _, s.step g1 s1 d1, hx, fun y n2 F2 H2 u hy g2 s2 d2 w2 => by
    refine hr Z.δ F2 H2 x y v u _ _ s2 (w1.step g2) w2 hy fun d F3 H3 v3 ⟨c, e, h3⟩ g3 s3 w3 => ?_
    subst e
    simp only [Rp] at w3
    refine ⟨c, w3, ?_⟩
    have S3 := ((s.step g1 s1 d1).step g2 s2 d2).step g3.gr s3 (g3.dk (((s.step g1 s1 d1).step g2 s2 d2).b))
    cases c with
    | false => exact k _ _ _ _ _ h3 ((g1.trans g2).trans g3.gr) s3 S3.b.dk (by simp [VR, Rp])
    | true =>
      refine ⟨Z, F3, ρ, n2, _, S3, h3, fun z n4 F4 H4 v4 h4 g4 s4 d4 w4 => ?_⟩
      refine hr' Z.δ F4 H4 y z u v4 _ Q s4 ((w2.step g3.gr).step g4) w4 h4 fun d F5 H5 v5 h5 g5 s5 w5 => ?_
      exact k _ _ _ _ _ h5 ((((g1.trans g2).trans g3.gr).trans g4).trans g5.gr) s5 (g5.dk ((S3.step g4 s4 d4).b)) w5⟩⟩
theorem we_chain {op op' : CmpOp} {r r' : R2} {o o' : D2} {a b c : Expr} {t u w : DTE} {pos : Pos} (ho : OpR X (compareOp op) r) (ho' : OpR X (compareOp op') r') (hr : BinOk X.K r o) (hr' : BinOk X.K r' o') (ha : WE Y X a t) (hb : WE Y X b u) (hc : WE Y X c w)
    (hm : lastMarks [op, op'] [b, c] = false := by with_unfolding_all rfl) : WE Y X (.Compare a [op, op'] [b, c] pos) (dChain o o' t u w) :=
  pe_imp (pe_chain ho ho' ha hb hc hm) (chn hr hr')
theorem wt_chain {op op' : CmpOp} {r r' : R2} {o o' : D2} {a b c : Expr} {t u w : DTE} {pos : Pos} (ho : OpR X (compareOp op) r) (ho' : OpR X (compareOp op') r') (hr : BinOk X.K r o) (hr' : BinOk X.K r' o') (ha : WE Y X a t) (hb : WE Y X b u) (hc : WE Y X c w)
    (hm : lastMarks [op, op'] [b, c] = false := by with_unfolding_all rfl) : WT Y X (.Compare a [op, op'] [b, c] pos) (dTst (dChain o o' t u w)) :=
  pt_imp (pt_chain ho ho' ha hb hc hm) (tst (chn hr hr'))

/-! ### the operators -/
def oI0 (g : Int → Int → PyData) : D2 := fun x y R =>
  match x, y with
  | .dat (.int i), .dat (.int j) => R (g i j)
  | _, _ => False
def oI (C : Int → Int → Prop) (g : Int → Int → PyData) : D2 := fun x y R =>
  match x, y with
  | .dat (.int i), .dat (.int j) => C i j ∧ R (g i j)
  | _, _ => False
theorem oI_is {C : Int → Int → Prop} {g : Int → Int → PyData} {x y : Dv} {R : PyData → Prop} (h : oI C g x y R) : ∃ i j, x = .dat (.int i) ∧ y = .dat (.int j) ∧ C i j ∧ R (g i j) := by
  unfold oI at h
  split at h
  · exact ⟨_, _, rfl, rfl, h⟩
  · exact h.elim
theorem oI0_is {g : Int → Int → PyData} {x y : Dv} {R : PyData → Prop} (h : oI0 g x y R) : ∃ i j, x = .dat (.int i) ∧ y = .dat (.int j) ∧ R (g i j) := by
  unfold oI0 at h
  split at h
  · exact ⟨_, _, rfl, rfl, h⟩
  · exact h.elim
section
variable {K : PySem.W.Frag}
theorem bi_I {C : Int → Int → Prop} {g : Int → Int → Int} : BinOk K (rI C fun i j => .int (g i j)) (oI C fun i j => .int (g i j)) := fun δ F H x y v u R Q hs hx hy h b => by
  obtain ⟨i, j, rfl, rfl, hc, hr⟩ := oI_is h
  simp only [VR, Rp] at hx hy
  exact ⟨i, j, hx, hy, hc, b.int hs hr⟩
theorem bi_I0 {g : Int → Int → Int} : BinOk K (rI0 fun i j => .int (g i j)) (oI0 fun i j => .int (g i j)) := fun δ F H x y v u R Q hs hx hy h b => by
  obtain ⟨i, j, rfl, rfl, hr⟩ := oI0_is h
  simp only [VR, Rp] at hx hy
  exact ⟨i, j, hx, hy, b.int hs hr⟩
theorem bi_B0 {g : Int → Int → Bool} : BinOk K (rI0 fun i j => .bl (g i j)) (oI0 fun i j => .bool (g i j)) := fun δ F H x y v u R Q hs hx hy h b => by
  obtain ⟨i, j, rfl, rfl, hr⟩ := oI0_is h
  simp only [VR, Rp] at hx hy
  exact ⟨i, j, hx, hy, b.bl hs hr⟩
end
end DL
namespace DL
open PySem PySem.Spec PyProof.Rows L2
variable {X : Cx} {Y : Fx}

/-! ### data as the library's Dp -/
section
variable {K : PySem.W.Frag} {F H : Hp}
mutual
theorem Rp.dp : ∀ (d : PyData) (v : V), d.canLay0 = true → Rp K H d v → Dp K H v d
  | .none, _, _, h => by simp only [Rp] at h; subst h; exact .non
  | .bool _, _, _, h => by simp only [Rp] at h; subst h; exact .bl _
  | .int _, _, _, h => by simp only [Rp] at h; subst h; exact .int _
  | .str _, _, _, h => by simp only [Rp] at h; subst h; exact .str _
  | .list ds, _, c, h => by
    simp only [Rp] at h
    obtain ⟨a, xs, rfl, h1, h2⟩ := h
    exact .lst (SqL.of h1) (Rps.dp ds xs (by simpa only [PyData.canLay0] using c) h2)
  | .tuple ds, _, c, h => by
    simp only [Rp] at h
    obtain ⟨a, xs, rfl, h1, h2⟩ := h
    exact .tup (SqT.of h1) (Rps.dp ds xs (by simpa only [PyData.canLay0] using c) h2)
  | .dict _, _, c, _ => by simp [PyData.canLay0] at c
theorem Rps.dp : ∀ (ds : List PyData) (vs : List V), PyData.canLayAll0 ds = true → Rps K H ds vs → DpAll K H vs ds
  | [], _, _, h => by simp only [Rps] at h; subst h; exact .nil
  | d :: ds, _, c, h => by
    simp only [Rps] at h
    obtain ⟨v, r, rfl, h1, h2⟩ := h
    simp only [PyData.canLayAll0, Bool.and_eq_true] at c
    exact .cons (Rp.dp d v c.1 h1) (Rps.dp ds r c.2 h2)
end
end
/-- what may be compared: no dict, not too deep -/
abbrev Sh (d : PyData) : Prop := SeqAt.shaped d = true
def oEq (neg : Bool) : D2 := fun x y R => x.isDk = false ∧ y.isDk = false ∧ Sh x.toD ∧ Sh y.toD ∧ R (.bool (if neg then !PyData.eqv x.toD y.toD else PyData.eqv x.toD y.toD))
section
variable {K : PySem.W.Frag}
theorem bi_eq : BinOk K (rEqD K) (oEq false) := fun δ F H x y v u R Q hs hx hy ⟨n1, n2, s1, s2, hr⟩ b =>
  ⟨_, _, Rp.dp _ _ (SeqAt.canLay_of_shaped s1) (hx.rp hs n1), Rp.dp _ _ (SeqAt.canLay_of_shaped s2) (hy.rp hs n2), s1, s2, b.bl hs hr⟩
theorem bi_ne : BinOk K (rNeD K) (oEq true) := fun δ F H x y v u R Q hs hx hy ⟨n1, n2, s1, s2, hr⟩ b =>
  ⟨_, _, Rp.dp _ _ (SeqAt.canLay_of_shaped s1) (hx.rp hs n1), Rp.dp _ _ (SeqAt.canLay_of_shaped s2) (hy.rp hs n2), s1, s2, b.bl hs hr⟩
/-- x in a list -/
def oIn (neg : Bool) : D2 := fun x y R => x.isDk = false ∧ y.isDk = false ∧ ∃ ds, y.toD = .list ds ∧ Sh x.toD ∧ Sh (.list ds) ∧ R (.bool (if neg then !(ds.any fun z => PyData.eqv z x.toD) else ds.any fun z => PyData.eqv z x.toD))
theorem bi_in : BinOk K (rInD K) (oIn false) := fun δ F H x y v u R Q hs hx hy ⟨n1, n2, ds, e, s1, s2, hr⟩ b =>
  ⟨_, ds, Rp.dp _ _ (SeqAt.canLay_of_shaped s1) (hx.rp hs n1), Rp.dp _ _ (SeqAt.canLay_of_shaped s2) (e ▸ hy.rp hs n2), s1, s2, b.bl hs hr⟩
theorem bi_notIn : BinOk K (rNotInD K) (oIn true) := fun δ F H x y v u R Q hs hx hy ⟨n1, n2, ds, e, s1, s2, hr⟩ b =>
  ⟨_, ds, Rp.dp _ _ (SeqAt.canLay_of_shaped s1) (hx.rp hs n1), Rp.dp _ _ (SeqAt.canLay_of_shaped s2) (e ▸ hy.rp hs n2), s1, s2, b.bl hs hr⟩
/-- is None, is not None; bools -/
def isN : PyData → Bool
  | .none => true
  | _ => false
def oIsN (neg : Bool) : D2 := fun x y R => y = .dat .none ∧ x.isDk = false ∧ R (.bool (if neg then !isN x.toD else isN x.toD))
theorem isN_of {F : Hp} {d : PyData} {v : V} (h : Rp K F d v) : isN d = decide (v = .non) := by
  cases d <;> simp only [Rp] at h
  case list => obtain ⟨a, xs, rfl, _⟩ := h; rfl
  case tuple => obtain ⟨a, xs, rfl, _⟩ := h; rfl
  case dict => rcases h with ⟨a, xs, rfl, _⟩ | ⟨a, _, rfl⟩ <;> rfl
  all_goals (subst h; rfl)
theorem bi_isN : BinOk K (fun x y H Q => y = .non ∧ Q (.bl (decide (x = .non))) H) (oIsN false) := fun δ F H x y v u R Q hs hx hy ⟨e, n, hr⟩ b => by
  subst e
  simp only [VR, Rp] at hy
  refine ⟨hy, b.bl hs ?_⟩
  rw [← isN_of (hx.rp hs n)]; exact hr
theorem bi_notN : BinOk K (fun x y H Q => y = .non ∧ Q (.bl (!decide (x = .non))) H) (oIsN true) := fun δ F H x y v u R Q hs hx hy ⟨e, n, hr⟩ b => by
  subst e
  simp only [VR, Rp] at hy
  refine ⟨hy, b.bl hs ?_⟩
  rw [← isN_of (hx.rp hs n)]; exact hr
def oIsB (neg : Bool) : D2 := fun x y R => ∃ a b, x = .dat (.bool a) ∧ y = .dat (.bool b) ∧ R (.bool (if neg then !decide (a = b) else decide (a = b)))
theorem bi_isB : BinOk K rIsB (oIsB false) := fun δ F H x y v u R Q hs hx hy ⟨a, c, e1, e2, hr⟩ b => by
  subst e1 e2
  simp only [VR, Rp] at hx hy
  exact ⟨a, c, hx, hy, b.bl hs hr⟩
theorem bi_notB : BinOk K rNotB (oIsB true) := fun δ F H x y v u R Q hs hx hy ⟨a, c, e1, e2, hr⟩ b => by
  subst e1 e2
  simp only [VR, Rp] at hx hy
  exact ⟨a, c, hx, hy, b.bl hs hr⟩
/-- + : ints, tuples, lists -/
def oAdd : D2 := fun x y R =>
  match x.toD, y.toD with
  | .int i, .int j => R (.int (i + j))
  | .tuple xs, .tuple ys => xs.length + ys.length ≤ sizeLine ∧ R (.tuple (xs ++ ys))
  | .list xs, .list ys => xs.length + ys.length ≤ sizeLine ∧ R (.list (xs ++ ys))
  | _, _ => False
abbrev rAddA (K : PySem.W.Frag) : R2 := fun x y H Q => (rI0 (fun i j => .int (i + j)) x y H Q ∨ rCatA K x y H Q) ∨ rCat x y H Q
theorem or_addA : OpR X (binaryOp .Add) (rAddA X.K) := OpR.or (OpR.or op_add op_catA) op_cat
theorem notDeck_of {x : Dv} {d : PyData} (h : x.toD = d) (hd : d ≠ .none) : x.isDk = false := by
  cases x with
  | deck _ => exact absurd h.symm hd
  | _ => rfl
theorem bi_add : BinOk K (rAddA K) oAdd := fun δ F H x y v u R Q hs hx hy h b => by
  unfold oAdd at h
  split at h
  · rename_i i j e1 e2
    have r1 := hx.rp hs (notDeck_of e1 nofun); have r2 := hy.rp hs (notDeck_of e2 nofun)
    rw [e1] at r1; rw [e2] at r2
    simp only [Rp] at r1 r2
    exact .inl (.inl ⟨i, j, r1, r2, b.int hs h⟩)
  · rename_i xs ys e1 e2
    cases x with
    | dat d =>
      cases y with
      | dat d' =>
        simp only [Dv.toD] at e1 e2
        subst e1 e2
        simp only [VR, Rp] at hx hy
        obtain ⟨a1, l1, rfl, h1, p1⟩ := hx
        obtain ⟨a2, l2, rfl, h2, p2⟩ := hy
        have z1 := p1.length; have z2 := p2.length
        refine .inl (.inr ⟨a1, a2, l1, l2, rfl, rfl, SqT.of (hs _ _ h1), SqT.of (hs _ _ h2), by omega, fun e => ?_, fun _ e => ?_, fun _ _ p hp => ?_⟩)
        · subst e
          have : xs = [] := by simpa using z1
          subst this
          exact b.here hs h.2 (by simp only [Rp]; exact ⟨a2, l2, rfl, h2, p2⟩)
        · subst e
          have : ys = [] := by simpa using z2
          subst this
          exact b.here hs (by simpa using h.2) (by simp only [Rp]; exact ⟨a1, l1, rfl, h1, p1⟩)
        · exact b.tup hs h.2 (p1.append p2) hp
      | vw _ => simp [Dv.toD] at e2
      | mt _ => simp [Dv.toD] at e2
      | deck _ => simp [Dv.toD] at e2
      | md _ _ => simp [Dv.toD] at e2
    | vw _ => simp [Dv.toD] at e1
    | mt _ => simp [Dv.toD] at e1
    | deck _ => simp [Dv.toD] at e1
    | md _ _ => simp [Dv.toD] at e1
  · rename_i xs ys e1 e2
    have lst : ∀ {z : Dv} {w : V} {zs : List PyData}, VR K δ F H z w → z.toD = .list zs → ∃ a l, w = .ref a ∧ H a = some (.lst l) ∧ Rps K F zs l := by
      intro z w zs hz e
      cases z with
      | dat d =>
        simp only [Dv.toD] at e; subst e
        simp only [VR, Rp] at hz
        obtain ⟨a, l, e1, e2, e3⟩ := hz
        exact ⟨a, l, e1, hs _ _ e2, e3⟩
      | vw ds =>
        simp only [Dv.toD, PyData.list.injEq] at e; subst e
        obtain ⟨a, l, e1, e2, e3, _⟩ := hz
        exact ⟨a, l, e1, e2, e3⟩
      | mt _ => exact hz.elim
      | deck _ => simp [Dv.toD] at e
      | md _ _ => exact hz.elim
    obtain ⟨a1, l1, rfl, h1, p1⟩ := lst hx e1
    obtain ⟨a2, l2, rfl, h2, p2⟩ := lst hy e2
    have z1 := p1.length; have z2 := p2.length
    exact .inr ⟨a1, a2, l1, l2, rfl, rfl, h1, h2, by omega, fun p hp => b.lst hs h.2 (p1.append p2) hp⟩
  · exact h.elim
/-- the list that a value is -/
theorem VR.lst {δ : DkS} {F H : Hp} {z : Dv} {w : V} {zs : List PyData} (hs : Same F H) (hz : VR K δ F H z w) (e : z.toD = .list zs) : ∃ a l, w = .ref a ∧ H a = some (.lst l) ∧ Rps K F zs l := by
  cases z with
  | dat d =>
    simp only [Dv.toD] at e; subst e
    simp only [VR, Rp] at hz
    obtain ⟨a, l, e1, e2, e3⟩ := hz
    exact ⟨a, l, e1, hs _ _ e2, e3⟩
  | vw ds =>
    simp only [Dv.toD, PyData.list.injEq] at e; subst e
    obtain ⟨a, l, e1, e2, e3, _⟩ := hz
    exact ⟨a, l, e1, e2, e3⟩
  | mt _ => exact hz.elim
  | deck _ => simp [Dv.toD] at e
  | md _ _ => exact hz.elim
theorem VR.tpl {δ : DkS} {F H : Hp} {z : Dv} {w : V} {zs : List PyData} (hs : Same F H) (hz : VR K δ F H z w) (e : z.toD = .tuple zs) : ∃ a l, w = .ref a ∧ F a = some (.tup l) ∧ Rps K F zs l := by
  cases z with
  | dat d =>
    simp only [Dv.toD] at e; subst e
    simpa only [VR, Rp] using hz
  | vw ds => simp [Dv.toD] at e
  | mt _ => exact hz.elim
  | deck _ => simp [Dv.toD] at e
  | md _ _ => exact hz.elim
/-- * : ints (one of them small), a list, a tuple by a number -/
def oMul : D2 := fun x y R =>
  match x.toD, y.toD with
  | .int i, .int j => CMul i j ∧ R (.int (i * j))
  | .list xs, .int k => -(2 ^ 63) ≤ k ∧ k < 2 ^ 63 ∧ xs.length * k.toNat ≤ sizeLine ∧ R (.list (List.replicate k.toNat xs).flatten)
  | _, _ => False

/-! ### subscripts -/
theorem Rps.at {F : Hp} {ds : List PyData} {vs : List V} (r : Rps K F ds vs) {i : Int} {d : PyData} (h : atI ds i = some d) : ∃ v, atI vs i = some v ∧ Rp K F d v := by
  unfold atI at h ⊢
  rw [← r.length]
  obtain ⟨j, e1, e2⟩ := Option.bind_eq_some_iff.mp h
  obtain ⟨v, e3, e4⟩ := r.get e2
  exact ⟨v, by rw [e1]; exact e3, e4⟩
def oIx : D2 := fun x y R =>
  match x.toD with
  | .list ds => ∃ i d, y = .dat (.int i) ∧ atI ds i = some d ∧ R d
  | .tuple ds => ∃ i d, y = .dat (.int i) ∧ atI ds i = some d ∧ R d
  | _ => False
theorem bi_ix : BinOk K (rIx K) oIx := fun δ F H x y v u R Q hs hx hy h b => by
  unfold oIx at h
  split at h
  · rename_i ds e
    obtain ⟨a, l, rfl, h1, h2⟩ := hx.lst hs e
    obtain ⟨i, d, rfl, h3, hr⟩ := h
    simp only [VR, Rp] at hy
    obtain ⟨w, e1, e2⟩ := h2.at h3
    exact .inl ⟨a, l, i, w, rfl, hy, SqL.of h1, e1, b.here hs hr e2⟩
  · rename_i ds e
    obtain ⟨a, l, rfl, h1, h2⟩ := hx.tpl hs e
    obtain ⟨i, d, rfl, h3, hr⟩ := h
    simp only [VR, Rp] at hy
    obtain ⟨w, e1, e2⟩ := h2.at h3
    exact .inr (.inl ⟨a, l, i, w, rfl, hy, SqT.of (hs _ _ h1), e1, b.here hs hr e2⟩)
  · exact h.elim
end
theorem we_ix {a b : Expr} {t u : DTE} {pos : Pos} (ha : WE Y X a t) (hb : WE Y X b u) (hs : PlainIx b) : WE Y X (.Subscript a b pos) (dBin oIx t u) := pe_imp (pe_ix ix_seq ha hb hs) (two bi_ix)

/-! ### slices -/
abbrev DTO := Rho → Wo → (Option Int → Wo → Prop) → Prop
def upO (Y : Fx) (K : PySem.W.Frag) (t : DTO) : TO := fun σ H Q => ∃ Z F ρ n R, SR Y K Z F H σ ρ n ∧ t ρ n R ∧
  ∀ x n' F' H', R x n' → Gr Z.δ F H F' H' → Same F' H' → Z.δ.at_ K F' H' n' → Q x H'
abbrev WO (Y : Fx) (X : Cx) (e : Option Expr) (t : DTO) : Prop := PO X e (upO Y X.K t)
theorem po_imp {e : Option Expr} {t t' : TO} (h : PO X e t) (q : ∀ σ H Q, t' σ H Q → t σ H Q) : PO X e t' := ⟨fun p s σ H Q I w => h.run p s σ H Q I (q σ H Q w)⟩
def dNo : DTO := fun _ n R => R none n
def dSome (t : DTE) : DTO := fun ρ n R => t ρ n fun x n' => ∃ i, x = .dat (.int i) ∧ R (some i) n'
theorem wo_none : WO Y X none dNo := po_imp po_none fun σ H Q ⟨Z, F, ρ, n, R, r, hr, k⟩ => k _ _ _ _ hr Gr.refl r.b.sub r.b.dk
theorem wo_some {e : Expr} {t : DTE} (h : WE Y X e t) : WO Y X (some e) (dSome t) := po_imp (po_some h) fun σ H Q ⟨Z, F, ρ, n, R, r, ht, k⟩ =>
  ⟨Z, F, ρ, n, _, r, ht, fun x n1 F1 H1 v ⟨i, e, hx⟩ g1 s1 d1 w1 => by
    subst e
    simp only [VR, Rp] at w1
    exact ⟨i, w1, k _ _ _ _ hx g1 s1 d1⟩⟩
def cutG {α : Type} (xs : List α) (lo hi : Option Int) : List α := (xs.drop (HT.sIx xs.length 0 lo)).take (HT.sIx xs.length xs.length hi - HT.sIx xs.length 0 lo)
theorem Rps.cut {K : PySem.W.Frag} {F : Hp} {ds : List PyData} {vs : List V} (r : Rps K F ds vs) (lo hi : Option Int) : Rps K F (cutG ds lo hi) (cutV vs lo hi) := by
  unfold cutG cutV
  rw [r.length]
  exact Rps.take _ (Rps.drop _ r)
def oSl (x : Dv) (lo hi : Option Int) (R : PyData → Prop) : Prop :=
  match x.toD with
  | .list ds => R (.list (cutG ds lo hi))
  | .tuple ds => R (.tuple (cutG ds lo hi))
  | _ => False
def dSl (t : DTE) (l h : DTO) : DTE := fun ρ n R => t ρ n fun x n1 => l ρ n1 fun lo n2 => h ρ n2 fun hi n3 => oSl x lo hi fun d => R (.dat d) n3
theorem cut_whole {α : Type} {xs : List α} {lo hi : Option Int} (h : HT.sIx xs.length 0 lo = 0 ∧ HT.sIx xs.length xs.length hi = xs.length) : cutG xs lo hi = xs := by
  unfold cutG
  rw [h.1, h.2]
  simp
theorem we_slice {e : Expr} {lo hi : Option Expr} {t : DTE} {l h : DTO} {pos p2 : Pos} (he : WE Y X e t) (hl : WO Y X lo l) (hh : WO Y X hi h) : WE Y X (.Subscript e (.Slice lo hi none p2) pos) (dSl t l h) :=
  pe_imp (pe_slice (SlR.or sl_list sl_tupA) he hl hh) fun σ H Q ⟨Z, F, ρ, n, R, r, ht, k⟩ =>
    ⟨Z, F, ρ, n, _, r, ht, fun x n1 F1 H1 v hx g1 s1 d1 w1 => ⟨Z, F1, ρ, n1, _, r.step g1 s1 d1, hx, fun lo n2 F2 H2 hlo g2 s2 d2 => ⟨Z, F2, ρ, n2, _, (r.step g1 s1 d1).step g2 s2 d2, hlo, fun hi n3 F3 H3 hhi g3 s3 d3 => by
      have w3 : VR X.K Z.δ F3 H3 x v := (w1.step g2).step g3
      have b : Back X.K F3 H3 (fun d => R (.dat d) n3) Q := fun d F4 H4 v4 h4 g4 s4 w4 =>
        k _ _ _ _ _ h4 (((g1.trans g2).trans g3).trans g4.gr) s4 (g4.dk ((((r.step g1 s1 d1).step g2 s2 d2).step g3 s3 d3).b)) w4
      unfold oSl at hhi
      split at hhi
      · rename_i ds e
        obtain ⟨a, xs, rfl, h1, h2⟩ := w3.lst s3 e
        exact .inl ⟨a, xs, rfl, SqL.of h1, fun p hp => b.lst s3 hhi (h2.cut lo hi) hp⟩
      · rename_i ds e
        obtain ⟨a, xs, rfl, h1, h2⟩ := w3.tpl s3 e
        refine .inr ⟨a, xs, rfl, SqT.of (s3 _ _ h1), fun q => ?_, fun _ p hp => b.tup s3 hhi (h2.cut lo hi) hp⟩
        rw [cut_whole (by rw [h2.length]; exact q)] at hhi
        exact b.here s3 hhi (by simp only [Rp]; exact ⟨a, xs, rfl, h1, h2⟩)
      · exact hhi.elim⟩⟩⟩
/-- xs[::-1] of a list -/
def oRevL (x : Dv) (R : PyData → Prop) : Prop := ∃ ds, x.toD = .list ds ∧ R (.list ds.reverse)
def dUn (o : Dv → (PyData → Prop) → Prop) (t : DTE) : DTE := fun ρ n R => t ρ n fun x n1 => o x fun d => R (.dat d) n1
theorem one {K : PySem.W.Frag} {r : V → Hp → VK → Prop} {o : Dv → (PyData → Prop) → Prop} {t : DTE} (hr : ∀ δ F H x v R Q, Same F H → VR K δ F H x v → o x R → Back K F H R Q → r v H Q) :
    ∀ σ H Q, up Y K (dUn o t) σ H Q → up Y K t σ H fun x H1 => r x H1 Q := fun σ H Q ⟨Z, F, ρ, n, R, s, ht, k⟩ =>
  ⟨Z, F, ρ, n, _, s, ht, fun x n1 F1 H1 v hx g1 s1 d1 w1 => hr Z.δ F1 H1 x v _ Q s1 w1 hx fun d F2 H2 v2 h2 g2 s2 w2 =>
    k _ _ _ _ _ h2 (g1.trans g2.gr) s2 (g2.dk ((s.step g1 s1 d1).b)) w2⟩
theorem we_revL {e : Expr} {t : DTE} {pos p1 p2 p3 : Pos} {k : Nat} (he : WE Y X e t) : WE Y X (.Subscript e (.Slice none none (some (.UnaryOp .USub (.Constant (.int 1) k p1) p2)) p3) pos) (dUn oRevL t) :=
  pe_imp (pe_revL he) (one (r := fun x H1 Q => ∃ a xs, x = .ref a ∧ SqL X.K H1 a xs ∧ ∀ p, H1 p = none → Q (.ref p) (upd H1 p (.lst xs.reverse))) fun δ F H x v R Q hs hx ⟨ds, e, hr⟩ b => by
    obtain ⟨a, xs, rfl, h1, h2⟩ := hx.lst hs e
    exact ⟨a, xs, rfl, SqL.of h1, fun p hp => b.lst hs hr h2.rev hp⟩)

/-! ### and, or, not, if -/
def asB (x : Dv) (R : Bool → Prop) : Prop :=
  match x with
  | .dat (.bool c) => R c
  | _ => False
theorem asB_is {x : Dv} {R : Bool → Prop} (h : asB x R) : ∃ c, x = .dat (.bool c) ∧ R c := by
  unfold asB at h
  split at h
  · exact ⟨_, rfl, h⟩
  · exact h.elim
def dAnd (t u : DTE) : DTE := fun ρ n R => t ρ n fun x n1 => asB x fun c => if c = true then u ρ n1 R else R (.dat (.bool false)) n1
def dOr (t u : DTE) : DTE := fun ρ n R => t ρ n fun x n1 => asB x fun c => if c = true then R (.dat (.bool true)) n1 else u ρ n1 R
theorem we_one {op} {a : Expr} {t : DTE} {pos : Pos} (h : WE Y X a t) : WE Y X (.BoolOp op [a] pos) t := pe_one h
theorem we_and {a b : Expr} {rest : List Expr} {t u : DTE} {pos : Pos} (ha : WE Y X a t) (hb : WE Y X (.BoolOp .And (b :: rest) pos) u) : WE Y X (.BoolOp .And (a :: b :: rest) pos) (dAnd t u) :=
  pe_imp (pe_and ha hb) fun σ H Q ⟨Z, F, ρ, n, R, r, ht, k⟩ => ⟨Z, F, ρ, n, _, r, ht, fun x n1 F1 H1 v hx g1 s1 d1 w1 => by
    obtain ⟨c, rfl, hx⟩ := asB_is hx
    simp only [VR, Rp] at w1
    refine ⟨c, w1, ?_⟩
    cases c with
    | true => exact ⟨Z, F1, ρ, n1, _, r.step g1 s1 d1, hx, fun y n2 F2 H2 v2 hy g2 s2 d2 w2 => k _ _ _ _ _ hy (g1.trans g2) s2 d2 w2⟩
    | false => exact k _ _ _ _ _ hx g1 s1 d1 (by simp [VR, Rp])⟩
theorem we_or {a b : Expr} {rest : List Expr} {t u : DTE} {pos : Pos} (ha : WE Y X a t) (hb : WE Y X (.BoolOp .Or (b :: rest) pos) u) : WE Y X (.BoolOp .Or (a :: b :: rest) pos) (dOr t u) :=
  pe_imp (pe_or ha hb) fun σ H Q ⟨Z, F, ρ, n, R, r, ht, k⟩ => ⟨Z, F, ρ, n, _, r, ht, fun x n1 F1 H1 v hx g1 s1 d1 w1 => by
    obtain ⟨c, rfl, hx⟩ := asB_is hx
    simp only [VR, Rp] at w1
    refine ⟨c, w1, ?_⟩
    cases c with
    | false => exact ⟨Z, F1, ρ, n1, _, r.step g1 s1 d1, hx, fun y n2 F2 H2 v2 hy g2 s2 d2 w2 => k _ _ _ _ _ hy (g1.trans g2) s2 d2 w2⟩
    | true => exact k _ _ _ _ _ hx g1 s1 d1 (by simp [VR, Rp])⟩
def oNot (x : Dv) (R : PyData → Prop) : Prop := asB x fun c => R (.bool (!c))
theorem we_not {a : Expr} {t : DTE} {pos : Pos} (ha : WE Y X a t) : WE Y X (.UnaryOp .Not a pos) (dUn oNot t) :=
  pe_imp (pe_not ha) (one (r := fun x H1 Q => ∃ c, x = .bl c ∧ Q (.bl (!c)) H1) fun δ F H x v R Q hs hx h b => by
    obtain ⟨c, rfl, hr⟩ := asB_is h
    simp only [VR, Rp] at hx
    exact ⟨c, hx, b.bl hs hr⟩)
def dIf (c : DTT) (t u : DTE) : DTE := fun ρ n R => c ρ n fun b n1 => if b = true then t ρ n1 R else u ρ n1 R
theorem we_if {c a b : Expr} {tc : DTT} {t u : DTE} {pos : Pos} (hc : WT Y X c tc) (ha : WE Y X a t) (hb : WE Y X b u) : WE Y X (.IfExp c a b pos) (dIf tc t u) :=
  pe_imp (pe_ifExp hc ha hb) fun σ H Q ⟨Z, F, ρ, n, R, r, ht, k⟩ => ⟨Z, F, ρ, n, _, r, ht, fun c n1 F1 H1 hx g1 s1 d1 => by
    cases c with
    | true => exact ⟨Z, F1, ρ, n1, _, r.step g1 s1 d1, hx, fun y n2 F2 H2 v2 hy g2 s2 d2 w2 => k _ _ _ _ _ hy (g1.trans g2) s2 d2 w2⟩
    | false => exact ⟨Z, F1, ρ, n1, _, r.step g1 s1 d1, hx, fun y n2 F2 H2 v2 hy g2 s2 d2 w2 => k _ _ _ _ _ hy (g1.trans g2) s2 d2 w2⟩⟩
/-! tests -/
abbrev WW (Y : Fx) (X : Cx) (e : Expr) (t : DTT) : Prop := PW X e (upT Y X.K t)
theorem pw_imp {e : Expr} {t t' : TT} (h : PW X e t) (q : ∀ σ H Q, t' σ H Q → t σ H Q) : PW X e t' := ⟨fun wh p s σ H Q I w => h.run wh p s σ H Q I (q σ H Q w)⟩
theorem wt_val {e : Expr} {t : DTE} (h : WE Y X e t) (he : ∀ whole, isTrue e X.env whole = (do let v ← whole; standAt e.pos; holding [v] (truthy v)) := by intro _; rfl) : WT Y X e (dTst t) :=
  pt_imp (pt_val h he) fun σ H Q ⟨Z, F, ρ, n, R, s, ht, k⟩ => ⟨Z, F, ρ, n, _, s, ht, fun x n1 F1 H1 v ⟨c, e, hx⟩ g1 s1 d1 w1 => by
    subst e
    simp only [VR, Rp] at w1
    exact ⟨c, w1, k _ _ _ _ hx g1 s1 d1⟩⟩
def truD : PyData → Bool
  | .none => false
  | .bool b => b
  | .int i => i != 0
  | .str z => (z.length : Int) != 0
  | .list ds => !ds.isEmpty
  | .tuple ds => !ds.isEmpty
  | .dict ds => !ds.isEmpty
def oTru (x : Dv) (R : Bool → Prop) : Prop :=
  match x.toD with
  | .list ds => R (!ds.isEmpty)
  | .tuple ds => R (!ds.isEmpty)
  | .bool b => R b
  | .int i => R (i != 0)
  | _ => False
def dTru (t : DTE) : DTT := fun ρ n R => t ρ n fun x n1 => oTru x fun c => R c n1
theorem Rps.isEmpty {K : PySem.W.Frag} {F : Hp} {ds : List PyData} {vs : List V} (r : Rps K F ds vs) : ds.isEmpty = vs.isEmpty := by
  have h := r.length
  cases ds <;> cases vs <;> simp at h ⊢
theorem wt_tru {e : Expr} {t : DTE} (h : WE Y X e t) (he : ∀ whole, isTrue e X.env whole = (do let v ← whole; standAt e.pos; holding [v] (truthy v)) := by intro _; rfl) : WT Y X e (dTru t) :=
  pt_imp (pt_truth h he) fun σ H Q ⟨Z, F, ρ, n, R, s, ht, k⟩ => ⟨Z, F, ρ, n, _, s, ht, fun x n1 F1 H1 v hx g1 s1 d1 w1 => by
    unfold oTru at hx
    split at hx
    · rename_i ds e
      obtain ⟨a, xs, rfl, h1, h2⟩ := w1.lst s1 e
      exact ⟨_, .inl ⟨xs, SqL.of h1, rfl⟩, by rw [← h2.isEmpty]; exact k _ _ _ _ hx g1 s1 d1⟩
    · rename_i ds e
      obtain ⟨a, xs, rfl, h1, h2⟩ := w1.tpl s1 e
      exact ⟨_, .inr (.inl ⟨xs, SqT.of (s1 _ _ h1), rfl⟩), by rw [← h2.isEmpty]; exact k _ _ _ _ hx g1 s1 d1⟩
    · rename_i b e
      have r1 := w1.rp s1 (notDeck_of e nofun)
      rw [e] at r1; simp only [Rp] at r1; subst r1
      exact ⟨_, rfl, k _ _ _ _ hx g1 s1 d1⟩
    · rename_i i e
      have r1 := w1.rp s1 (notDeck_of e nofun)
      rw [e] at r1; simp only [Rp] at r1; subst r1
      exact ⟨_, rfl, k _ _ _ _ hx g1 s1 d1⟩
    · exact hx.elim⟩
def dTAnd (t u : DTT) : DTT := fun ρ n R => t ρ n fun c n1 => if c = true then u ρ n1 R else R false n1
def dTOr (t u : DTT) : DTT := fun ρ n R => t ρ n fun c n1 => if c = true then R true n1 else u ρ n1 R
def dTNot (t : DTT) : DTT := fun ρ n R => t ρ n fun c n1 => R (!c) n1
theorem ww_and1 {a : Expr} {t : DTT} {pos : Pos} (ha : WT Y X a t) : WW Y X (.BoolOp .And [a] pos) t := pw_and1 ha
theorem ww_or1 {a : Expr} {t : DTT} {pos : Pos} (ha : WT Y X a t) : WW Y X (.BoolOp .Or [a] pos) t := pw_or1 ha
theorem ww_and {a b : Expr} {rest : List Expr} {t u : DTT} {pos : Pos} (ha : WT Y X a t) (hb : WW Y X (.BoolOp .And (b :: rest) pos) u) : WW Y X (.BoolOp .And (a :: b :: rest) pos) (dTAnd t u) :=
  pw_imp (pw_and ha hb) fun σ H Q ⟨Z, F, ρ, n, R, r, ht, k⟩ => ⟨Z, F, ρ, n, _, r, ht, fun c n1 F1 H1 hx g1 s1 d1 => by
    cases c with
    | true => exact ⟨Z, F1, ρ, n1, _, r.step g1 s1 d1, hx, fun y n2 F2 H2 hy g2 s2 d2 => k _ _ _ _ hy (g1.trans g2) s2 d2⟩
    | false => exact k _ _ _ _ hx g1 s1 d1⟩
theorem ww_or {a b : Expr} {rest : List Expr} {t u : DTT} {pos : Pos} (ha : WT Y X a t) (hb : WW Y X (.BoolOp .Or (b :: rest) pos) u) : WW Y X (.BoolOp .Or (a :: b :: rest) pos) (dTOr t u) :=
  pw_imp (pw_or ha hb) fun σ H Q ⟨Z, F, ρ, n, R, r, ht, k⟩ => ⟨Z, F, ρ, n, _, r, ht, fun c n1 F1 H1 hx g1 s1 d1 => by
    cases c with
    | false => exact ⟨Z, F1, ρ, n1, _, r.step g1 s1 d1, hx, fun y n2 F2 H2 hy g2 s2 d2 => k _ _ _ _ hy (g1.trans g2) s2 d2⟩
    | true => exact k _ _ _ _ hx g1 s1 d1⟩
theorem wt_w {e : Expr} {t : DTT} (h : WW Y X e t) : WT Y X e t := h.pt
theorem wt_not {a : Expr} {t : DTT} {pos : Pos} (ha : WT Y X a t) : WT Y X (.UnaryOp .Not a pos) (dTNot t) :=
  pt_imp (pt_not ha) fun σ H Q ⟨Z, F, ρ, n, R, r, ht, k⟩ => ⟨Z, F, ρ, n, _, r, ht, fun c n1 F1 H1 hx g1 s1 d1 => k _ _ _ _ hx g1 s1 d1⟩
end DL
namespace DL
open PySem PySem.Spec PyProof.Rows L2
variable {X : Cx} {Y : Fx}

/-! ### values for an assignment: data, or a fresh list -/
def VX (K : PySem.W.Frag) (Hs F H : Hp) : Dv → V → Prop
  | .dat d, v => Rp K F d v
  | .mt ds, v => ∃ p vs, v = .ref p ∧ Hs p = none ∧ F p = none ∧ H p = some (.lst vs) ∧ Rps K F ds vs
  | .md a ks, v => v = .ref a ∧ Hs a = none ∧ F a = none ∧ H a = some (.dK ks)
  | _, _ => False
def upX (Y : Fx) (K : PySem.W.Frag) (t : DTE) : TE := fun σ H Q => ∃ Z F ρ n R, SR Y K Z F H σ ρ n ∧ t ρ n R ∧
  ∀ x n' F' H' v, R x n' → Gr Z.δ F H F' H' → Same F' H' → Z.δ.at_ K F' H' n' → VX K H F' H' x v → Q v H'
abbrev XE (Y : Fx) (X : Cx) (e : Expr) (t : DTE) : Prop := PE X e (upX Y X.K t)
def xD (t : DTE) : DTE := fun ρ n R => t ρ n fun x n' => needD x fun d => R (.dat d) n'
def xM (t : DTM) : DTE := fun ρ n R => t ρ n fun ds n' => R (.mt ds) n'
theorem xe_d {e : Expr} {t : DTE} (h : WE Y X e t) : XE Y X e (xD t) := pe_imp h fun σ H Q ⟨Z, F, ρ, n, R, r, ht, k⟩ =>
  ⟨Z, F, ρ, n, _, r, ht, fun x n1 F1 H1 v hx g1 s1 d1 w1 => by
    obtain ⟨d, rfl, hx⟩ := needD_is hx
    exact k _ _ _ _ _ hx g1 s1 d1 w1⟩
theorem xe_m {e : Expr} {t : DTM} (h : ME Y X e t) : XE Y X e (xM t) := pe_imp h fun σ H Q ⟨Z, F, ρ, n, R, r, ht, k⟩ =>
  ⟨Z, F, ρ, n, _, r, ht, fun ds n1 F1 H1 p vs hx g1 s1 d1 a b c d => k _ _ _ _ _ hx g1 s1 d1 ⟨p, vs, rfl, a, b, c, d⟩⟩
theorem VX.step {K : PySem.W.Frag} {δ : DkS} {Hs F H F' H' : Hp} {x : Dv} {v : V} (hs : ∀ a, a ∈ δ.own → Hs a ≠ none) (g : Gr δ F H F' H') (h : VX K Hs F H x v) : VX K Hs F' H' x v := by
  cases x with
  | dat d => exact Rp.mono g.sF d v h
  | mt ds =>
    obtain ⟨p, vs, rfl, a, b, c, d⟩ := h
    exact ⟨p, vs, rfl, a, g.nF p (by rw [c]; nofun) b, g.kH p _ (fun q => hs p q a) c rfl, Rps.mono g.sF ds vs d⟩
  | vw _ => exact h
  | deck _ => exact h
  | md a ks =>
    obtain ⟨e, h1, h2, h3⟩ := h
    exact ⟨e, h1, g.nF a (by rw [h3]; nofun) h2, g.kH a _ (fun q => hs a q h1) h3 rfl⟩

/-! ### storing into a slot -/
section
variable {K : PySem.W.Frag} {Y Z : Fx} {F H : Hp} {σ : L2.St} {ρ : Rho} {n : Wo}
theorem SR.set (r : SR Y K Z F H σ ρ n) (i : Nat) {x : Dv} {v : V} {Hs : Hp} (hx : VX K Hs F H x v) (h0 : ∀ p, Hs p = none → Z.H0 p = none ∧ p ∉ Z.δ.own) (hi : ∀ p, Hs p = none → ∀ (j : Nat) (y : Dv), j ≠ i → ρ[j]? = some (some y) → y.isL = true → σ[j]? ≠ some (some (.ref p))) :
    SR Y K Z F H (σ.set i (some v)) (ρ.set i (some x)) n where
  b := r.b
  de := r.de
  he := r.he
  gr := r.gr
  len := by simp [r.len]
  slot := fun j y e => by
    by_cases q : i = j
    · subst q
      by_cases hl : i < ρ.length
      · rw [List.getElem?_set_self hl] at e
        cases e
        refine ⟨v, List.getElem?_set_self (by rw [← r.len]; exact hl), ?_⟩
        cases x with
        | dat d => exact hx
        | mt ds =>
          obtain ⟨p, vs, rfl, a, b, c, d⟩ := hx
          exact ⟨p, vs, rfl, (h0 p a).1, b, c, d, (h0 p a).2⟩
        | vw _ => exact hx.elim
        | deck _ => exact hx.elim
        | md a ks =>
          obtain ⟨e, h1, h2, h3⟩ := hx
          exact ⟨e, (h0 a h1).1, h2, h3, (h0 a h1).2⟩
      · rw [List.getElem?_eq_none (by rw [List.length_set]; omega)] at e
        cases e
    · rw [List.getElem?_set_ne q] at e
      obtain ⟨w, e1, e2⟩ := r.slot j y e
      exact ⟨w, by rw [List.getElem?_set_ne q]; exact e1, e2⟩
  apart := fun j k a ds y hjk e1 e2 e3 hy e4 => by
    by_cases q : i = j
    · subst q
      by_cases hl : i < ρ.length
      · rw [List.getElem?_set_self hl] at e1
        rw [List.getElem?_set_self (by rw [← r.len]; exact hl)] at e2
        cases e1; cases e2
        rw [List.getElem?_set_ne hjk] at e3 e4
        obtain ⟨p, vs, e5, a', b, c, d⟩ := hx
        cases e5
        exact hi _ a' k y (Ne.symm hjk) e3 hy e4
      · rw [List.getElem?_eq_none (by rw [List.length_set]; omega)] at e1
        cases e1
    · rw [List.getElem?_set_ne q] at e1 e2
      by_cases q2 : i = k
      · subst q2
        by_cases hl : i < ρ.length
        · rw [List.getElem?_set_self hl] at e3
          rw [List.getElem?_set_self (by rw [← r.len]; exact hl)] at e4
          cases e3; cases e4
          cases x with
          | dat d => simp [Dv.isL] at hy
          | mt ds' =>
            obtain ⟨p, vs, e5, a', b, c, d⟩ := hx
            cases e5
            exact hi _ a' j (.mt ds) hjk e1 rfl e2
          | vw _ => exact hx.elim
          | deck _ => exact hx.elim
          | md _ _ => simp [Dv.isL] at hy
        · rw [List.getElem?_eq_none (by rw [List.length_set]; omega)] at e3
          cases e3
      · rw [List.getElem?_set_ne q2] at e3 e4
        exact r.apart j k a ds y hjk e1 e2 e3 hy e4
/-- a slot that is a list's lies in the heap -/
theorem SR.inH (r : SR Y K Z F H σ ρ n) {j : Nat} {y : Dv} {p : Addr} (e : ρ[j]? = some (some y)) (hy : y.isL = true) (e2 : σ[j]? = some (some (.ref p))) : H p ≠ none := by
  obtain ⟨v, e3, e4⟩ := r.slot j y e
  rw [e2] at e3; cases e3
  cases y with
  | dat _ => simp [Dv.isL] at hy
  | deck _ => simp [Dv.isL] at hy
  | md _ _ => simp [Dv.isL] at hy
  | vw ds =>
    obtain ⟨a, vs, q, h, _⟩ := e4
    cases q; rw [h]; nofun
  | mt ds =>
    obtain ⟨a, vs, q, _, _, h, _⟩ := e4
    cases q; rw [h]; nofun
/-- .. where it was made in an expression that began at Hs -/
theorem SR.fresh (r : SR Y K Z F H σ ρ n) {p : Addr} (h : H p = none) : Z.H0 p = none ∧ p ∉ Z.δ.own := by
  have n1 : p ∉ Z.δ.own := fun q => (r.b.dkF p q).2 h
  refine ⟨?_, n1⟩
  cases e : Z.H0 p with
  | none => rfl
  | some o => exact absurd h (r.b.gD p (by rw [e]; nofun))
theorem SR.setX (r0 : SR Y K Z F H σ ρ n) {F' H' : Hp} {n' : Wo} (r : SR Y K Z F' H' σ ρ n') (i : Nat) {x : Dv} {v : V} (hx : VX K H F' H' x v) : SR Y K Z F' H' (σ.set i (some v)) (ρ.set i (some x)) n' :=
  r.set i hx (fun p h => r0.fresh h) fun p h j y _ e hy e2 => r0.inH e hy e2 h
end

/-! ### statements -/
structure DEnds where
  nx : Rho → Wo → Prop
  rt : PyData → Wo → Prop
  bk : Rho → Wo → Prop := fun _ _ => False
  ct : Rho → Wo → Prop := fun _ _ => False
abbrev DTS := DEnds → Rho → Wo → Prop
structure EndsOk (Y : Fx) (K : PySem.W.Frag) (Z : Fx) (E : DEnds) (D : Ends) : Prop where
  nx : ∀ F H σ ρ n, E.nx ρ n → SR Y K Z F H σ ρ n → D.nx σ H
  rt : ∀ d n F H v, E.rt d n → Base K Z F H n → Rp K F d v → D.rt v H
  bk : ∀ F H σ ρ n, E.bk ρ n → SR Y K Z F H σ ρ n → D.bk σ H
  ct : ∀ F H σ ρ n, E.ct ρ n → SR Y K Z F H σ ρ n → D.ct σ H
def upS (Y : Fx) (K : PySem.W.Frag) (t : DTS) : TS := fun D σ H => ∃ Z F ρ n E, SR Y K Z F H σ ρ n ∧ t E ρ n ∧ EndsOk Y K Z E D
abbrev DS (Y : Fx) (X : Cx) (st : Stmt) (t : DTS) : Prop := PS X st (upS Y X.K t)
abbrev DSs (Y : Fx) (X : Cx) (st : List Stmt) (t : DTS) : Prop := PSs X st (upS Y X.K t)
def dSkip : DTS := fun E ρ n => E.nx ρ n
def dSeq (t u : DTS) : DTS := fun E ρ n => t { E with nx := u E } ρ n
theorem dss_nil : DSs Y X [] dSkip := pss_imp pss_nil fun D σ H ⟨Z, F, ρ, n, E, r, ht, k⟩ => k.nx _ _ _ _ _ ht r
theorem dss_cons {st : Stmt} {rest : List Stmt} {t u : DTS} (h1 : DS Y X st t) (h2 : DSs Y X rest u) : DSs Y X (st :: rest) (dSeq t u) :=
  pss_imp (pss_cons h1 h2) fun D σ H ⟨Z, F, ρ, n, E, r, ht, k⟩ => ⟨Z, F, ρ, n, _, r, ht, ⟨fun F' H' σ' ρ' n' h r' => ⟨Z, F', ρ', n', E, r', h, k⟩, k.rt, k.bk, k.ct⟩⟩
theorem dss_one {st : Stmt} {t : DTS} (h : DS Y X st t) : DSs Y X [st] t := pss_one h
theorem ds_pass {pos : Pos} : DS Y X (.Pass pos) dSkip := ps_imp ps_pass fun D σ H ⟨Z, F, ρ, n, E, r, ht, k⟩ => k.nx _ _ _ _ _ ht r
def dBreak : DTS := fun E ρ n => E.bk ρ n
def dCont : DTS := fun E ρ n => E.ct ρ n
theorem ds_break {pos : Pos} : DS Y X (.Break pos) dBreak := ps_imp ps_break fun D σ H ⟨Z, F, ρ, n, E, r, ht, k⟩ => k.bk _ _ _ _ _ ht r
theorem ds_continue {pos : Pos} : DS Y X (.Continue pos) dCont := ps_imp ps_continue fun D σ H ⟨Z, F, ρ, n, E, r, ht, k⟩ => k.ct _ _ _ _ _ ht r
def dRet (t : DTE) : DTS := fun E ρ n => t ρ n fun x n' => needD x fun d => E.rt d n'
theorem ds_ret {e : Expr} {t : DTE} {pos : Pos} (he : WE Y X e t) : DS Y X (.Return (some e) pos) (dRet t) :=
  ps_imp (ps_ret he) fun D σ H ⟨Z, F, ρ, n, E, r, ht, k⟩ => ⟨Z, F, ρ, n, _, r, ht, fun x n1 F1 H1 v hx g1 s1 d1 w1 => by
    obtain ⟨d, rfl, hx⟩ := needD_is hx
    exact k.rt _ _ _ _ _ hx (r.b.step g1 s1 d1) w1⟩
def dRetN : DTS := fun E _ n => E.rt .none n
theorem ds_retN {pos : Pos} : DS Y X (.Return none pos) dRetN :=
  ps_imp ps_retN fun D σ H ⟨Z, F, ρ, n, E, r, ht, k⟩ => k.rt _ _ _ _ _ ht r.b (by simp [Rp])
def dDrop (t : DTE) : DTS := fun E ρ n => t ρ n fun _ n' => E.nx ρ n'
theorem ds_expr {e : Expr} {t : DTE} {pos : Pos} (he : WE Y X e t) (hs : swapsWith e none pos.line X.env = pure false := by rfl) : DS Y X (.Expr e pos) (dDrop t) :=
  ps_imp (ps_expr he hs) fun D σ H ⟨Z, F, ρ, n, E, r, ht, k⟩ => ⟨Z, F, ρ, n, _, r, ht, fun x n1 F1 H1 v hx g1 s1 d1 w1 => k.nx _ _ _ _ _ hx (r.step g1 s1 d1)⟩
def dIfS (c : DTT) (t u : DTS) : DTS := fun E ρ n => c ρ n fun b n' => if b = true then t E ρ n' else u E ρ n'
theorem ds_if {c : Expr} {a b : List Stmt} {tc : DTT} {t u : DTS} {pos : Pos} (hc : WT Y X c tc) (ha : DSs Y X a t) (hb : DSs Y X b u) : DS Y X (.If c a b pos) (dIfS tc t u) :=
  ps_imp (ps_if hc ha hb) fun D σ H ⟨Z, F, ρ, n, E, r, ht, k⟩ => ⟨Z, F, ρ, n, _, r, ht, fun c n1 F1 H1 hx g1 s1 d1 => by
    cases c with
    | true => exact ⟨Z, F1, ρ, n1, E, r.step g1 s1 d1, hx, k⟩
    | false => exact ⟨Z, F1, ρ, n1, E, r.step g1 s1 d1, hx, k⟩⟩
/-- name = value -/
def dAsg (i : Nat) (t : DTE) : DTS := fun E ρ n => t ρ n fun x n' => E.nx (ρ.set i (some x)) n'
theorem asg_im {i : Nat} {K : PySem.W.Frag} {t : DTE} : ∀ D σ H, upS Y K (dAsg i t) D σ H → tAsg (upX Y K t) (gName i) D σ H := fun D σ H ⟨Z, F, ρ, n, E, r, ht, k⟩ =>
  ⟨Z, F, ρ, n, _, r, ht, fun x n1 F1 H1 v hx g1 s1 d1 w1 => k.nx _ _ _ _ _ hx (r.setX (r.step g1 s1 d1) i w1)⟩
theorem ds_set {i : Nat} {x : Str} {e : Expr} {t : DTE} {pos pos' : Pos} (hN : X.N.Nodup) (hi : X.N[i]? = some x) (hx : Loc X.env.scope x) (he : XE Y X e t) (hs : swapsWith e (some (.Name x pos')) pos.line X.env = pure false := by rfl)
    (hf : X.fn x = true ∨ X.env.scope.names.lookup x = some .local := by first | exact .inl rfl | exact .inr rfl | assumption) : DS Y X (.Assign [.Name x pos'] e pos) (dAsg i t) := ps_imp (ps_set hN hi hx he hs hf) asg_im
/-- name = other name, a list of one's own: both are data from here on -/
def dMove (i j : Nat) : DTS := fun E ρ n => ∃ ds, ρ[j]? = some (some (.mt ds)) ∧ E.nx ((ρ.set j (some (.dat (.list ds)))).set i (some (.dat (.list ds)))) n
theorem SR.freeze {K : PySem.W.Frag} {Y Z : Fx} {F H : Hp} {σ : L2.St} {ρ : Rho} {n : Wo} (r : SR Y K Z F H σ ρ n) {j : Nat} {ds : List PyData} (e : ρ[j]? = some (some (.mt ds))) :
    ∃ F' a, σ[j]? = some (some (.ref a)) ∧ SR Y K Z F' H σ (ρ.set j (some (.dat (.list ds)))) n ∧ Rp K F' (.list ds) (.ref a) ∧ Same F F' := by
  obtain ⟨v, e1, a, vs, rfl, h0, hF, hH, hr, na⟩ := r.slot j _ e
  have s1 : Same F (upd F a (.lst vs)) := fun b o q => by rw [upd_ne (ne_of_none q hF)]; exact q
  have hrp : Rp K (upd F a (.lst vs)) (.list ds) (.ref a) := by
    simp only [Rp]
    exact ⟨a, vs, rfl, upd_same, Rps.mono s1 ds vs hr⟩
  refine ⟨upd F a (.lst vs), a, e1, ⟨⟨fun b o q => ?_, r.b.dk.fz hH rfl hF, fun b hb => ⟨?_, (r.b.dkF b hb).2⟩, r.b.gF.trans s1, fun b q1 q2 => ?_, r.b.gH, r.b.gI⟩, r.de, r.he, ⟨r.gr.sF.trans s1, fun b q1 q2 => by rw [upd_ne (fun z => q1 (by rw [z, ← r.he]; exact h0))]; exact r.gr.nF b q1 q2, r.gr.kH, r.gr.iH, r.gr.dH⟩, by simp [r.len], fun k y q => ?_, fun k l b es y hkl q1 q2 q3 hy q4 => ?_⟩, hrp, s1⟩
  · by_cases z : b = a
    · subst z; rw [upd_same] at q; cases q; exact hH
    · rw [upd_ne z] at q; exact r.b.sub _ _ q
  · rw [upd_ne (fun z => na (by rw [← z]; exact hb))]; exact (r.b.dkF b hb).1
  · rw [upd_ne (fun z => q1 (by rw [z]; exact h0))]; exact r.b.gN b q1 q2
  · by_cases z : j = k
    · subst z
      have hl : j < ρ.length := (List.getElem?_eq_some_iff.mp e).1
      rw [List.getElem?_set_self hl] at q
      cases q
      exact ⟨_, e1, hrp⟩
    · rw [List.getElem?_set_ne z] at q
      obtain ⟨w, w1, w2⟩ := r.slot k y q
      refine ⟨w, w1, ?_⟩
      cases y with
      | dat d => exact Rp.mono s1 d w w2
      | vw es =>
        obtain ⟨b, us, rfl, p1, p2, p3⟩ := w2
        exact ⟨b, us, rfl, p1, Rps.mono s1 es us p2, p3⟩
      | mt es =>
        obtain ⟨b, us, rfl, p1, p2, p3, p4, p5⟩ := w2
        refine ⟨b, us, rfl, p1, ?_, p3, Rps.mono s1 es us p4, p5⟩
        rw [upd_ne (fun zz => r.apart j k a ds (.mt es) z e e1 q rfl (by rw [w1, zz]))]; exact p2
      | deck _ => exact w2
      | md b ks =>
        obtain ⟨q1, q2, q3, q4, q5⟩ := w2
        refine ⟨q1, q2, ?_, q4, q5⟩
        rw [upd_ne (fun zz => by rw [zz, hH] at q4; cases q4)]; exact q3
  · by_cases z : j = k
    · subst z
      have hl : j < ρ.length := (List.getElem?_eq_some_iff.mp e).1
      rw [List.getElem?_set_self hl] at q1
      cases q1
    · rw [List.getElem?_set_ne z] at q1
      by_cases z2 : j = l
      · subst z2
        have hl : j < ρ.length := (List.getElem?_eq_some_iff.mp e).1
        rw [List.getElem?_set_self hl] at q3
        cases q3
        simp [Dv.isL] at hy
      · rw [List.getElem?_set_ne z2] at q3
        exact r.apart k l b es y hkl q1 q2 q3 hy q4
theorem ds_move {i j : Nat} {x y : Str} {pos pos' pos2 : Pos} (hN : X.N.Nodup) (hi : X.N[i]? = some x) (hx : Loc X.env.scope x) (he : PE X (.Name y pos2) (tVar j)) (hs : swapsWith (.Name y pos2) (some (.Name x pos')) pos.line X.env = pure false := by rfl)
    (hf : X.fn x = true ∨ X.env.scope.names.lookup x = some .local := by first | exact .inl rfl | exact .inr rfl | assumption) : DS Y X (.Assign [.Name x pos'] (.Name y pos2) pos) (dMove i j) :=
  ps_imp (ps_set hN hi hx he hs hf) fun D σ H ⟨Z, F, ρ, n, E, r, ⟨ds, e, hx⟩, k⟩ => by
    obtain ⟨F', a, e1, r', hr, _⟩ := r.freeze e
    exact ⟨_, e1, k.nx _ _ _ _ _ hx (r'.set (Hs := H) i hr (fun p h => r'.fresh h) fun p h l z _ q hz q2 => r'.inH q hz q2 h)⟩
/-- return of a list of one's own -/
def dRetM (j : Nat) : DTS := fun E ρ n => ∃ ds, ρ[j]? = some (some (.mt ds)) ∧ E.rt (.list ds) n
theorem ds_retM {j : Nat} {y : Str} {pos pos2 : Pos} (he : PE X (.Name y pos2) (tVar j)) : DS Y X (.Return (some (.Name y pos2)) pos) (dRetM j) :=
  ps_imp (ps_ret he) fun D σ H ⟨Z, F, ρ, n, E, r, ⟨ds, e, hx⟩, k⟩ => by
    obtain ⟨F', a, e1, r', hr, _⟩ := r.freeze e
    exact ⟨_, e1, k.rt _ _ _ _ _ hx r'.b hr⟩
/-- a, b = x, y -/
def dPar (i j : Nat) (t u : DTE) : DTS := fun E ρ n => t ρ n fun x n1 => u ρ n1 fun y n2 => E.nx ((ρ.set i (some x)).set j (some y)) n2
theorem par_set {K : PySem.W.Frag} {Y Z : Fx} {F H F1 H1 F2 H2 : Hp} {σ : L2.St} {ρ : Rho} {n n1 n2 : Wo} {i j : Nat} {x y : Dv} {v w : V} (hij : i ≠ j) (r : SR Y K Z F H σ ρ n) (r1 : SR Y K Z F1 H1 σ ρ n1) (r2 : SR Y K Z F2 H2 σ ρ n2) (g : Gr Z.δ F1 H1 F2 H2)
    (hx : VX K H F1 H1 x v) (hy : VX K H1 F2 H2 y w) : SR Y K Z F2 H2 ((σ.set i (some v)).set j (some w)) ((ρ.set i (some x)).set j (some y)) n2 := by
  have hx2 : VX K H F2 H2 x v := hx.step (fun a ha => (r.b.dkF a ha).2) g
  refine (r.setX r2 i hx2).set (Hs := H1) j hy (fun p h => r1.fresh h) fun p h l z hl e hz e2 => ?_
  by_cases q : i = l
  · subst q
    by_cases hlt : i < ρ.length
    · rw [List.getElem?_set_self hlt] at e
      rw [List.getElem?_set_self (by rw [← r.len]; exact hlt)] at e2
      cases e; cases e2
      cases x with
      | dat _ => simp [Dv.isL] at hz
      | mt ds =>
        obtain ⟨p', vs, q1, _, _, q2, _⟩ := hx
        cases q1
        rw [q2] at h; cases h
      | vw _ => exact hx.elim
      | deck _ => exact hx.elim
      | md _ _ => simp [Dv.isL] at hz
    · rw [List.getElem?_eq_none (by rw [List.length_set]; omega)] at e
      cases e
  · rw [List.getElem?_set_ne q] at e e2
    exact r1.inH e hz e2 h
def upX2 (Y : Fx) (K : PySem.W.Frag) (t u : DTE) : TA := tCons (upX Y K t) (tCons (upX Y K u) tNil)
theorem xa_two {a b : Expr} {t u : DTE} (ha : XE Y X a t) (hb : XE Y X b u) (hs : starEach [a, b] X.env = (false, eval a X.env) :: starEach [b] X.env := by rfl) (hs2 : starEach [b] X.env = (false, eval b X.env) :: starEach [] X.env := by rfl) : PA X [a, b] (upX2 Y X.K t u) :=
  pa_cons ha (pa_cons hb pa_nil hs2) hs
theorem ds_par {i j : Nat} {x y : Str} {a b : Expr} {t u : DTE} {px py pt pos : Pos} {kt k2 pt2} (hc : X.calm = true) (hN : X.N.Nodup) (hi : X.N[i]? = some x) (hj : X.N[j]? = some y) (hij : i ≠ j)
    (hx : X.env.scope.names.lookup x = some .local) (hy : X.env.scope.names.lookup y = some .local) (ha : XE Y X a t) (hb : XE Y X b u)
    (hw : swappedStores [.Tuple [.Name x px, .Name y py] kt pt] (.Tuple [a, b] k2 pt2) X.env = pure (some [x, y]))
    (hs : swapsWithSole [.Tuple [.Name x px, .Name y py] kt pt] (.Tuple [a, b] k2 pt2) pos.line X.env = pure false := by rfl)
    (h1 : starEach [a, b] X.env = (false, eval a X.env) :: starEach [b] X.env := by rfl) (h2 : starEach [b] X.env = (false, eval b X.env) :: starEach [] X.env := by rfl) :
    DS Y X (.Assign [.Tuple [.Name x px, .Name y py] kt pt] (.Tuple [a, b] k2 pt2) pos) (dPar i j t u) :=
  ps_imp (ps_par hc hN hi hj hij hx hy (xa_two ha hb h1 h2) hw hs) fun D σ H ⟨Z, F, ρ, n, E, r, ht, k⟩ =>
    ⟨Z, F, ρ, n, _, r, ht, fun x1 n1 F1 H1 v hx g1 s1 d1 w1 => ⟨Z, F1, ρ, n1, _, r.step g1 s1 d1, hx, fun y1 n2 F2 H2 w hy g2 s2 d2 w2 =>
      ⟨v, w, rfl, k.nx _ _ _ _ _ hy (par_set hij r (r.step g1 s1 d1) ((r.step g1 s1 d1).step g2 s2 d2) g2 w1 w2)⟩⟩⟩
end DL
namespace DL
open PySem PySem.Spec PyProof.Rows L2
variable {X : Cx} {Y : Fx}

/-! ### what a loop goes over -/
structure ItOk (K : PySem.W.Frag) (J : It) (F1 : Hp) (xs : List PyData) : Prop where
  go : ∀ (i : Nat) H, Same F1 H → i < xs.length → J.go i H
  stop : ∀ (i : Nat) H, Same F1 H → xs.length ≤ i → J.stop i H
  yld : ∀ (i : Nat) H v H' x, J.yld i H v H' → Same F1 H → xs[i]? = some x → (H' = H ∧ Rp K F1 x v) ∨ ∃ T us ds, v = .ref T ∧ H T = none ∧ H' = upd H T (.tup us) ∧ x = .tuple ds ∧ Rps K F1 ds us
abbrev DSrc := Rho → Wo → (List PyData → Wo → Prop) → Prop
def upI (Y : Fx) (K : PySem.W.Frag) (t : DSrc) : TI := fun σ H R => ∃ Z F ρ n Q, SR Y K Z F H σ ρ n ∧ t ρ n Q ∧
  ∀ xs n' F' H' J, Q xs n' → Gr Z.δ F H F' H' → Same F' H' → Z.δ.at_ K F' H' n' → ItOk K J F' xs → R J H'
abbrev DI (Y : Fx) (X : Cx) (tg iter : Expr) (t : DSrc) : Prop := PI X tg iter (upI Y X.K t)
theorem pi_imp {tg iter : Expr} {t t' : TI} (h : PI X tg iter t) (q : ∀ σ H R, t' σ H R → t σ H R) : PI X tg iter t' := ⟨fun p s σ H R I w => h.run p s σ H R I (q σ H R w)⟩
/-- what yields in a heap where the data stands -/
theorem ItOk.use {K : PySem.W.Frag} {J : It} {F1 F H H' : Hp} {xs : List PyData} {i : Nat} {v : V} {x : PyData} (k : ItOk K J F1 xs) (h1 : Same F1 F) (hs : Same F H) (hy : J.yld i H v H') (hx : xs[i]? = some x) :
    ∃ F', Gp F H F' H' ∧ Same F' H' ∧ Rp K F' x v := by
  rcases k.yld i H v H' x hy (h1.trans hs) hx with ⟨rfl, r⟩ | ⟨T, us, ds, rfl, hT, rfl, rfl, r⟩
  · exact ⟨F, Gp.refl, hs, Rp.mono h1 x v r⟩
  · obtain ⟨g, s⟩ := Gp.new (o := .tup us) hT hs
    refine ⟨_, g, s, ?_⟩
    simp only [Rp]
    exact ⟨T, us, rfl, upd_same, Rps.mono (h1.trans g.sF) ds us r⟩
def dSrcL (t : DTE) : DSrc := fun ρ n R => t ρ n fun x n' => ∃ ds, x = .dat (.list ds) ∧ R ds n'
def dSrcT (t : DTE) : DSrc := fun ρ n R => t ρ n fun x n' => ∃ ds, x = .dat (.tuple ds) ∧ R ds n'
theorem sqL_inj {K : PySem.W.Frag} {H : Hp} {a : Addr} {xs ys : List V} (h : H a = some (.lst xs)) (h2 : Rd H a (.lst ys)) : ys = xs := by
  rcases h2 with h2 | ⟨o, h2⟩
  · rw [h] at h2; cases h2; rfl
  · rw [h] at h2; cases h2
theorem itOk_list {K : PySem.W.Frag} {F : Hp} {a : Addr} {vs : List V} {ds : List PyData} (h : F a = some (.lst vs)) (r : Rps K F ds vs) : ItOk K (Itl K a) F ds where
  go := fun i H s hi => ⟨vs, vs[i]'(by rw [← r.length]; exact hi), SqL.of (s _ _ h), by simp⟩
  stop := fun i H s hi => ⟨vs, SqL.of (s _ _ h), by rw [← r.length]; exact hi⟩
  yld := fun i H v H' x ⟨e, y⟩ s hx => by
    have h1 := y vs (SqL.of (s _ _ h))
    obtain ⟨w, e1, e2⟩ := r.get hx
    rw [h1] at e1; cases e1
    exact .inl ⟨e, e2⟩
theorem itOk_tup {K : PySem.W.Frag} {F : Hp} {a : Addr} {vs : List V} {ds : List PyData} (h : F a = some (.tup vs)) (r : Rps K F ds vs) : ItOk K (Itt K a) F ds where
  go := fun i H s hi => ⟨vs, vs[i]'(by rw [← r.length]; exact hi), SqT.of (s _ _ h), by simp⟩
  stop := fun i H s hi => ⟨vs, SqT.of (s _ _ h), by rw [← r.length]; exact hi⟩
  yld := fun i H v H' x ⟨e, y⟩ s hx => by
    have h1 := y vs (SqT.of (s _ _ h))
    obtain ⟨w, e1, e2⟩ := r.get hx
    rw [h1] at e1; cases e1
    exact .inl ⟨e, e2⟩
theorem di_list {tg e : Expr} {t : DTE} (he : WE Y X e t) : DI Y X tg e (dSrcL t) := pi_imp (pi_list he) fun σ H R ⟨Z, F, ρ, n, Q, r, ht, k⟩ =>
  ⟨Z, F, ρ, n, _, r, ht, fun x n1 F1 H1 v ⟨ds, e, hx⟩ g1 s1 d1 w1 => by
    subst e
    simp only [VR, Rp] at w1
    obtain ⟨a, vs, rfl, h1, h2⟩ := w1
    exact ⟨a, rfl, ⟨vs, SqL.of (s1 _ _ h1)⟩, k _ _ _ _ _ hx g1 s1 d1 (itOk_list h1 h2)⟩⟩
theorem di_tup {tg e : Expr} {t : DTE} (he : WE Y X e t) : DI Y X tg e (dSrcT t) := pi_imp (pi_tup he) fun σ H R ⟨Z, F, ρ, n, Q, r, ht, k⟩ =>
  ⟨Z, F, ρ, n, _, r, ht, fun x n1 F1 H1 v ⟨ds, e, hx⟩ g1 s1 d1 w1 => by
    subst e
    simp only [VR, Rp] at w1
    obtain ⟨a, vs, rfl, h1, h2⟩ := w1
    exact ⟨a, rfl, ⟨vs, SqT.of (s1 _ _ h1)⟩, k _ _ _ _ _ hx g1 s1 d1 (itOk_tup h1 h2)⟩⟩
/-- range -/
def rngD (lo : Int) (n : Nat) : List PyData := (List.range n).map fun (k : Nat) => PyData.int (lo + k)
theorem rngD_length {lo : Int} {n : Nat} : (rngD lo n).length = n := by simp [rngD]
theorem rngD_get {lo : Int} {n i : Nat} {x : PyData} (h : (rngD lo n)[i]? = some x) : x = .int (lo + (i : Int)) ∧ i < n := by
  unfold rngD at h
  rw [List.getElem?_map] at h
  cases e : (List.range n)[i]? with
  | none => rw [e] at h; cases h
  | some j =>
    rw [e] at h
    have hi : i < n := by simpa using (List.getElem?_eq_some_iff.mp e).1
    rw [List.getElem?_range hi] at e
    cases e; cases h
    exact ⟨rfl, hi⟩
theorem itOk_rng {K : PySem.W.Frag} {F : Hp} {lo : Int} {n : Nat} : ItOk K (Itr lo n) F (rngD lo n) where
  go := fun i H s hi => by rw [rngD_length] at hi; exact hi
  stop := fun i H s hi => by rw [rngD_length] at hi; exact hi
  yld := fun i H v H' x ⟨e, y⟩ s hx => by
    obtain ⟨h1, _⟩ := rngD_get hx
    exact .inl ⟨e, by rw [h1, y]; simp [Rp]⟩
def dRng1 (t : DTA) : DSrc := fun ρ n R => t ρ n fun xs n' => ∃ j : Int, xs = [.dat (.int j)] ∧ -(2 ^ 62) ≤ j ∧ j < 2 ^ 62 ∧ R (rngD 0 j.toNat) n'
def dRng2 (t : DTA) : DSrc := fun ρ n R => t ρ n fun xs n' => ∃ i j : Int, xs = [.dat (.int i), .dat (.int j)] ∧ (-(2 ^ 62) ≤ i ∧ i < 2 ^ 62 ∧ -(2 ^ 62) ≤ j ∧ j < 2 ^ 62) ∧ R (rngD i (j - i).toNat) n'
theorem vrs1 {K : PySem.W.Frag} {δ : DkS} {F H : Hp} {i : Int} {vs : List V} (h : VRs K δ F H [.dat (.int i)] vs) : vs = [.int i] := by
  cases h with
  | cons a b =>
    cases b
    simp only [VR, Rp] at a; rw [a]
theorem vrs2 {K : PySem.W.Frag} {δ : DkS} {F H : Hp} {i j : Int} {vs : List V} (h : VRs K δ F H [.dat (.int i), .dat (.int j)] vs) : vs = [.int i, .int j] := by
  cases h with
  | cons a b =>
    simp only [VR, Rp] at a; rw [a, vrs1 b]
theorem di_range1 {tg a : Expr} {t : DTA} {p pos : Pos} (hg : Gl X "range") (hm : X.mg "range" = none) (ha : WA Y X [a] t) (hs : starEach [a] X.env = [(false, eval a X.env)] := by rfl) : DI Y X tg (.Call (.Name "range" p) [a] [] pos) (dRng1 t) :=
  pi_imp (pi_range1 hg hm ha hs) fun σ H R ⟨Z, F, ρ, n, Q, r, ht, k⟩ => ⟨Z, F, ρ, n, _, r, ht, fun xs n1 F1 H1 vs ⟨j, e, l, u, hx⟩ g1 s1 d1 w1 => by
    subst e
    exact ⟨j, vrs1 w1, l, u, k _ _ _ _ _ hx g1 s1 d1 itOk_rng⟩⟩
theorem di_range2 {tg a b : Expr} {t : DTA} {p pos : Pos} (hg : Gl X "range") (hm : X.mg "range" = none) (ha : WA Y X [a, b] t) (hs : starEach [a, b] X.env = [(false, eval a X.env), (false, eval b X.env)] := by rfl) (hs2 : starEach [b] X.env = [(false, eval b X.env)] := by rfl) :
    DI Y X tg (.Call (.Name "range" p) [a, b] [] pos) (dRng2 t) :=
  pi_imp (pi_range2 hg hm ha hs hs2) fun σ H R ⟨Z, F, ρ, n, Q, r, ht, k⟩ => ⟨Z, F, ρ, n, _, r, ht, fun xs n1 F1 H1 vs ⟨i, j, e, l, hx⟩ g1 s1 d1 w1 => by
    subst e
    exact ⟨i, j, vrs2 w1, l, k _ _ _ _ _ hx g1 s1 d1 itOk_rng⟩⟩
/-- enumerate of a list, zip of two lists, of two tuples -/
def enumD (ds : List PyData) : List PyData := ds.zipIdx.map fun p => .tuple [.int (p.2 : Nat), p.1]
theorem enumD_length {ds : List PyData} : (enumD ds).length = ds.length := by simp [enumD]
theorem enumD_get {ds : List PyData} {i : Nat} {x : PyData} (h : (enumD ds)[i]? = some x) : ∃ d, ds[i]? = some d ∧ x = .tuple [.int (i : Nat), d] := by
  unfold enumD at h
  rw [List.getElem?_map, List.getElem?_zipIdx] at h
  cases e : ds[i]? with
  | none => rw [e] at h; cases h
  | some d =>
    rw [e] at h
    simp at h
    exact ⟨d, rfl, h.symm⟩
def zipD (ds es : List PyData) : List PyData := (ds.zip es).map fun p => .tuple [p.1, p.2]
theorem zipD_length {ds es : List PyData} : (zipD ds es).length = min ds.length es.length := by simp [zipD]
theorem zipD_get {ds es : List PyData} {i : Nat} {x : PyData} (h : (zipD ds es)[i]? = some x) : ∃ d e, ds[i]? = some d ∧ es[i]? = some e ∧ x = .tuple [d, e] := by
  unfold zipD at h
  rw [List.getElem?_map] at h
  cases q : (ds.zip es)[i]? with
  | none => rw [q] at h; cases h
  | some p =>
    rw [q] at h
    obtain ⟨h1, h2⟩ := List.getElem?_zip_eq_some.mp q
    simp at h
    exact ⟨p.1, p.2, h1, h2, h.symm⟩
theorem itOk_enum {K : PySem.W.Frag} {F : Hp} {a : Addr} {vs : List V} {ds : List PyData} (h : F a = some (.lst vs)) (r : Rps K F ds vs) : ItOk K (Ite K a) F (enumD ds) where
  go := fun i H s hi => by
    rw [enumD_length] at hi
    exact ⟨vs, vs[i]'(by rw [← r.length]; exact hi), SqL.of (s _ _ h), by simp⟩
  stop := fun i H s hi => ⟨vs, SqL.of (s _ _ h), by rw [← r.length, ← enumD_length]; exact hi⟩
  yld := fun i H v H' x ⟨T, y, e1, e2, e3, e4⟩ s hx => by
    obtain ⟨d, q1, q2⟩ := enumD_get hx
    obtain ⟨w, q3, q4⟩ := r.get q1
    rw [e4 vs (SqL.of (s _ _ h))] at q3; cases q3
    exact .inr ⟨T, _, _, e1, e2, e3, q2, rps_cons (by simp [Rp]) (rps_cons q4 rps_nil)⟩
theorem itOk_zip {K : PySem.W.Frag} {F : Hp} {a b : Addr} {vs us : List V} {ds es : List PyData} (h : F a = some (.lst vs)) (h' : F b = some (.lst us)) (r : Rps K F ds vs) (r' : Rps K F es us) : ItOk K (Itz K a b) F (zipD ds es) where
  go := fun i H s hi => by
    rw [zipD_length, r.length, r'.length] at hi
    exact ⟨vs, us, vs[i]'(by omega), us[i]'(by omega), SqL.of (s _ _ h), SqL.of (s _ _ h'), by simp, by simp⟩
  stop := fun i H s hi => ⟨vs, us, SqL.of (s _ _ h), SqL.of (s _ _ h'), by rw [zipD_length, r.length, r'.length] at hi; omega⟩
  yld := fun i H v H' x ⟨T, y, z, e1, e2, e3, e4, e5⟩ s hx => by
    obtain ⟨d, e, q1, q2, q3⟩ := zipD_get hx
    obtain ⟨w, p1, p2⟩ := r.get q1
    obtain ⟨w', p3, p4⟩ := r'.get q2
    rw [e4 vs (SqL.of (s _ _ h))] at p1; cases p1
    rw [e5 us (SqL.of (s _ _ h'))] at p3; cases p3
    exact .inr ⟨T, _, _, e1, e2, e3, q3, rps_cons p2 (rps_cons p4 rps_nil)⟩
def dEnum (t : DTA) : DSrc := fun ρ n R => t ρ n fun xs n' => ∃ ds, xs = [.dat (.list ds)] ∧ R (enumD ds) n'
theorem di_enum {e : Expr} {t : DTA} {p pos tpos : Pos} {elts : List Expr} {kk : Nat} (hg : Gl X "enumerate") (hm : X.mg "enumerate" = none) (ha : WA Y X [e] t) (hs : starEach [e] X.env = [(false, eval e X.env)] := by rfl) :
    DI Y X (.Tuple elts kk tpos) (.Call (.Name "enumerate" p) [e] [] pos) (dEnum t) :=
  pi_imp (pi_enum hg hm ha hs) fun σ H R ⟨Z, F, ρ, n, Q, r, ht, k⟩ => ⟨Z, F, ρ, n, _, r, ht, fun xs n1 F1 H1 vs ⟨ds, e, hx⟩ g1 s1 d1 w1 => by
    subst e
    cases w1 with
    | cons w1 w2 =>
      cases w2
      simp only [VR, Rp] at w1
      obtain ⟨a, us, rfl, h1, h2⟩ := w1
      exact ⟨a, us, rfl, SqL.of (s1 _ _ h1), k _ _ _ _ _ hx g1 s1 d1 (itOk_enum h1 h2)⟩⟩
def dZip (t : DTA) : DSrc := fun ρ n R => t ρ n fun xs n' => ∃ ds es, xs = [.dat (.list ds), .dat (.list es)] ∧ R (zipD ds es) n'
theorem di_zip {e e2 : Expr} {t : DTA} {p pos tpos : Pos} {elts : List Expr} {kk : Nat} (hg : Gl X "zip") (hm : X.mg "zip" = none) (ha : WA Y X [e, e2] t)
    (hs : starEach [e, e2] X.env = (false, eval e X.env) :: starEach [e2] X.env := by rfl) (hs2 : (backTo pos (starEach [e2] X.env)).any (·.1) = false := by rfl) :
    DI Y X (.Tuple elts kk tpos) (.Call (.Name "zip" p) [e, e2] [] pos) (dZip t) :=
  pi_imp (pi_zip hg hm ha hs hs2) fun σ H R ⟨Z, F, ρ, n, Q, r, ht, k⟩ => ⟨Z, F, ρ, n, _, r, ht, fun xs n1 F1 H1 vs ⟨ds, es, e, hx⟩ g1 s1 d1 w1 => by
    subst e
    cases w1 with
    | cons w1 w2 =>
      cases w2 with
      | cons w2 w3 =>
        cases w3
        simp only [VR, Rp] at w1 w2
        obtain ⟨a, us, rfl, h1, h2⟩ := w1
        obtain ⟨b, ws, rfl, h3, h4⟩ := w2
        exact ⟨a, b, us, ws, rfl, SqL.of (s1 _ _ h1), SqL.of (s1 _ _ h3), k _ _ _ _ _ hx g1 s1 d1 (itOk_zip h1 h3 h2 h4)⟩⟩

/-! ### targets -/
abbrev DTG := PyData → Rho → (Rho → Prop) → Prop
structure GOk (K : PySem.W.Frag) (t : TG) (g : DTG) (sl : List Nat) : Prop where
  im : ∀ Y Z F H σ ρ n d v R Q, SR Y K Z F H σ ρ n → Rp K F d v → g d ρ R → (∀ σ' ρ', R ρ' → SR Y K Z F H σ' ρ' n → (∀ vs : List Nat, (∀ i ∈ sl, i ∈ vs) → wipe σ' vs = wipe σ vs) → Q σ' H) → t v σ H Q
def DG (X : Cx) (tg : Expr) (t : TG) (g : DTG) (sl : List Nat) : Prop := PG X tg t ∧ GOk X.K t g sl
def gN (i : Nat) : DTG := fun d ρ R => R (ρ.set i (some (.dat d)))
theorem wipe_set {σ : L2.St} {i : Nat} {x : Option V} : ∀ {vs : List Nat}, i ∈ vs → wipe (σ.set i x) vs = wipe σ vs
  | [], h => by simp at h
  | v :: vs, h => by
    unfold wipe
    by_cases q : i ∈ vs
    · rw [wipe_set q]
    · have e : i = v := by
        rcases List.mem_cons.mp h with e | e
        · exact e
        · exact absurd e q
      subst e
      have comm : ∀ us : List Nat, i ∉ us → wipe (σ.set i x) us = (wipe σ us).set i x := by
        intro us
        induction us with
        | nil => intro _; rfl
        | cons u us ih =>
          intro hu
          simp only [List.mem_cons, not_or] at hu
          unfold wipe
          rw [ih hu.2, List.set_comm _ _ hu.1]
      rw [comm vs q, List.set_set]
theorem gok_name {K : PySem.W.Frag} {i : Nat} : GOk K (gName i) (gN i) [i] := ⟨fun Y Z F H σ ρ n d v R Q r hr h k =>
  k _ _ h (r.set (Hs := H) i (x := .dat d) hr (fun p q => r.fresh q) fun p q l z _ e hz e2 => r.inH e hz e2 q) fun vs hv => wipe_set (hv i (by simp))⟩
theorem dg_name {i : Nat} {x : Str} {pos : Pos} (hN : X.N.Nodup) (hi : X.N[i]? = some x) (hx : Loc X.env.scope x) (hf : X.fn x = true ∨ X.env.scope.names.lookup x = some .local := by first | exact .inl rfl | exact .inr rfl | assumption) :
    DG X (.Name x pos) (gName i) (gN i) [i] := ⟨pg_name hN hi hx hf, gok_name⟩
def gT2 (i j : Nat) : DTG := fun d ρ R => ∃ a b, d = .tuple [a, b] ∧ R ((ρ.set i (some (.dat a))).set j (some (.dat b)))
theorem rps2 {K : PySem.W.Frag} {F : Hp} {a b : PyData} {vs : List V} (h : Rps K F [a, b] vs) : ∃ v w, vs = [v, w] ∧ Rp K F a v ∧ Rp K F b w := by
  simp only [Rps] at h
  obtain ⟨v, _, rfl, h1, w, _, rfl, h2, rfl⟩ := h
  exact ⟨v, w, rfl, h1, h2⟩
theorem rps3 {K : PySem.W.Frag} {F : Hp} {a b c : PyData} {vs : List V} (h : Rps K F [a, b, c] vs) : ∃ u v w, vs = [u, v, w] ∧ Rp K F a u ∧ Rp K F b v ∧ Rp K F c w := by
  simp only [Rps] at h
  obtain ⟨u, _, rfl, h0, v, _, rfl, h1, w, _, rfl, h2, rfl⟩ := h
  exact ⟨u, v, w, rfl, h0, h1, h2⟩
theorem SR.setD {K : PySem.W.Frag} {Y Z : Fx} {F H : Hp} {σ : L2.St} {ρ : Rho} {n : Wo} (r : SR Y K Z F H σ ρ n) (i : Nat) {d : PyData} {v : V} (h : Rp K F d v) : SR Y K Z F H (σ.set i (some v)) (ρ.set i (some (.dat d))) n :=
  r.set (Hs := H) i (x := .dat d) h (fun p q => r.fresh q) fun p q l z _ e hz e2 => r.inH e hz e2 q
theorem gok_two {K : PySem.W.Frag} {i j : Nat} : GOk K (gTup K 2 (gCons (gName i) (gCons (gName j) gNil))) (gT2 i j) [i, j] := ⟨fun Y Z F H σ ρ n d v R Q r hr h k => by
  obtain ⟨a, b, rfl, h⟩ := h
  simp only [Rp] at hr
  obtain ⟨p, xs, rfl, hp, hxs⟩ := hr
  obtain ⟨v, w, rfl, h1, h2⟩ := rps2 hxs
  refine ⟨p, _, rfl, SqT.of (r.b.sub _ _ hp), rfl, v, _, rfl, w, _, rfl, rfl, k _ _ h ((r.setD i h1).setD j h2) fun vs hv => ?_⟩
  rw [wipe_set (hv j (by simp)), wipe_set (hv i (by simp))]⟩
theorem dg_two {i j : Nat} {e1 e2 : Expr} {k : Nat} {pos : Pos} (hc : X.calm = true) (h1 : PG X e1 (gName i)) (h2 : PG X e2 (gName j))
    (hp : PGs X [e1, e2] (gCons (gName i) (gCons (gName j) gNil))) (hn : (assignEach [e1, e2] X.env).length = 2 := by rfl) (hst : (assignEach [e1, e2] X.env).findIdx? (·.1) = none := by rfl) :
    DG X (.Tuple [e1, e2] k pos) (gTup X.K 2 (gCons (gName i) (gCons (gName j) gNil))) (gT2 i j) [i, j] := ⟨pg_tup hc hp hn hst, gok_two⟩

/-! ### for -/
abbrev FStep := PyData → Rho → Wo → (Rho → Wo → Prop) → Prop
structure ForR (xs : List PyData) (ρ : Rho) (n : Wo) (step : FStep) (Q : Rho → Wo → Prop) : Prop where
  ex : ∃ I : Nat → Rho → Wo → Prop, I 0 ρ n ∧ (∀ (k : Nat) x ρ' n', xs[k]? = some x → I k ρ' n' → step x ρ' n' (I (k + 1))) ∧ ∀ ρ' n', I xs.length ρ' n' → Q ρ' n'
def dFor (s : DSrc) (g : DTG) (b : DTS) : DTS := fun E ρ n => s ρ n fun xs n1 => ForR xs ρ n1 (fun x ρ' n' K => g x ρ' fun ρ'' => b { E with nx := K, ct := K, bk := E.nx } ρ'' n') E.nx
theorem SR.base {K : PySem.W.Frag} {Y Z : Fx} {F0 H : Hp} {σ : L2.St} {ρ : Rho} {n : Wo} (r : SR Y K Z F0 H σ ρ n) : SR Y K { Z with F0 := F0 } F0 H σ ρ n :=
  ⟨⟨r.b.sub, r.b.dk, r.b.dkF, Same.refl _, fun a _ h => h, r.b.gH, r.b.gI⟩, r.de, r.he, r.gr, r.len, fun i x e => by
    obtain ⟨v, e1, e2⟩ := r.slot i x e
    refine ⟨v, e1, ?_⟩
    cases x <;> exact e2, r.apart⟩
theorem Base.back {K : PySem.W.Frag} {Z : Fx} {F1 H1 F H : Hp} {n1 n : Wo} (b1 : Base K Z F1 H1 n1) (b : Base K { Z with F0 := F1 } F H n) : Base K Z F H n :=
  ⟨b.sub, b.dk, b.dkF, b1.gF.trans b.gF, fun a h1 h2 => b.gN a h1 (b1.gN a h1 h2), b.gH, b.gI⟩
theorem SR.back {K : PySem.W.Frag} {Y Z : Fx} {F1 H1 F H : Hp} {σ : L2.St} {ρ : Rho} {n n1 : Wo} (b1 : Base K Z F1 H1 n1) (r : SR Y K { Z with F0 := F1 } F H σ ρ n) : SR Y K Z F H σ ρ n :=
  ⟨b1.back r.b, r.de, r.he, r.gr, r.len, fun i x e => by
    obtain ⟨v, e1, e2⟩ := r.slot i x e
    refine ⟨v, e1, ?_⟩
    cases x <;> exact e2, r.apart⟩
theorem ds_for {tg iter : Expr} {body : List Stmt} {s : DSrc} {t : TG} {g : DTG} {sl : List Nat} {b : DTS} {pos : Pos} (hp : PassesOwn (model X.prog X.w) X.A X.env X.xe) (hc : X.calm = true) (hi : DI Y X tg iter s) (hg : DG X tg t g sl) (hb : DSs Y X body b)
    (hs : ∀ x, foldedSetIterable iter X.env x = pure x := by intro _; rfl) : DS Y X (.For tg iter body [] pos) (dFor s g b) :=
  ps_imp (ps_for hp hc hi hg.1 hb hs) fun D σ H ⟨Z, F, ρ, n, E, r, ht, k⟩ => ⟨Z, F, ρ, n, _, r, ht, fun xs n1 F1 H1 J ⟨⟨I, h0, hstep, hend⟩⟩ g1 s1 d1 w1 => by
    have r1 := r.step g1 s1 d1
    refine ⟨fun i m σ H => m = xs.length - i ∧ i ≤ xs.length ∧ ∃ F' ρ' n', SR Y X.K { Z with F0 := F1 } F' H σ ρ' n' ∧ I i ρ' n', ⟨xs.length, by simp, Nat.zero_le _, F1, ρ, n1, r1.base, h0⟩, ?_⟩
    rintro i m σ2 H2 ⟨rfl, hi, F2, ρ2, n2, r2, h2⟩
    have sF : Same F1 F2 := r2.b.gF
    by_cases hlt : i < xs.length
    · refine .inr ⟨w1.go i H2 (sF.trans r2.b.sub) hlt, fun σ' H' => ∃ F' ρ' n', SR Y X.K { Z with F0 := F1 } F' H' σ' ρ' n' ∧ I (i + 1) ρ' n', fun σ' H' q => ⟨xs.length - (i + 1), by omega, rfl, hlt, q⟩, fun v H3 hy => ?_⟩
      obtain ⟨x, hx⟩ : ∃ x, xs[i]? = some x := ⟨xs[i], by simp [hlt]⟩
      obtain ⟨F3, g3, s3, r3⟩ := w1.use sF r2.b.sub hy hx
      have r2' := r2.step g3.gr s3 (g3.dk r2.b)
      refine hg.2.im _ _ _ _ _ _ _ _ _ _ _ r2' r3 (hstep i x ρ2 n2 hx h2) fun σ4 ρ4 h4 r4 _ => ?_
      refine ⟨_, F3, ρ4, n2, _, r4, h4, ⟨fun F5 H5 σ5 ρ5 n5 q r5 => ⟨F5, ρ5, n5, r5, q⟩, fun d n5 F5 H5 v5 q b5 => k.rt _ _ _ _ _ q (r1.b.back b5), fun F5 H5 σ5 ρ5 n5 q r5 => k.nx _ _ _ _ _ q (SR.back r1.b r5), fun F5 H5 σ5 ρ5 n5 q r5 => ⟨F5, ρ5, n5, r5, q⟩⟩⟩
    · have e : i = xs.length := by omega
      subst e
      exact .inl ⟨w1.stop _ H2 (sF.trans r2.b.sub) (Nat.le_refl _), k.nx _ _ _ _ _ (hend _ _ h2) (SR.back r1.b r2)⟩⟩
end DL
namespace DL
open PySem PySem.Spec PyProof.Rows L2
variable {X : Cx} {Y : Fx}

/-! ### comprehensions -/
def wipeR (ρ : Rho) : List Nat → Rho
  | [] => ρ
  | v :: vs => (wipeR ρ vs).set v none
theorem wipeR_length (ρ : Rho) : ∀ vs : List Nat, (wipeR ρ vs).length = ρ.length
  | [] => rfl
  | v :: vs => by unfold wipeR; rw [List.length_set, wipeR_length ρ vs]
theorem wipeR_some {ρ : Rho} {i : Nat} {x : Dv} : ∀ {vs : List Nat}, (wipeR ρ vs)[i]? = some (some x) → ρ[i]? = some (some x) ∧ i ∉ vs
  | [], h => ⟨h, by simp⟩
  | v :: vs, h => by
    unfold wipeR at h
    by_cases hi : v = i
    · subst hi
      by_cases hv : v < (wipeR ρ vs).length
      · rw [List.getElem?_set_self hv] at h; cases h
      · rw [List.getElem?_eq_none (by simpa using hv)] at h; cases h
    · rw [List.getElem?_set_ne hi] at h
      obtain ⟨h1, h2⟩ := wipeR_some h
      exact ⟨h1, by simp only [List.mem_cons, not_or]; exact ⟨fun e => hi e.symm, h2⟩⟩
theorem wipe_in {σ : L2.St} {i : Nat} {vs : List Nat} (h : i ∉ vs) : (wipe σ vs)[i]? = σ[i]? := wipe_out h
theorem SR.wipe {K : PySem.W.Frag} {Y Z : Fx} {F H : Hp} {σ : L2.St} {ρ : Rho} {n : Wo} (r : SR Y K Z F H σ ρ n) (vs : List Nat) : SR Y K Z F H (wipe σ vs) (wipeR ρ vs) n where
  b := r.b
  de := r.de
  he := r.he
  gr := r.gr
  len := by rw [wipe_length, wipeR_length, r.len]
  slot := fun i x e => by
    obtain ⟨e1, e2⟩ := wipeR_some e
    obtain ⟨v, e3, e4⟩ := r.slot i x e1
    exact ⟨v, by rw [wipe_out e2]; exact e3, e4⟩
  apart := fun i j a ds y hij e1 e2 e3 hy e4 =>
    r.apart i j a ds y hij (wipeR_some e1).1 (wipe_some e2).1 (wipeR_some e3).1 hy (wipe_some e4).1
theorem wipe_idem {σ : L2.St} : ∀ {vs : List Nat}, wipe (wipe σ vs) vs = wipe σ vs := by
  intro vs
  have sub : ∀ us : List Nat, (∀ i ∈ us, i ∈ vs) → wipe (wipe σ us) vs = wipe σ vs := by
    intro us
    induction us with
    | nil => intro _; rfl
    | cons u us ih =>
      intro h
      show wipe ((wipe σ us).set u none) vs = _
      rw [wipe_set (h u (by simp))]
      exact ih fun i hi => h i (by simp [hi])
  exact sub vs fun i h => h
abbrev CStep := PyData → List PyData → Wo → (List PyData → Wo → Prop) → Prop
structure CompR (xs : List PyData) (n : Wo) (step : CStep) (R : List PyData → Wo → Prop) : Prop where
  ex : ∃ I : Nat → List PyData → Wo → Prop, I 0 [] n ∧ (∀ (k : Nat) x acc m, xs[k]? = some x → I k acc m → step x acc m (I (k + 1))) ∧ ∀ acc m, I xs.length acc m → R acc m
def mComp (s : DSrc) (g : DTG) (tt : DTT) (te : DTE) (vs : List Nat) : DTM := fun ρ n R => s ρ n fun xs n1 => CompR xs n1 (fun x acc m K => g x (wipeR ρ vs) fun ρ' => tt ρ' m fun b m1 => if b = true then te ρ' m1 fun y m2 => needD y fun d => acc.length < sizeLine ∧ K (acc ++ [d]) m2 else K acc m1) R
theorem comp_im {K : PySem.W.Frag} {s : DSrc} {t : TG} {g : DTG} {sl : List Nat} {tt : DTT} {te : DTE} {vs : List Nat} (hg : GOk K t g sl) (hv : ∀ i ∈ sl, i ∈ vs) : ∀ σ H Q, upM Y K (mComp s g tt te vs) σ H Q → tLc (upI Y K s) t (upT Y K tt) (up Y K te) vs σ H Q :=
  fun σ H Q ⟨Z, F, ρ, n, R, r, ht, k⟩ => ⟨Z, F, ρ, n, _, r, ht, fun xs n1 F1 H1 J ⟨⟨I, h0, hstep, hend⟩⟩ g1 s1 d1 w1 => by
    have r1 := r.step g1 s1 d1
    intro D hD
    have hD0 : H D = none := by
      cases e : H D with
      | none => rfl
      | some o => exact absurd hD (g1.dH D (by rw [e]; nofun))
    have nD : D ∉ Z.δ.own := fun q => (r1.b.dkF D q).2 hD
    refine ⟨fun i m H2 => m = xs.length - i ∧ i ≤ xs.length ∧ ∃ F2 acc n2 us, Gr Z.δ F1 H1 F2 H2 ∧ Same F2 H2 ∧ Z.δ.at_ K F2 H2 n2 ∧ F2 D = none ∧ H2 D = some (.lst us) ∧ Rps K F2 acc us ∧ I i acc n2, ⟨xs.length, by simp, Nat.zero_le _, ?_⟩, ?_⟩
    · obtain ⟨g2, s2⟩ := Gp.newM (o := .lst []) hD s1
      exact ⟨F1, [], n1, [], g2.gr, s2, g2.dk r1.b, s1.free hD, upd_same, rps_nil, h0⟩
    · rintro i m H2 ⟨rfl, hi, F2, acc, n2, us, g2, s2, d2, f2, hD2, ra, h2⟩
      by_cases hlt : i < xs.length
      · refine .inr ⟨w1.go i H2 (g2.sF.trans s2) hlt, fun H' => ∃ F2 acc n2 us, Gr Z.δ F1 H1 F2 H' ∧ Same F2 H' ∧ Z.δ.at_ K F2 H' n2 ∧ F2 D = none ∧ H' D = some (.lst us) ∧ Rps K F2 acc us ∧ I (i + 1) acc n2, fun H' q => ⟨xs.length - (i + 1), by omega, rfl, hlt, q⟩, fun v H3 hy => ?_⟩
        obtain ⟨x, hx⟩ : ∃ x, xs[i]? = some x := ⟨xs[i], by simp [hlt]⟩
        obtain ⟨F3, g3, s3, r3⟩ := w1.use g2.sF s2 hy hx
        have gg3 := g2.trans (g3.gr (δ := Z.δ))
        have r2 := (r1.step g2 s2 d2)
        have d3 := g3.dk r2.b
        have rw3 := (r1.step gg3 s3 d3).wipe vs
        have hD3 : H3 D = some (.lst us) := g3.sH _ _ hD2
        have f3 : F3 D = none := g3.nF D (by rw [hD2]; nofun) f2
        refine hg.im _ _ _ _ _ _ _ _ _ _ _ rw3 r3 (hstep i x acc n2 hx h2) fun σ4 ρ4 h4 r4 hw => ⟨by rw [hw vs hv, wipe_idem], ?_⟩
        refine ⟨Z, F3, ρ4, n2, _, r4, h4, fun b m5 F5 H5 h5 g5 s5 d5 => ?_⟩
        have hD5 : H5 D = some (.lst us) := g5.kH _ _ nD hD3 rfl
        have f5 : F5 D = none := g5.nF D (by rw [hD3]; nofun) f3
        have ra5 : Rps K F5 acc us := Rps.mono (g3.sF.trans g5.sF) acc us ra
        cases b with
        | false => exact ⟨F5, acc, m5, us, gg3.trans g5, s5, d5, f5, hD5, ra5, h5⟩
        | true =>
          refine ⟨Z, F5, ρ4, m5, _, r4.step g5 s5 d5, h5, fun y m6 F6 H6 v6 h6 g6 s6 d6 w6 => ?_⟩
          obtain ⟨d, rfl, hl, h6⟩ := needD_is h6
          have hD6 : H6 D = some (.lst us) := g6.kH _ _ nD hD5 rfl
          have f6 : F6 D = none := g6.nF D (by rw [hD5]; nofun) f5
          have ra6 : Rps K F6 acc us := Rps.mono g6.sF acc us ra5
          refine ⟨us, hD6, by rw [← ra.length]; exact hl, F6, acc ++ [d], m6, us ++ [v6], ?_, ?_, ?_, f6, upd_same, ra6.append (rps_cons w6 rps_nil), h6⟩
          · have gg6 := (gg3.trans g5).trans g6
            exact gg6.chg hD
          · exact fun a o e => by rw [upd_ne (ne_of_none e f6)]; exact s6 _ _ e
          · exact d6.chg nD hD6 rfl
      · have e : i = xs.length := by omega
        subst e
        exact .inl ⟨w1.stop _ H2 (g2.sF.trans s2) (Nat.le_refl _), k _ _ _ _ _ _ (hend _ _ h2) (g1.trans g2) s2 d2 hD0 f2 hD2 ra⟩⟩
abbrev WTs (Y : Fx) (X : Cx) (ifs : List Expr) (t : DTT) : Prop := PTs X ifs (upT Y X.K t)
theorem pts_imp {ifs : List Expr} {t t' : TT} (h : PTs X ifs t) (q : ∀ σ H Q, t' σ H Q → t σ H Q) : PTs X ifs t' := ⟨fun p s σ H Q I w => h.run p s σ H Q I (q σ H Q w)⟩
def dYes : DTT := fun _ n R => R true n
theorem wts_nil : WTs Y X [] dYes := pts_imp pts_nil fun σ H Q ⟨Z, F, ρ, n, R, r, hr, k⟩ => k _ _ _ _ hr Gr.refl r.b.sub r.b.dk
theorem wts_one {c : Expr} {t : DTT} (h : WT Y X c t) : WTs Y X [c] t := pts_one h
theorem me_comp {elt tg iter : Expr} {ifs : List Expr} {scope : Scope} {own : List (Str × Nat)} {pos : Pos} {s : DSrc} {t : TG} {g : DTG} {sl : List Nat} {tt : DTT} {te : DTE} (hc : X.calm = true) (hN : X.N.Nodup) (hi : DI Y X tg iter s) (ok : BlkOk X.N X.env.scope scope own)
    (hk : GOk X.K t g sl) (hg : ∀ (s : Shared) (H : Hp) (C : Addr) (cl : List (Str × Addr)) (fp : List Addr), PG (X.blk s H scope (compEnvC scope cl C X.env) fp) tg t) (ht : ∀ (s : Shared) (H : Hp) (C : Addr) (cl : List (Str × Addr)) (fp : List Addr), WTs Y (X.blk s H scope (compEnvC scope cl C X.env) fp) ifs tt)
    (he : ∀ (s : Shared) (H : Hp) (C : Addr) (cl : List (Str × Addr)) (fp : List Addr), WE Y (X.blk s H scope (compEnvC scope cl C X.env) fp) elt te) (hv : ∀ i ∈ sl, i ∈ own.map (·.2)) (hs : ∀ x, foldedSetIterable iter X.env x = pure x := by intro _; rfl) :
    ME Y X (.ListComp elt [⟨tg, iter, ifs, 0⟩] scope pos) (mComp s g tt te (own.map (·.2))) :=
  pe_imp (pe_lc hc hN hi ok hg ht he hs) (comp_im hk hv)
/-- name = [..] on one line -/
theorem ds_setLc {i : Nat} {y : Str} {py : Pos} {elt tg iter : Expr} {ifs : List Expr} {scope : Scope} {own : List (Str × Nat)} {pos spos : Pos} {s : DSrc} {t : TG} {g : DTG} {sl : List Nat} {tt : DTT} {te : DTE} {u : DTE} (hc : X.calm = true) (hN : X.N.Nodup) (hy : X.N[i]? = some y) (hyl : X.env.scope.names.lookup y = some .local)
    (hsw : swapsWith (.ListComp elt [⟨tg, iter, ifs, 0⟩] scope pos) (some (.Name y py)) spos.line X.env = pure true) (hi : DI Y X tg iter s) (ok : BlkOk X.N X.env.scope scope own)
    (hk : GOk X.K t g sl) (hg : ∀ (s : Shared) (H : Hp) (C : Addr) (cl : List (Str × Addr)) (fp : List Addr), PG (X.blk s H scope (compEnvC scope cl C X.env) fp) tg t) (ht : ∀ (s : Shared) (H : Hp) (C : Addr) (cl : List (Str × Addr)) (fp : List Addr), WTs Y (X.blk s H scope (compEnvC scope cl C X.env) fp) ifs tt)
    (he : ∀ (s : Shared) (H : Hp) (C : Addr) (cl : List (Str × Addr)) (fp : List Addr), WE Y (X.blk s H scope (compEnvC scope cl C X.env) fp) elt te) (hv : ∀ i ∈ sl, i ∈ own.map (·.2))
    (hu : ∀ σ H Q, upX Y X.K u σ H Q → upM Y X.K (mComp s g tt te (own.map (·.2))) σ H Q) (hs : ∀ x, foldedSetIterable iter X.env x = pure x := by intro _; rfl) :
    DS Y X (.Assign [.Name y py] (.ListComp elt [⟨tg, iter, ifs, 0⟩] scope pos) spos) (dAsg i u) :=
  ps_imp (ps_setLc hc hN hy hyl hsw hi ok hg ht he hs) fun D σ H h => by
    have h2 := asg_im D σ H h
    exact comp_im hk hv _ _ _ (hu _ _ _ h2)
/-- .. as data, as a list of one's own -/
theorem lc_dat {K : PySem.W.Frag} {t : DTM} : ∀ σ H Q, upX Y K (xD (dOfM t)) σ H Q → upM Y K t σ H Q := fun σ H Q ⟨Z, F, ρ, n, R, r, ht, k⟩ => ⟨Z, F, ρ, n, _, r, ht, fun ds n1 F1 H1 p vs hx g1 s1 d1 a b c d => by
  obtain ⟨g2, s2, r2⟩ := freeze g1 s1 a b c d
  exact k _ _ _ _ _ hx g2 s2 (d1.fz c rfl b) r2⟩
theorem lc_mt {K : PySem.W.Frag} {t : DTM} : ∀ σ H Q, upX Y K (xM t) σ H Q → upM Y K t σ H Q := fun σ H Q ⟨Z, F, ρ, n, R, r, ht, k⟩ => ⟨Z, F, ρ, n, _, r, ht, fun ds n1 F1 H1 p vs hx g1 s1 d1 a b c d =>
  k _ _ _ _ _ hx g1 s1 d1 ⟨p, vs, rfl, a, b, c, d⟩⟩

/-! ### lists of one's own, changed -/
theorem SR.mut {K : PySem.W.Frag} {Y Z : Fx} {F H : Hp} {σ : L2.St} {ρ : Rho} {n : Wo} (r : SR Y K Z F H σ ρ n) {i : Nat} {ds es : List PyData} {a : Addr} {us : List V} (e : ρ[i]? = some (some (.mt ds))) (e1 : σ[i]? = some (some (.ref a))) (hr : Rps K F es us) :
    SR Y K Z F (upd H a (.lst us)) σ (ρ.set i (some (.mt es))) n := by
  obtain ⟨v, q1, a', ws, rfl, h0, hF, hH, hrr, na⟩ := r.slot i _ e
  rw [e1] at q1; cases q1
  have hi : i < ρ.length := (List.getElem?_eq_some_iff.mp e).1
  have hk : ∀ b o, b ≠ a → H b = some o → upd H a (.lst us) b = some o := fun b o q h => by rw [upd_ne q]; exact h
  refine ⟨⟨fun b o q => hk b o (ne_of_none q hF) (r.b.sub _ _ q), r.b.dk.chg na hH rfl, fun b hb => ⟨(r.b.dkF b hb).1, by rw [upd_ne fun q => na (by rw [← q]; exact hb)]; exact (r.b.dkF b hb).2⟩, r.b.gF, r.b.gN, fun b o q1 q2 q3 => hk b o (ne_of_none q2 h0) (r.b.gH b o q1 q2 q3), fun b C dx fs q => by rw [upd_ne (ne_of_none q h0)]; exact r.b.gI b C dx fs q⟩, r.de, r.he, r.gr.chg (by rw [← r.he]; exact h0), by simp [r.len], fun j y q => ?_, fun j l b ds' y hjl q1 q2 q3 hy q4 => ?_⟩
  · by_cases z : i = j
    · subst z
      rw [List.getElem?_set_self hi] at q
      cases q
      exact ⟨_, e1, a, us, rfl, h0, hF, upd_same, hr, na⟩
    · rw [List.getElem?_set_ne z] at q
      obtain ⟨w, w1, w2⟩ := r.slot j y q
      refine ⟨w, w1, ?_⟩
      cases y with
      | dat d => exact w2
      | vw es' =>
        obtain ⟨b, us', rfl, p1, p2, p3⟩ := w2
        exact ⟨b, us', rfl, hk b _ (fun zz => r.apart i j a ds (.vw es') z e e1 q rfl (by rw [w1, zz])) p1, p2, p3⟩
      | mt es' =>
        obtain ⟨b, us', rfl, p1, p2, p3, p4, p5⟩ := w2
        exact ⟨b, us', rfl, p1, p2, hk b _ (fun zz => r.apart i j a ds (.mt es') z e e1 q rfl (by rw [w1, zz])) p3, p4, p5⟩
      | deck _ => exact w2
      | md b ks =>
        obtain ⟨q1, q2, q3, q4, q5⟩ := w2
        exact ⟨q1, q2, q3, hk b _ (fun zz => by rw [zz, hH] at q4; cases q4) q4, q5⟩
  · have old : ∀ (k : Nat) (x : Dv), (ρ.set i (some (.mt es)))[k]? = some (some x) → x.isL = true → ∃ x', ρ[k]? = some (some x') ∧ x'.isL = true ∧ (∀ ds', x = .mt ds' → ∃ ds'', x' = .mt ds'') := fun k x q hx => by
      by_cases z : i = k
      · subst z
        rw [List.getElem?_set_self hi] at q
        cases q
        exact ⟨_, e, rfl, fun _ _ => ⟨_, rfl⟩⟩
      · rw [List.getElem?_set_ne z] at q
        exact ⟨x, q, hx, fun ds' h => ⟨ds', h⟩⟩
    obtain ⟨x1, p1, p2, p3⟩ := old j _ q1 rfl
    obtain ⟨ds'', rfl⟩ := p3 _ rfl
    obtain ⟨x2, p4, p5, _⟩ := old l _ q3 hy
    exact r.apart j l b ds'' x2 hjl p1 q2 p4 p5 q4
/-- the list in slot i -/
def atMt (i : Nat) (ρ : Rho) (R : List PyData → Prop) : Prop := ∃ ds, ρ[i]? = some (some (.mt ds)) ∧ R ds
def dApp (i : Nat) (t : DTE) : DTS := fun E ρ n => atMt i ρ fun ds => t ρ n fun x n' => needD x fun d => ds.length < sizeLine ∧ E.nx (ρ.set i (some (.mt (ds ++ [d])))) n'
theorem SR.own {K : PySem.W.Frag} {Y Z : Fx} {F H : Hp} {σ : L2.St} {ρ : Rho} {n : Wo} (r : SR Y K Z F H σ ρ n) {i : Nat} {ds : List PyData} (e : ρ[i]? = some (some (.mt ds))) : ∃ a vs, σ[i]? = some (some (.ref a)) ∧ H a = some (.lst vs) ∧ Rps K F ds vs := by
  obtain ⟨v, q1, a, ws, rfl, h0, hF, hH, hrr, na⟩ := r.slot i _ e
  exact ⟨a, ws, q1, hH, hrr⟩
section
variable {i : Nat} {o e : Expr} {t : DTE} {apos cpos pos : Pos}
theorem ds_append (ho : PE X o (tVar i)) (he : WE Y X e t)
    (hbase : attributeBase o "append" X.env (eval o X.env) = eval o X.env := by rfl)
    (hfew : ((backTo cpos (starEach [e] X.env)).all (fun x => !x.1) && (backToKw cpos (keywordEach [] X.env)).all (fun x => x.1.isSome)
      && decide (([e] : List Expr).length + ([] : List Keyword).length + (if ([] : List Keyword).isEmpty then 0 else 1) < 30)) = true := by rfl)
    (hline : (apos.endLine == cpos.line) = true := by rfl) (hst : starEach [e] X.env = (false, eval e X.env) :: starEach [] X.env := by rfl) (hplain : (backTo cpos (starEach [] X.env)).any (·.1) = false := by rfl)
    (hs : swapsWith (.Call (.Attribute o "append" apos) [e] [] cpos) none pos.line X.env = pure false := by rfl) : DS Y X (.Expr (.Call (.Attribute o "append" apos) [e] [] cpos) pos) (dApp i t) :=
  ps_imp (ps_expr (pe_bm PySem.F.plainAttrs_list PySem.F.slot_list_append PySem.F.type_list_append mt_append ho (pa_cons he pa_nil hst) hbase hfew hline hst hplain) hs) fun D σ H ⟨Z, F, ρ, n, E, r, ⟨ds, e0, ht⟩, k⟩ => by
    obtain ⟨a, vs, q1, q2, q3⟩ := r.own e0
    refine ⟨_, q1, .inl ⟨rfl, vs, SqL.of q2⟩, Z, F, ρ, n, _, r, ht, fun x n1 F1 H1 v hx g1 s1 d1 w1 => ?_⟩
    obtain ⟨d, rfl, hl, hx⟩ := needD_is hx
    have r1 := r.step g1 s1 d1
    obtain ⟨a', vs', q4, q5, q6⟩ := r1.own e0
    rw [q1] at q4; cases q4
    exact ⟨a, vs', _, rfl, rfl, q5, by rw [← q6.length]; exact hl, k.nx _ _ _ _ _ hx (r1.mut e0 q1 (q6.append (rps_cons w1 rps_nil)))⟩
/-- x.extend(list) -/
def dExt (i : Nat) (t : DTE) : DTS := fun E ρ n => atMt i ρ fun ds => t ρ n fun x n' => ∃ es, x = .dat (.list es) ∧ ds.length + es.length ≤ sizeLine ∧ E.nx (ρ.set i (some (.mt (ds ++ es)))) n'
theorem ds_extend (ho : PE X o (tVar i)) (he : WE Y X e t)
    (hbase : attributeBase o "extend" X.env (eval o X.env) = eval o X.env := by rfl)
    (hfew : ((backTo cpos (starEach [e] X.env)).all (fun x => !x.1) && (backToKw cpos (keywordEach [] X.env)).all (fun x => x.1.isSome)
      && decide (([e] : List Expr).length + ([] : List Keyword).length + (if ([] : List Keyword).isEmpty then 0 else 1) < 30)) = true := by rfl)
    (hline : (apos.endLine == cpos.line) = true := by rfl) (hst : starEach [e] X.env = (false, eval e X.env) :: starEach [] X.env := by rfl) (hplain : (backTo cpos (starEach [] X.env)).any (·.1) = false := by rfl)
    (hs : swapsWith (.Call (.Attribute o "extend" apos) [e] [] cpos) none pos.line X.env = pure false := by rfl) : DS Y X (.Expr (.Call (.Attribute o "extend" apos) [e] [] cpos) pos) (dExt i t) :=
  ps_imp (ps_expr (pe_bm PySem.F.plainAttrs_list PySem.F.slot_list_extend PySem.F.type_list_extend mt_extend ho (pa_cons he pa_nil hst) hbase hfew hline hst hplain) hs) fun D σ H ⟨Z, F, ρ, n, E, r, ⟨ds, e0, ht⟩, k⟩ => by
    obtain ⟨a, vs, q1, q2, q3⟩ := r.own e0
    refine ⟨_, q1, .inl ⟨rfl, vs, SqL.of q2⟩, Z, F, ρ, n, _, r, ht, fun x n1 F1 H1 v ⟨es, e1, hl, hx⟩ g1 s1 d1 w1 => ?_⟩
    subst e1
    simp only [VR, Rp] at w1
    obtain ⟨b, us, rfl, p1, p2⟩ := w1
    have r1 := r.step g1 s1 d1
    obtain ⟨a', vs', q4, q5, q6⟩ := r1.own e0
    rw [q1] at q4; cases q4
    exact ⟨a, b, vs', us, rfl, rfl, q5, s1 _ _ p1, by rw [← q6.length, ← p2.length]; exact hl, k.nx _ _ _ _ _ hx (r1.mut e0 q1 (q6.append p2))⟩
/-- x.remove(k) of ints -/
def dRem (i : Nat) (t : DTE) : DTS := fun E ρ n => atMt i ρ fun ds => t ρ n fun x n' => ∃ (ns : List Int) (k : Int), ds = ns.map PyData.int ∧ x = .dat (.int k) ∧ k ∈ ns ∧ E.nx (ρ.set i (some (.mt ((ns.erase k).map PyData.int)))) n'
theorem first_at {ns : List Int} {k : Int} (h : k ∈ ns) : ∃ j, ns[j]? = some k ∧ (∀ m : Nat, m < j → ns[m]? ≠ some k) ∧ ns.eraseIdx j = ns.erase k := by
  induction ns with
  | nil => simp at h
  | cons a r ih =>
    by_cases e : a = k
    · subst e
      exact ⟨0, rfl, fun m hm => absurd hm (Nat.not_lt_zero _), by simp⟩
    · have hr : k ∈ r := by
        rcases List.mem_cons.mp h with q | q
        · exact absurd q.symm e
        · exact q
      obtain ⟨j, h1, h2, h3⟩ := ih hr
      refine ⟨j + 1, by simpa using h1, fun m hm => ?_, ?_⟩
      · cases m with
        | zero => simpa using e
        | succ m => simpa using h2 m (by omega)
      · rw [List.eraseIdx_cons_succ, h3, List.erase_cons_tail (by simpa using e)]
theorem ds_remove (ho : PE X o (tVar i)) (he : WE Y X e t)
    (hbase : attributeBase o "remove" X.env (eval o X.env) = eval o X.env := by rfl)
    (hfew : ((backTo cpos (starEach [e] X.env)).all (fun x => !x.1) && (backToKw cpos (keywordEach [] X.env)).all (fun x => x.1.isSome)
      && decide (([e] : List Expr).length + ([] : List Keyword).length + (if ([] : List Keyword).isEmpty then 0 else 1) < 30)) = true := by rfl)
    (hline : (apos.endLine == cpos.line) = true := by rfl) (hst : starEach [e] X.env = (false, eval e X.env) :: starEach [] X.env := by rfl) (hplain : (backTo cpos (starEach [] X.env)).any (·.1) = false := by rfl)
    (hs : swapsWith (.Call (.Attribute o "remove" apos) [e] [] cpos) none pos.line X.env = pure false := by rfl) : DS Y X (.Expr (.Call (.Attribute o "remove" apos) [e] [] cpos) pos) (dRem i t) :=
  ps_imp (ps_expr (pe_bm PySem.F.plainAttrs_list PySem.F.slot_list_remove PySem.F.type_list_remove mt_remove ho (pa_cons he pa_nil hst) hbase hfew hline hst hplain) hs) fun D σ H ⟨Z, F, ρ, n, E, r, ⟨ds, e0, ht⟩, k⟩ => by
    obtain ⟨a, vs, q1, q2, q3⟩ := r.own e0
    refine ⟨_, q1, .inl ⟨rfl, vs, SqL.of q2⟩, Z, F, ρ, n, _, r, ht, fun x n1 F1 H1 v ⟨ns, z, e1, e2, hm, hx⟩ g1 s1 d1 w1 => ?_⟩
    subst e1 e2
    simp only [VR, Rp] at w1
    subst w1
    have r1 := r.step g1 s1 d1
    obtain ⟨a', vs', q4, q5, q6⟩ := r1.own e0
    rw [q1] at q4; cases q4
    rw [q6.ints] at q5
    obtain ⟨j, h1, h2, h3⟩ := first_at hm
    refine ⟨a, ns, z, j, rfl, rfl, q5, h1, h2, ?_⟩
    rw [h3]
    exact k.nx _ _ _ _ _ hx (r1.mut e0 q1 (rps_ints _))
/-- x[i] = e of a list of one's own -/
def dSetI (i : Nat) (t u : DTE) : DTS := fun E ρ n => t ρ n fun x n1 => atMt i ρ fun ds => u ρ n1 fun y n2 => needD x fun d => ∃ z j, y = .dat (.int z) ∧ ixN ds.length z = some j ∧ E.nx (ρ.set i (some (.mt (ds.set j d)))) n2
theorem Rps.set {K : PySem.W.Frag} {F : Hp} : ∀ {ds : List PyData} {vs : List V} (j : Nat) {d : PyData} {v : V}, Rps K F ds vs → Rp K F d v → Rps K F (ds.set j d) (vs.set j v)
  | [], _, _, _, _, h, _ => by simp only [Rps] at h; subst h; simp [Rps]
  | d :: ds, _, 0, d', v', h, h' => by
    simp only [Rps] at h
    obtain ⟨v, r, rfl, h1, h2⟩ := h
    exact rps_cons h' h2
  | d :: ds, _, j + 1, d', v', h, h' => by
    simp only [Rps] at h
    obtain ⟨v, r, rfl, h1, h2⟩ := h
    exact rps_cons h1 (Rps.set j h2 h')
theorem ds_setI {ix : Expr} {u : DTE} {tpos : Pos} (ho : PE X o (tVar i)) (hx : WE Y X ix u) (he : WE Y X e t) (hs : swapsWithSole [.Subscript o ix tpos] e pos.line X.env = pure false := by rfl) (hw : swappedStores [.Subscript o ix tpos] e X.env = pure none := by rfl)
    (h1 : (assignEach [.Subscript o ix tpos] X.env).map (·.2) = [assign (.Subscript o ix tpos) X.env] := by rfl) (hg : PG X (.Subscript o ix tpos) (gSub (tVar i) (up Y X.K u) rSetL)) : DS Y X (.Assign [.Subscript o ix tpos] e pos) (dSetI i t u) :=
  ps_imp (ps_asg he hg hs hw h1) fun D σ H ⟨Z, F, ρ, n, E, r, ht, k⟩ => ⟨Z, F, ρ, n, _, r, ht, fun x n1 F1 H1 v ⟨ds, e0, hy⟩ g1 s1 d1 w1 => by
    have r1 := r.step g1 s1 d1
    obtain ⟨a, vs, q1, q2, q3⟩ := r1.own e0
    refine ⟨_, q1, Z, F1, ρ, n1, _, r1, hy, fun y n2 F2 H2 v2 hz g2 s2 d2 w2 => ?_⟩
    obtain ⟨d, rfl, z, j, rfl, hj, hx⟩ := needD_is hz
    simp only [VR, Rp] at w2
    subst w2
    have r2 := r1.step g2 s2 d2
    obtain ⟨a', vs', q4, q5, q6⟩ := r2.own e0
    rw [q1] at q4; cases q4
    exact ⟨a, vs', z, j, rfl, rfl, q5, by rw [← q6.length]; exact hj, k.nx _ _ _ _ _ hx (r2.mut e0 q1 (q6.set j (Rp.mono g2.sF d v w1)))⟩⟩
end
end DL
namespace DL
open PySem PySem.Spec PyProof.Rows L2
variable {X : Cx} {Y : Fx}

/-! ### calls of built-ins, by values -/
abbrev DC := List Dv → (PyData → Prop) → Prop
def CallOk (K : PySem.W.Frag) (r : List V → Hp → VK → Prop) (o : DC) : Prop := ∀ δ F H xs vs R Q, Same F H → VRs K δ F H xs vs → o xs R → Back K F H R Q → r vs H Q
def dCall (o : DC) (t : DTA) : DTE := fun ρ n R => t ρ n fun xs n1 => o xs fun d => R (.dat d) n1
theorem cal {K : PySem.W.Frag} {r : List V → Hp → VK → Prop} {o : DC} {t : DTA} (ho : CallOk K r o) : ∀ σ H Q, up Y K (dCall o t) σ H Q → tCB r (upA Y K t) σ H Q := fun σ H Q ⟨Z, F, ρ, n, R, s, ht, k⟩ =>
  ⟨Z, F, ρ, n, _, s, ht, fun xs n1 F1 H1 vs hx g1 s1 d1 w1 => ho Z.δ F1 H1 xs vs _ Q s1 w1 hx fun d F2 H2 v2 h2 g2 s2 w2 =>
    k _ _ _ _ _ h2 (g1.trans g2.gr) s2 (g2.dk ((s.step g1 s1 d1).b)) w2⟩
section
variable {x : Str} {p pos : Pos} {e : Expr} {es : List Expr} {id T : String} {r : List V → Hp → VK → Prop} {o : DC} {t : DTA}
theorem we_callB (hc : CallR X (.builtin id) r) (ho : CallOk X.K r o) (hg : Gl X x) (hm : X.mg x = none) (hv : bootBuiltins x = some (.builtin id)) (ha : WA Y X (e :: es) t) (hn : x ≠ "__name__" := by decide) (hdb : (x == ("__debug__" : Str)) = false := by decide)
    (he : starEach (e :: es) X.env = (false, eval e X.env) :: starEach es X.env := by rfl) (hpl : (backTo pos (starEach es X.env)).any (·.1) = false := by rfl) : WE Y X (.Call (.Name x p) (e :: es) [] pos) (dCall o t) :=
  pe_imp (pe_callB hc hg hm hv ha hn hdb he hpl) (cal ho)
theorem we_callTy (hc : CallR X (.type T) r) (ho : CallOk X.K r o) (hg : Gl X x) (hm : X.mg x = none) (hv : bootBuiltins x = some (.type T)) (ha : WA Y X (e :: es) t) (hn : x ≠ "__name__" := by decide) (hdb : (x == ("__debug__" : Str)) = false := by decide)
    (he : starEach (e :: es) X.env = (false, eval e X.env) :: starEach es X.env := by rfl) (hpl : (backTo pos (starEach es X.env)).any (·.1) = false := by rfl) : WE Y X (.Call (.Name x p) (e :: es) [] pos) (dCall o t) :=
  pe_imp (pe_callTy hc hg hm hv ha hn hdb he hpl) (cal ho)
/-! .. that hand back a fresh list -/
abbrev DCM := List Dv → (List PyData → Prop) → Prop
def CallOkM (K : PySem.W.Frag) (r : List V → Hp → VK → Prop) (o : DCM) : Prop := ∀ δ F H xs vs R Q, Same F H → VRs K δ F H xs vs → o xs R → (∀ ds us p, R ds → H p = none → Rps K F ds us → Q (.ref p) (upd H p (.lst us))) → r vs H Q
def mCall (o : DCM) (t : DTA) : DTM := fun ρ n R => t ρ n fun xs n1 => o xs fun d => R d n1
theorem calM {K : PySem.W.Frag} {r : List V → Hp → VK → Prop} {o : DCM} {t : DTA} (ho : CallOkM K r o) : ∀ σ H Q, upM Y K (mCall o t) σ H Q → tCB r (upA Y K t) σ H Q := fun σ H Q ⟨Z, F, ρ, n, R, s, ht, k⟩ =>
  ⟨Z, F, ρ, n, _, s, ht, fun xs n1 F1 H1 vs hx g1 s1 d1 w1 => ho Z.δ F1 H1 xs vs _ Q s1 w1 hx fun ds us p h2 hp hr => by
    obtain ⟨g2, s2⟩ := Gp.newM (o := .lst us) hp s1
    have hp0 : H p = none := by
      cases e : H p with
      | none => rfl
      | some o => exact absurd hp (g1.dH p (by rw [e]; nofun))
    exact k _ _ _ _ _ _ h2 (g1.trans g2.gr) s2 (g2.dk ((s.step g1 s1 d1).b)) hp0 (s1.free hp) upd_same hr⟩
theorem me_callB (hc : CallR X (.builtin id) r) {o : DCM} (ho : CallOkM X.K r o) (hg : Gl X x) (hm : X.mg x = none) (hv : bootBuiltins x = some (.builtin id)) (ha : WA Y X (e :: es) t) (hn : x ≠ "__name__" := by decide) (hdb : (x == ("__debug__" : Str)) = false := by decide)
    (he : starEach (e :: es) X.env = (false, eval e X.env) :: starEach es X.env := by rfl) (hpl : (backTo pos (starEach es X.env)).any (·.1) = false := by rfl) : ME Y X (.Call (.Name x p) (e :: es) [] pos) (mCall o t) :=
  pe_imp (pe_callB hc hg hm hv ha hn hdb he hpl) (calM ho)
theorem me_callTy (hc : CallR X (.type T) r) {o : DCM} (ho : CallOkM X.K r o) (hg : Gl X x) (hm : X.mg x = none) (hv : bootBuiltins x = some (.type T)) (ha : WA Y X (e :: es) t) (hn : x ≠ "__name__" := by decide) (hdb : (x == ("__debug__" : Str)) = false := by decide)
    (he : starEach (e :: es) X.env = (false, eval e X.env) :: starEach es X.env := by rfl) (hpl : (backTo pos (starEach es X.env)).any (·.1) = false := by rfl) : ME Y X (.Call (.Name x p) (e :: es) [] pos) (mCall o t) :=
  pe_imp (pe_callTy hc hg hm hv ha hn hdb he hpl) (calM ho)
end
section
variable {K : PySem.W.Frag}
theorem vr1 {δ : DkS} {F H : Hp} {x : Dv} {vs : List V} (h : VRs K δ F H [x] vs) : ∃ v, vs = [v] ∧ VR K δ F H x v := by
  cases h with
  | cons a b => cases b; exact ⟨_, rfl, a⟩
theorem vr2 {δ : DkS} {F H : Hp} {x y : Dv} {vs : List V} (h : VRs K δ F H [x, y] vs) : ∃ v w, vs = [v, w] ∧ VR K δ F H x v ∧ VR K δ F H y w := by
  cases h with
  | cons a b =>
    obtain ⟨w, rfl, h2⟩ := vr1 b
    exact ⟨_, w, rfl, a, h2⟩
/-- a sequence's items, whichever it is -/
def seqD : PyData → Option (List PyData)
  | .list ds => some ds
  | .tuple ds => some ds
  | _ => none
theorem VR.seq {δ : DkS} {F H : Hp} {x : Dv} {v : V} {ds : List PyData} (hs : Same F H) (h : VR K δ F H x v) (e : seqD x.toD = some ds) : ∃ a vs, v = .ref a ∧ (H a = some (.lst vs) ∨ H a = some (.tup vs)) ∧ Rps K F ds vs := by
  cases q : x.toD with
  | list es =>
    rw [q] at e; cases e
    obtain ⟨a, l, e1, e2, e3⟩ := h.lst hs q
    exact ⟨a, l, e1, .inl e2, e3⟩
  | tuple es =>
    rw [q] at e; cases e
    obtain ⟨a, l, e1, e2, e3⟩ := h.tpl hs q
    exact ⟨a, l, e1, .inr (hs _ _ e2), e3⟩
  | _ => rw [q] at e; cases e
def oLen : DC := fun xs R => ∃ x ds, xs = [x] ∧ seqD x.toD = some ds ∧ R (.int ds.length)
theorem ck_len : CallOk K (fun xs H Q => ∃ p ys, xs = [.ref p] ∧ (SqL K H p ys ∨ SqT K H p ys) ∧ Q (.int ys.length) H) oLen := fun δ F H xs vs R Q hs hv ⟨x, ds, e, e2, hr⟩ b => by
  subst e
  obtain ⟨v, rfl, h1⟩ := vr1 hv
  obtain ⟨a, us, rfl, h2, h3⟩ := h1.seq hs e2
  exact ⟨a, us, rfl, h2.imp SqL.of SqT.of, b.int hs (by rw [← h3.length]; exact hr)⟩
def oAbs : DC := fun xs R => ∃ i : Int, xs = [.dat (.int i)] ∧ R (.int (if i < 0 then -i else i))
theorem ck_abs : CallOk K (fun xs H Q => ∃ i, xs = [.int i] ∧ Q (.int (if i < 0 then -i else i)) H) oAbs := fun δ F H xs vs R Q hs hv ⟨i, e, hr⟩ b => by
  subst e
  exact ⟨i, vrs1 hv, b.int hs hr⟩
def oInt : DC := fun xs R => match xs with
  | [.dat (.int i)] => R (.int i)
  | [.dat (.bool k)] => R (.int (if k then 1 else 0))
  | _ => False
theorem ck_int : CallOk K (fun xs H Q => (∃ i, xs = [.int i] ∧ Q (.int i) H) ∨ ∃ k, xs = [.bl k] ∧ Q (.int (if k then 1 else 0)) H) oInt := fun δ F H xs vs R Q hs hv h b => by
  unfold oInt at h
  split at h
  · exact .inl ⟨_, vrs1 hv, b.int hs h⟩
  · obtain ⟨v, rfl, h1⟩ := vr1 hv
    simp only [VR, Rp] at h1
    subst h1
    exact .inr ⟨_, rfl, b.int hs h⟩
  · exact h.elim
def oMax2 : DC := fun xs R => ∃ i j : Int, xs = [.dat (.int i), .dat (.int j)] ∧ R (.int (if j > i then j else i))
def oMin2 : DC := fun xs R => ∃ i j : Int, xs = [.dat (.int i), .dat (.int j)] ∧ R (.int (if j < i then j else i))
theorem ck_max2 : CallOk K (fun xs H Q => ∃ i j, xs = [.int i, .int j] ∧ Q (.int (if j > i then j else i)) H) oMax2 := fun δ F H xs vs R Q hs hv ⟨i, j, e, hr⟩ b => by
  subst e
  exact ⟨i, j, vrs2 hv, b.int hs hr⟩
theorem ck_min2 : CallOk K (fun xs H Q => ∃ i j, xs = [.int i, .int j] ∧ Q (.int (if j < i then j else i)) H) oMin2 := fun δ F H xs vs R Q hs hv ⟨i, j, e, hr⟩ b => by
  subst e
  exact ⟨i, j, vrs2 hv, b.int hs hr⟩
/-- sum, max, min of ints -/
def oSum : DC := fun xs R => ∃ x, ∃ ns : List Int, xs = [x] ∧ seqD x.toD = some (ns.map .int) ∧ R (.int ns.sum)
def oMaxI : DC := fun xs R => ∃ x, ∃ ns : List Int, xs = [x] ∧ seqD x.toD = some (ns.map .int) ∧ 0 < ns.length ∧ ∀ m, m ∈ ns → (∀ y, y ∈ ns → y ≤ m) → R (.int m)
def oMinI : DC := fun xs R => ∃ x, ∃ ns : List Int, xs = [x] ∧ seqD x.toD = some (ns.map .int) ∧ 0 < ns.length ∧ ∀ m, m ∈ ns → (∀ y, y ∈ ns → m ≤ y) → R (.int m)
/-- tuple(x), list(x) -/
def oTuple : DC := fun xs R => ∃ x ds, xs = [x] ∧ seqD x.toD = some ds ∧ R (.tuple ds)
theorem ck_tuple : CallOk K (fun xs H Q => ∃ p ys, xs = [.ref p] ∧ ((SqL K H p ys ∧ ∀ l, H l = none → Q (.ref l) (upd H l (.tup ys))) ∨ (SqT K H p ys ∧ Q (.ref p) H))) oTuple := fun δ F H xs vs R Q hs hv ⟨x, ds, e, e2, hr⟩ b => by
  subst e
  obtain ⟨v, rfl, h1⟩ := vr1 hv
  cases q : x.toD with
  | list es =>
    rw [q] at e2; cases e2
    obtain ⟨a, l, rfl, e2, e3⟩ := h1.lst hs q
    exact ⟨a, l, rfl, .inl ⟨SqL.of e2, fun p hp => b.tup hs hr e3 hp⟩⟩
  | tuple es =>
    rw [q] at e2; cases e2
    obtain ⟨a, l, rfl, e2, e3⟩ := h1.tpl hs q
    exact ⟨a, l, rfl, .inr ⟨SqT.of (hs _ _ e2), b.here hs hr (by simp only [Rp]; exact ⟨a, l, rfl, e2, e3⟩)⟩⟩
  | _ => rw [q] at e2; cases e2
def oList : DCM := fun xs R => ∃ x ds, xs = [x] ∧ seqD x.toD = some ds ∧ R ds
theorem ck_list : CallOkM K (fun xs H Q => ∃ p ys, xs = [.ref p] ∧ (SqL K H p ys ∨ SqT K H p ys) ∧ ∀ l, H l = none → Q (.ref l) (upd H l (.lst ys))) oList := fun δ F H xs vs R Q hs hv ⟨x, ds, e, e2, hr⟩ b => by
  subst e
  obtain ⟨v, rfl, h1⟩ := vr1 hv
  obtain ⟨a, us, rfl, h2, h3⟩ := h1.seq hs e2
  exact ⟨a, us, rfl, h2.imp SqL.of SqT.of, fun p hp => b _ _ _ hr hp h3⟩
/-- sorted of ints -/
def oSortI : DCM := fun xs R => ∃ x, ∃ ns : List Int, xs = [x] ∧ x.toD = .list (ns.map .int) ∧ ∀ ns' : List Int, ns'.Perm ns → ns'.Pairwise (· ≤ ·) → R (ns'.map .int)
theorem ck_sortI : CallOkM K (rSortedI K) oSortI := fun δ F H xs vs R Q hs hv ⟨x, ns, e, e2, hr⟩ b => by
  subst e
  obtain ⟨v, rfl, h1⟩ := vr1 hv
  obtain ⟨a, us, rfl, h2, h3⟩ := h1.lst hs e2
  rw [h3.ints] at h2
  exact ⟨a, ns, rfl, SqL.of h2, fun ns' p k1 k2 hp => b _ _ _ (hr ns' k1 k2) hp (rps_ints ns')⟩
/-- all, any of bools -/
def oAll : DC := fun xs R => ∃ x, ∃ bs : List Bool, xs = [x] ∧ x.toD = .list (bs.map .bool) ∧ R (.bool (bs.all id))
theorem Rps.bools {F : Hp} : ∀ {bs : List Bool} {vs : List V}, Rps K F (bs.map PyData.bool) vs → vs = bs.map V.bl
  | [], _, h => by simpa only [List.map_nil, Rps] using h
  | n :: ns, _, h => by
    simp only [List.map_cons, Rps, Rp] at h
    obtain ⟨v, r, rfl, rfl, h2⟩ := h
    rw [Rps.bools h2]; rfl
theorem ck_all : CallOk K (rAll K) oAll := fun δ F H xs vs R Q hs hv ⟨x, bs, e, e2, hr⟩ b => by
  subst e
  obtain ⟨v, rfl, h1⟩ := vr1 hv
  obtain ⟨a, us, rfl, h2, h3⟩ := h1.lst hs e2
  rw [h3.bools] at h2
  exact ⟨a, bs, rfl, SqL.of h2, b.bl hs hr⟩
end
/-! range as a value -/
abbrev DRg := Rho → Wo → (Int → Int → Wo → Prop) → Prop
def dRg1 (t : DTE) : DRg := fun ρ n R => t ρ n fun x n1 => ∃ j : Int, x = .dat (.int j) ∧ R 0 j n1
def dRg2 (t u : DTE) : DRg := fun ρ n R => t ρ n fun x n1 => u ρ n1 fun y n2 => ∃ i j : Int, x = .dat (.int i) ∧ y = .dat (.int j) ∧ R i j n2
def upR (Y : Fx) (K : PySem.W.Frag) (t : DRg) : L2.St → Hp → (Int → Int → Hp → Prop) → Prop := fun σ H Q => ∃ Z F ρ n R, SR Y K Z F H σ ρ n ∧ t ρ n R ∧
  ∀ i j n' F' H', R i j n' → Gr Z.δ F H F' H' → Same F' H' → Z.δ.at_ K F' H' n' → Q i j H'
abbrev WR (Y : Fx) (X : Cx) (e : Expr) (t : DRg) : Prop := PRg X e (upR Y X.K t)
theorem wr_1 {a : Expr} {t : DTE} {p pos : Pos} (hg : Gl X "range") (hm : X.mg "range" = none) (ha : WE Y X a t) (na : starEach [a] X.env = (false, eval a X.env) :: starEach [] X.env := by rfl) : WR Y X (.Call (.Name "range" p) [a] [] pos) (dRg1 t) := by
  intro pins s σ H Q I ⟨Z, F, ρ, n, R, r, ht, k⟩
  refine prg_1 hg hm ha na pins s σ H Q I ⟨Z, F, ρ, n, _, r, ht, fun x n1 F1 H1 v ⟨j, e, hx⟩ g1 s1 d1 w1 => ?_⟩
  subst e
  simp only [VR, Rp] at w1
  exact ⟨j, w1, k _ _ _ _ _ hx g1 s1 d1⟩
theorem wr_2 {a b : Expr} {t u : DTE} {p pos : Pos} (hg : Gl X "range") (hm : X.mg "range" = none) (ha : WE Y X a t) (hb : WE Y X b u) (na : starEach [a, b] X.env = (false, eval a X.env) :: starEach [b] X.env := by rfl) (nb : starEach [b] X.env = (false, eval b X.env) :: starEach [] X.env := by rfl) (npl : (backTo pos (starEach [b] X.env)).any (·.1) = false := by rfl) :
    WR Y X (.Call (.Name "range" p) [a, b] [] pos) (dRg2 t u) := by
  intro pins s σ H Q I ⟨Z, F, ρ, n, R, r, ht, k⟩
  refine prg_2 hg hm ha hb na nb npl pins s σ H Q I ⟨Z, F, ρ, n, _, r, ht, fun x n1 F1 H1 v hx g1 s1 d1 w1 => ⟨Z, F1, ρ, n1, _, r.step g1 s1 d1, hx, fun y n2 F2 H2 w ⟨i, j, e1, e2, hy⟩ g2 s2 d2 w2 => ?_⟩⟩
  subst e1 e2
  simp only [VR, Rp] at w1 w2
  exact ⟨i, j, w1, w2, k _ _ _ _ _ hy (g1.trans g2) s2 d2⟩
theorem rps_rng {K : PySem.W.Frag} {F : Hp} (a b : Int) : Rps K F (rngD a (b - a).toNat) (rgV a b) := by
  have h := rps_ints (K := K) (F := F) ((List.range (b - a).toNat).map fun (k : Nat) => a + (k : Int))
  rw [List.map_map, List.map_map] at h
  exact h
def mLstRg (t : DRg) : DTM := fun ρ n R => t ρ n fun i j n1 => RgOk i j ∧ R (rngD i (j - i).toNat) n1
theorem me_listRg {e : Expr} {t : DRg} {p pos : Pos} (hc : X.calm = true) (hg : Gl X "list") (hm : X.mg "list" = none) (he : WR Y X e t) (na : starEach [e] X.env = (false, eval e X.env) :: starEach [] X.env := by rfl) : ME Y X (.Call (.Name "list" p) [e] [] pos) (mLstRg t) :=
  pe_imp (pe_listRg hc hg hm he na) fun σ H Q ⟨Z, F, ρ, n, R, r, ht, k⟩ => ⟨Z, F, ρ, n, _, r, ht, fun i j n1 F1 H1 ⟨h1, h2⟩ g1 s1 d1 => ⟨h1, fun q hq => by
    obtain ⟨g2, s2⟩ := Gp.newM (o := .lst (rgV i j)) hq s1
    have hp0 : H q = none := by
      cases e : H q with
      | none => rfl
      | some o => exact absurd hq (g1.dH q (by rw [e]; nofun))
    exact k _ _ _ _ _ _ h2 (g1.trans g2.gr) s2 (g2.dk ((r.step g1 s1 d1).b)) hp0 (s1.free hq) upd_same (rps_rng i j)⟩⟩
def dTupRg (t : DRg) : DTE := fun ρ n R => t ρ n fun i j n1 => RgOk i j ∧ R (.dat (.tuple (rngD i (j - i).toNat))) n1
theorem we_tupRg {e : Expr} {t : DRg} {p pos : Pos} (hc : X.calm = true) (hg : Gl X "tuple") (hm : X.mg "tuple" = none) (he : WR Y X e t) (na : starEach [e] X.env = (false, eval e X.env) :: starEach [] X.env := by rfl) : WE Y X (.Call (.Name "tuple" p) [e] [] pos) (dTupRg t) :=
  pe_imp (pe_tupRg hc hg hm he na) fun σ H Q ⟨Z, F, ρ, n, R, r, ht, k⟩ => ⟨Z, F, ρ, n, _, r, ht, fun i j n1 F1 H1 ⟨h1, h2⟩ g1 s1 d1 => ⟨h1, fun q hq => by
    obtain ⟨g2, s2⟩ := Gp.new (o := .tup (rgV i j)) hq s1
    refine k _ _ _ _ _ h2 (g1.trans g2.gr) s2 (g2.dk ((r.step g1 s1 d1).b)) ?_
    simp only [VR, Rp]
    exact ⟨q, _, rfl, upd_same, rps_rng i j⟩⟩⟩

/-! ### defs: contracts over data, where nothing is being shown (guards) -/
structure FnG (P : Program) (w : World) (K : PySem.W.Frag) (mg : Str → Option Value) (base : Heap) (k : Nat) (f : Addr) (fd : FuncData) (ps : List Str) (sp : Sp) : Prop where
  len : ∀ vs H Q E, sp vs H Q E → vs.length = ps.length
  run : ∀ (A : Around) (outer : List Env) (s : Shared) (H : Hp) (args : Args) (us : List Value) (vs : List V) (Q : VK), A.guards = some [] → Room k A → Env0 P w K mg base A outer s H →
    BindsTo s fd args (ps.zip us) → Vals vs us → sp vs H Q E0 → codeAny (model P w) A (.call (.ref f) args) (CR CX0 outer P w H s Q E0) s
theorem FnG.mono {P : Program} {w : World} {K : PySem.W.Frag} {mg : Str → Option Value} {base : Heap} {j k : Nat} {f : Addr} {fd : FuncData} {ps : List Str} {sp : Sp} (F : FnG P w K mg base j f fd ps sp) (h : j ≤ k) : FnG P w K mg base k f fd ps sp :=
  ⟨F.len, fun A outer s H args us vs Q hg hr => F.run A outer s H args us vs Q hg (hr.mono h)⟩
/-- a def, by its body -/
theorem fng_of {P : Program} {w : World} {K : PySem.W.Frag} {mg : Str → Option Value} {base : Heap} {x qual : Str} {st : Stmt} {f : Addr} {fd : FuncData} {N ps : List Str} {k : Nat} {sp : Sp} (F : Fun K x qual st f fd) (S : FnScope N ps (defScope st))
    (len : ∀ vs H Q E, sp vs H Q E → vs.length = ps.length)
    (hb : ∀ (cdv : Value) (A : Around) (outer : List Env) (s : Shared) (H : Hp) (vs : List V) (Q : VK), A.guards = some [] → Room k (A.deeper (envOfC qual (defScope st) s.heap.objs.size f cdv)) → sp vs H Q E0 →
      ∃ t, PSs (cxOf CX0 P w K mg base N qual (defScope st) f cdv A outer s H E0).nox (defBody st) t ∧ t { nx := fun _ H' => Q .non H', rt := Q } (start N vs) H) : FnG P w K mg base (k + 1) f fd ps sp := by
  refine ⟨len, fun A outer s H args us vs Q hgd hr e0 hbi rv hsp => ?_⟩
  obtain ⟨oc, od, kV, doc, pm, an, cdv, ct, osl, rfl, lk, hcd⟩ := F.ex
  have hl := len _ _ _ _ hsp
  have kin : K.In s.heap := e0.mod.kin.keeps fun b o e => (e0.bs b o e).1
  have lim : s.heap.NoLimit := e0.mod.nolimit.keeps fun b o e => (e0.bs b o e).1
  refine Att.call_fn kin lim lk hcd hr.depth hbi (List.all_eq_true.mpr fun ⟨y, u⟩ hy => ?_) (fun s1 x => ?_) S.co S.gen S.kind
  · rcases S.par y (List.of_mem_zip hy).1 with q | q <;> simp [q]
  · obtain ⟨t, ht, hq⟩ := hb cdv A outer s H vs Q hgd (hr.deeper _) hsp
    have I := inv_start (CX := CX0) (P := P) (w := w) (E := E0) S hr.hd e0 hl rv x
    refine wpAny_mono (ht.run [] s1 (start N vs) H _ (I.wish _) hq) (fun fl s' hs => ?_) fun e s' hs => hs.elim
    have fin : ∀ {σ' : L2.St} {H' : Hp} {v : V} {u : Value}, Inv (cxOf CX0 P w K mg base N qual (defScope st) f cdv A outer s H E0) [] σ' H' s' → RelV v u → Q v H' → CE outer P w H s Q u s' :=
      fun J r q => ⟨_, _, J.os, J.bare, J.base, J.hok, r, q⟩
    cases fl with
    | ret u =>
      obtain ⟨v, σ', H', J, r, q⟩ := hs
      exact fin J.unwish r q
    | next =>
      obtain ⟨σ', H', J, q⟩ := hs
      exact fin (v := V.non) (u := Value.none) J.unwish rfl q
    | brk => obtain ⟨_, _, _, q⟩ := hs; exact q.elim
    | cont => obtain ⟨_, _, _, q⟩ := hs; exact q.elim
theorem run_g {mg' : Unit} {k : Nat} {f : Addr} {fd : FuncData} {ps : List Str} {sp : Sp} {pins : List (Addr × Obj)} {σ : L2.St} {H : Hp} {s : Shared} {Q : VK} {us : List Value} {vs : List V} (F : FnG X.prog X.w X.K X.mg X.base k f fd ps sp) (hgd : X.A.guards = some []) (hr : Room k X.A) (hb : Binds X.K fd ps [])
    (I : Inv X pins σ H s) (r : Vals vs us) (h : sp vs H Q E0) : wpAny (model X.prog X.w) X.A (call (.ref f) us) (EP X pins σ Q) X.xe s := by
  have hl : (us ++ []).length = ps.length := by rw [List.append_nil, ← r.length]; exact F.len _ _ _ _ h
  have hbi := hb s us I.kIn hl
  rw [List.append_nil] at hbi
  refine wpAny_call (codeAny_mono (F.run X.A X.stack s H ⟨us, []⟩ us vs Q hgd hr I.env0 hbi r h) fun q s' hq => ?_)
  cases q with
  | error e => exact hq.elim
  | ok fl =>
    cases fl with
    | ret u => exact I.after hq
    | next => exact hq.elim
    | brk => exact hq.elim
    | cont => exact hq.elim
theorem pe_callg {k : Nat} {f : Addr} {fd : FuncData} {ps : List Str} {sp : Sp} {x : Str} {p pos : Pos} {e : Expr} {es : List Expr} {t : TA} (F : FnG X.prog X.w X.K X.mg X.base k f fd ps sp) (hgd : X.A.guards = some []) (hr : Room k X.A) (hg : Gl X x) (hm : X.mg x = some (.ref f)) (hk : PySem.W.keepIn X.K (.ref f) = true) (hb : Binds X.K fd ps [])
    (ha : PA X (e :: es) t) (hdb : (x == ("__debug__" : Str)) = false := by decide) (he : starEach (e :: es) X.env = (false, eval e X.env) :: starEach es X.env := by rfl) (hpl : (backTo pos (starEach es X.env)).any (·.1) = false := by rfl) :
    PE X (.Call (.Name x p) (e :: es) [] pos) (fun σ H Q => t σ H fun vs H1 => sp vs H1 Q E0) :=
  ⟨fun pins s σ H Q I h => wpAny_Call_Name_kw (ld_glob I hg hm (PySem.W.callWith_K (h₀ := X.base) I.ok.mod.kin hk (thn (ha.run pos pins s σ H _ I h) fun us s1 ⟨vs, H1, I1, r, q⟩ => ⟨I1.kIn, run_g (mg' := ()) F hgd hr hb I1 r q⟩) he hpl) hdb)⟩

/-! contracts over data -/
abbrev DSpec := List Dv → Wo → (PyData → Wo → Prop) → Prop
def spD (K : PySem.W.Frag) (m : Nat) (c : DSpec) : Sp := fun vs H Q _ => ∃ δ F as n R, as.length = m ∧ VRs K δ F H as vs ∧ Same F H ∧ δ.at_ K F H n ∧ (∀ a, a ∈ δ.own → F a = none ∧ H a ≠ none) ∧ c as n R ∧
  ∀ d n' F' H' v, R d n' → Gr δ F H F' H' → Same F' H' → δ.at_ K F' H' n' → Rp K F' d v → Q v H'
def dFn (m : Nat) (c : DSpec) (t : DTA) : DTE := fun ρ n R => t ρ n fun as n1 => as.length = m ∧ c as n1 fun d n2 => R (.dat d) n2
theorem we_fn {k m : Nat} {c : DSpec} {f : Addr} {fd : FuncData} {ps : List Str} {x : Str} {p pos : Pos} {e : Expr} {es : List Expr} {t : DTA} (F : FnG X.prog X.w X.K X.mg X.base k f fd ps (spD X.K m c)) (hgd : X.A.guards = some []) (hr : Room k X.A) (hg : Gl X x) (hm : X.mg x = some (.ref f)) (hk : PySem.W.keepIn X.K (.ref f) = true) (hb : Binds X.K fd ps [])
    (ha : WA Y X (e :: es) t) (hdb : (x == ("__debug__" : Str)) = false := by decide) (he : starEach (e :: es) X.env = (false, eval e X.env) :: starEach es X.env := by rfl) (hpl : (backTo pos (starEach es X.env)).any (·.1) = false := by rfl) :
    WE Y X (.Call (.Name x p) (e :: es) [] pos) (dFn m c t) :=
  pe_imp (pe_callg F hgd hr hg hm hk hb ha hdb he hpl) fun σ H Q ⟨Z, F, ρ, n, R, r, ht, k⟩ => ⟨Z, F, ρ, n, _, r, ht, fun as n1 F1 H1 vs ⟨hl, hx⟩ g1 s1 d1 w1 => by
    have b1 := r.b.step g1 s1 d1
    exact ⟨Z.δ, F1, as, n1, _, hl, w1, s1, d1, b1.dkF, hx, fun d n2 F2 H2 v h2 g2 s2 d2 w2 => k _ _ _ _ _ h2 (g1.trans g2) s2 d2 w2⟩⟩
def startR (N : List Str) (as : List Dv) : Rho := as.map some ++ List.replicate (N.length - as.length) none
theorem Base.gr {K : PySem.W.Frag} {Z : Fx} {F H : Hp} {n : Wo} (h0 : ∀ a, a ∈ Z.δ.own → Z.F0 a = none ∧ Z.H0 a ≠ none) (b : Base K Z F H n) : Gr Z.δ Z.F0 Z.H0 F H :=
  ⟨b.gF, b.gN, b.gH, b.gI, fun a h => b.gD a h⟩
theorem vrs_get {K : PySem.W.Frag} {δ : DkS} {F H : Hp} : ∀ {as : List Dv} {vs : List V} {i : Nat} {x : Dv}, VRs K δ F H as vs → as[i]? = some x → ∃ v, vs[i]? = some v ∧ VR K δ F H x v
  | _, _, i, x, .nil, e => by simp at e
  | _, _, 0, x, .cons a b, e => by
    simp at e; subst e
    exact ⟨_, rfl, a⟩
  | _, _, i + 1, x, .cons a b, e => by
    obtain ⟨v, e1, e2⟩ := vrs_get (i := i) b (by simpa using e)
    exact ⟨v, by simpa using e1, e2⟩
theorem sr_start {K : PySem.W.Frag} {δ : DkS} {F H : Hp} {N : List Str} {as : List Dv} {vs : List V} {n : Wo} (w : VRs K δ F H as vs) (hs : Same F H) (hd : δ.at_ K F H n) (ho : ∀ a, a ∈ δ.own → F a = none ∧ H a ≠ none) : SR ⟨F, H, δ⟩ K ⟨F, H, δ⟩ F H (L2.start N vs) (startR N as) n := by
  have hl : as.length = vs.length := Paired.length w
  have get : ∀ (i : Nat) (x : Dv), (startR N as)[i]? = some (some x) → as[i]? = some x := fun i x e => by
    unfold startR at e
    by_cases hi : i < as.length
    · rw [List.getElem?_append_left (by simpa using hi), List.getElem?_map] at e
      cases q : as[i]? with
      | none => rw [q] at e; cases e
      | some y => rw [q] at e; cases e; rfl
    · rw [List.getElem?_append_right (by simpa using hi), List.getElem?_replicate] at e
      split at e <;> cases e
  refine ⟨⟨hs, hd, ho, Same.refl _, fun _ _ h => h, fun _ _ _ h _ => h, fun _ _ _ _ h => ⟨_, h⟩⟩, rfl, rfl, Gr.refl, by unfold L2.start startR; simp [hl], fun i x e => ?_, fun i j a ds y _ e _ _ _ _ => ?_⟩
  · obtain ⟨v, e1, e2⟩ := vrs_get w (get i x e)
    refine ⟨v, ?_, ?_⟩
    · unfold L2.start
      have hi : i < vs.length := (List.getElem?_eq_some_iff.mp e1).1
      rw [List.getElem?_append_left (by simpa using hi), List.getElem?_map, e1]; rfl
    · cases x with
      | mt ds => exact e2.elim
      | dat d => exact e2
      | vw ds => exact e2
      | deck _ => exact e2
      | md _ _ => exact e2.elim
  · obtain ⟨v, e1, e2⟩ := vrs_get w (get i _ e)
    exact e2.elim
/-- THE RULE for a def: its body over data -/
theorem fnd {P : Program} {w : World} {K : PySem.W.Frag} {mg : Str → Option Value} {base : Heap} {x qual : Str} {st : Stmt} {f : Addr} {fd : FuncData} {N ps : List Str} {k : Nat} (c : DSpec) (F : Fun K x qual st f fd) (S : FnScope N ps (defScope st))
    (hb : ∀ (cdv : Value) (A : Around) (outer : List Env) (s : Shared) (H : Hp), A.guards = some [] → Room k (A.deeper (envOfC qual (defScope st) s.heap.objs.size f cdv)) → ∀ Y : Fx,
      ∃ t, DSs Y (cxOf CX0 P w K mg base N qual (defScope st) f cdv A outer s H E0).nox (defBody st) t ∧ ∀ as n R, as.length = ps.length → c as n R → t { nx := fun _ n' => R .none n', rt := R } (startR N as) n) : FnG P w K mg base (k + 1) f fd ps (spD K ps.length c) := by
  refine fng_of F S (fun vs H Q E ⟨δ, Fz, as, n, R, hl, w1, _⟩ => by rw [← Paired.length w1]; exact hl) fun cdv A outer s H vs Q hgd hr ⟨δ, Fz, as, n, R, hl, w1, s1, d1, o1, hc, hk⟩ => ?_
  obtain ⟨t, h1, h2⟩ := hb cdv A outer s H hgd hr ⟨Fz, H, δ⟩
  refine ⟨_, h1, ⟨Fz, H, δ⟩, Fz, startR N as, n, _, sr_start w1 s1 d1 o1, h2 as n R hl hc, ⟨fun F' H' σ' ρ' n' q r' => hk _ _ _ _ _ q (Base.gr o1 r'.b) r'.b.sub r'.b.dk (by simp [Rp]), fun d n' F' H' v q b q2 => hk _ _ _ _ _ q (Base.gr o1 b) b.sub b.dk q2, fun _ _ _ _ _ q _ => q.elim, fun _ _ _ _ _ q _ => q.elim⟩⟩
end DL
namespace DL
open PySem PySem.Spec PyProof.Rows L2
variable {X : Cx} {Y : Fx}

/-! ### a data's size, as text and in depth -/
mutual
def sz : PyData → Nat
  | .none => 4
  | .bool _ => 5
  | .int i => i.natAbs.log2 + 4
  | .str s => 10 * s.length + 2
  | .list ds => szs ds + 3
  | .tuple ds => szs ds + 3
  | .dict kvs => szk kvs + 3
def szs : List PyData → Nat
  | [] => 0
  | d :: ds => sz d + 2 + szs ds
def szk : List (PyData × PyData) → Nat
  | [] => 0
  | (a, b) :: r => sz a + sz b + 4 + szk r
end
theorem slen_append (a b : Str) : (a ++ b).length = a.length + b.length := strLen_append a b
theorem textFrom_le : ∀ (ts : List Str) (k : Nat) (acc : Str), (textFrom k acc ts).length ≤ acc.length + (ts.map fun t => t.length + 2).sum
  | [], k, acc => by show acc.length ≤ _; simp
  | t :: r, k, acc => by
    have h := textFrom_le r (k + 1) (acc ++ (if k > 0 then ", " else "" : String) ++ t)
    have e : (acc ++ (if k > 0 then ", " else "" : String) ++ t).length ≤ acc.length + 2 + t.length := by
      rw [slen_append, slen_append]
      by_cases hk : k > 0
      · rw [if_pos hk]; exact Nat.le_of_eq rfl
      · rw [if_neg hk]; show acc.length + 0 + t.length ≤ _; omega
    show (textFrom (k + 1) (acc ++ (if k > 0 then ", " else "" : String) ++ t) r).length ≤ _
    simp only [List.map_cons, List.sum_cons]
    omega
theorem piled_le (ts : List Str) : piled ts = (ts.map fun t => t.length + 2).sum := by
  unfold piled
  induction ts with
  | nil => rfl
  | cons t r ih => simp [List.map_cons, List.sum_cons] at ih ⊢ <;> omega
theorem join_le (ts : List Str) : (Str.join ", " ts).length ≤ (ts.map fun t => t.length + 2).sum := by
  by_cases h : ts = []
  · subst h; exact Nat.le_refl 0
  · have := join_length_add ts h
    rw [piled_le] at this
    omega
theorem tupleText_le (ts : List Str) : (tupleText ts).length ≤ 3 + (ts.map fun t => t.length + 2).sum := by
  unfold tupleText
  rw [slen_append, slen_append]
  have h := join_le ts
  have h1 : (("(" : String) : Str).length = 1 := rfl
  split
  · have : ((",)" : String) : Str).length = 2 := rfl
    omega
  · have : ((")" : String) : Str).length = 1 := rfl
    omega
theorem listText_le (ts : List Str) : (listText ts).length ≤ 3 + (ts.map fun t => t.length + 2).sum := by
  unfold listText
  rw [slen_append]
  have h := textFrom_le ts 0 "["
  have h1 : (("[" : String) : Str).length = 1 := rfl
  have h2 : (("]" : String) : Str).length = 1 := rfl
  omega
theorem dictText_le (ts : List Str) : (dictText ts).length ≤ 3 + (ts.map fun t => t.length + 2).sum := by
  unfold dictText
  rw [slen_append, slen_append]
  have h := join_le ts
  have h1 : (("{" : String) : Str).length = 1 := rfl
  have h2 : (("}" : String) : Str).length = 1 := rfl
  omega
theorem int_text_le (i : Int) : (Str.ofString (toString i)).length ≤ i.natAbs.log2 + 4 := by
  rw [PySem.ofString_length]
  have := PySem.int_text_length_le (a := i) (k := i.natAbs.log2 + 1) (by omega) (by omega)
  omega
mutual
theorem shown_le : ∀ d : PyData, d.canLay0 = true → d.shown.length ≤ sz d
  | .none, _ => by simp only [PyData.shown, sz]; decide
  | .bool b, _ => by cases b <;> (simp only [PyData.shown, sz]; decide)
  | .int i, _ => by simp only [PyData.shown, sz]; exact int_text_le i
  | .str s, h => by
    simp only [PyData.shown, sz]
    simp only [PyData.canLay0, PyData.strOk, Array.all_eq_true'] at h
    exact PySem.StrLaws.reprText_len s fun c hc => by
      have q := h c (by simpa using hc)
      simp at q; omega
  | .list ds, h => by
    simp only [PyData.shown, sz]
    have := shownAll_le ds (by simpa only [PyData.canLay0] using h)
    have := listText_le (PyData.shownAll ds)
    omega
  | .tuple ds, h => by
    simp only [PyData.shown, sz]
    have := shownAll_le ds (by simpa only [PyData.canLay0] using h)
    have := tupleText_le (PyData.shownAll ds)
    omega
  | .dict _, h => by simp [PyData.canLay0] at h
theorem shownAll_le : ∀ ds : List PyData, PyData.canLayAll0 ds = true → ((PyData.shownAll ds).map fun t => t.length + 2).sum ≤ szs ds
  | [], _ => by simp [PyData.shownAll, szs]
  | d :: ds, h => by
    simp only [PyData.canLayAll0, Bool.and_eq_true] at h
    have h1 := shown_le d h.1
    have h2 := shownAll_le ds h.2
    simp only [PyData.shownAll, szs, List.map_cons, List.sum_cons]
    omega
end
/-- what may be shown and compared -/
structure Tame (m k : Nat) (d : PyData) : Prop where
  sh : d.showable = true
  cl : d.canLay0 = true
  dp : d.depth ≤ k
  le : sz d ≤ m
theorem Tame.mono {m k m' k' : Nat} {d : PyData} (h : Tame m k d) (h1 : m ≤ m') (h2 : k ≤ k') : Tame m' k' d := ⟨h.sh, h.cl, Nat.le_trans h.dp h2, Nat.le_trans h.le h1⟩
theorem Tame.shaped {m k : Nat} {d : PyData} (h : Tame m k d) (hk : k ≤ 64) : Sh d := by
  unfold Sh SeqAt.shaped
  rw [Bool.and_eq_true]
  exact ⟨h.cl, decide_eq_true (Nat.le_trans h.dp hk)⟩
theorem tame_none : Tame 4 0 .none := ⟨rfl, rfl, Nat.le_refl _, Nat.le_refl _⟩
theorem tame_bool (b : Bool) : Tame 5 0 (.bool b) := ⟨rfl, rfl, Nat.le_refl _, Nat.le_refl _⟩
theorem tame_int {i : Int} {m : Nat} (h : i.natAbs < 2 ^ m) (hm : m ≤ 1000) (h0 : 0 < m) : Tame (m + 3) 0 (.int i) := by
  have hl : i.natAbs.log2 < m := by
    by_cases q : i.natAbs = 0
    · rw [q]; simpa using h0
    · exact (Nat.log2_lt q).mpr h
  exact ⟨by simp only [PyData.showable]; exact decide_eq_true (by omega), rfl, Nat.zero_le _, by simp only [sz]; omega⟩
theorem tame_str {s : Str} (h : PyData.strOk s = true) : Tame (10 * s.length + 2) 0 (.str s) := ⟨rfl, h, Nat.le_refl _, Nat.le_refl _⟩
theorem szs_le {m : Nat} : ∀ {ds : List PyData}, (∀ d ∈ ds, sz d ≤ m) → szs ds ≤ ds.length * (m + 2)
  | [], _ => by simp [szs]
  | d :: ds, h => by
    have h1 := h d (by simp)
    have h2 := szs_le (ds := ds) fun e he => h e (by simp [he])
    simp only [szs, List.length_cons, Nat.add_mul]
    omega
theorem canAll {ds : List PyData} (h : ∀ d ∈ ds, d.canLay0 = true) : PyData.canLayAll0 ds = true := by
  induction ds with
  | nil => rfl
  | cons d ds ih => simp only [PyData.canLayAll0, Bool.and_eq_true]; exact ⟨h d (by simp), ih fun e he => h e (by simp [he])⟩
theorem showAll {ds : List PyData} (h : ∀ d ∈ ds, d.showable = true) : PyData.showableAll ds = true := by
  induction ds with
  | nil => rfl
  | cons d ds ih => simp only [PyData.showableAll, Bool.and_eq_true]; exact ⟨h d (by simp), ih fun e he => h e (by simp [he])⟩
theorem depthAll_le {k : Nat} {ds : List PyData} (h : ∀ d ∈ ds, d.depth ≤ k) : PyData.depthAll ds ≤ k := by
  induction ds with
  | nil => exact Nat.zero_le _
  | cons d ds ih => simp only [PyData.depthAll]; exact Nat.max_le.mpr ⟨h d (by simp), ih fun e he => h e (by simp [he])⟩
theorem tame_tuple {m k l : Nat} {ds : List PyData} (h : ∀ d ∈ ds, Tame m k d) (hl : ds.length ≤ l) : Tame (l * (m + 2) + 3) (k + 1) (.tuple ds) :=
  ⟨by simp only [PyData.showable]; exact showAll fun d hd => (h d hd).sh, by simp only [PyData.canLay0]; exact canAll fun d hd => (h d hd).cl, by simp only [PyData.depth]; exact Nat.succ_le_succ (depthAll_le fun d hd => (h d hd).dp), by
    simp only [sz]
    have := szs_le fun d hd => (h d hd).le
    have := Nat.mul_le_mul_right (m + 2) hl
    omega⟩
theorem tame_list {m k l : Nat} {ds : List PyData} (h : ∀ d ∈ ds, Tame m k d) (hl : ds.length ≤ l) : Tame (l * (m + 2) + 3) (k + 1) (.list ds) :=
  ⟨by simp only [PyData.showable]; exact showAll fun d hd => (h d hd).sh, by simp only [PyData.canLay0]; exact canAll fun d hd => (h d hd).cl, by simp only [PyData.depth]; exact Nat.succ_le_succ (depthAll_le fun d hd => (h d hd).dp), by
    simp only [sz]
    have := szs_le fun d hd => (h d hd).le
    have := Nat.mul_le_mul_right (m + 2) hl
    omega⟩
theorem tame_ints {ns : List Int} {m : Nat} (h : ∀ n ∈ ns, n.natAbs < 2 ^ m) (hm : m ≤ 1000) (h0 : 0 < m) : ∀ d ∈ ns.map PyData.int, Tame (m + 3) 0 d := fun d hd => by
  obtain ⟨n, hn, rfl⟩ := List.mem_map.mp hd
  exact tame_int (h n hn) hm h0

/-! ### repr -/
theorem Rp.reads {pins : List (Addr × Obj)} {σ : L2.St} {H : Hp} {s : Shared} (I : Inv X pins σ H s) {d : PyData} {v : V} {u : Value} (c : d.canLay0 = true) (h : Rp X.K H d v) (r : RelV v u) : ∃ as, Reads s.heap u d as := Dp.reads I d v u (Rp.dp d v c h) r
def rRepr (K : PySem.W.Frag) : List V → Hp → VK → Prop := fun xs H Q => ∃ v d, xs = [v] ∧ Rp K H d v ∧ Tame 1000000 60 d ∧ Q (.str d.shown) H
theorem noDict_of0 {d : PyData} {as : List Addr} (c : d.canLay0 = true) : d.hasDict = true → sysModules ∉ as := fun h' => by
  rw [PyData.hasDict_of_canLay d c] at h'
  exact absurd h' Bool.false_ne_true
theorem call_repr (hg : X.A.guards = some []) (hu : X.A.units + 64 < cLine) : CallR X (.builtin "repr") (rRepr X.K) := by
  intro pins s σ H xs us Q I r h
  obtain ⟨v, d, rfl, hr, ht, q⟩ := h
  obtain ⟨u, rfl, ru⟩ := vals1 r
  have hz : d.shown.length ≤ sizeLine := Nat.le_trans (shown_le d ht.cl) (Nat.le_trans ht.le (by decide))
  cases d with
  | none =>
    simp only [Rp] at hr; subst hr; cases ru
    exact PySem.P.repr_of_none ⟨.str _, H, I.tok _, ⟨_, rfl⟩, q⟩
  | bool b =>
    simp only [Rp] at hr; subst hr; cases ru
    refine PySem.P.repr_of_bool ⟨.str (PyData.shown (.bool b)), H, I.tok _, ⟨s.toks, ?_⟩, q⟩
    cases b <;> rfl
  | int i =>
    simp only [Rp] at hr; subst hr; obtain ⟨t, rfl⟩ := ru
    have := ht.sh
    simp only [PyData.showable, decide_eq_true_eq] at this
    exact PySem.P.repr_of_int this ⟨.str _, H, I.tok _, ⟨_, rfl⟩, q⟩
  | str z =>
    simp only [Rp] at hr; subst hr; obtain ⟨t, rfl⟩ := ru
    exact PySem.P.repr_of_str ⟨.str _, H, I.tok _, ⟨_, rfl⟩, q⟩ hz
  | list ds =>
    obtain ⟨as, hR⟩ := Rp.reads I ht.cl hr ru
    simp only [Rp] at hr
    obtain ⟨a, xs, rfl, _⟩ := hr
    cases ru
    exact repr_of_reads' hR ht.sh (noDict_of0 ht.cl) hg (by have := ht.dp; omega) (fun _ _ e => e) (fun h' u tk hk => ⟨.str _, H, I.kept (t' := tk) hk, ⟨u, rfl⟩, q⟩) hz
  | tuple ds =>
    obtain ⟨as, hR⟩ := Rp.reads I ht.cl hr ru
    simp only [Rp] at hr
    obtain ⟨a, xs, rfl, _⟩ := hr
    cases ru
    exact repr_of_reads' hR ht.sh (noDict_of0 ht.cl) hg (by have := ht.dp; omega) (fun _ _ e => e) (fun h' u tk hk => ⟨.str _, H, I.kept (t' := tk) hk, ⟨u, rfl⟩, q⟩) hz
  | dict ks => exact absurd ht.cl (by simp [PyData.canLay0])
def oRepr : DC := fun xs R => ∃ x, xs = [x] ∧ x.isDk = false ∧ Tame 1000000 60 x.toD ∧ R (.str x.toD.shown)
theorem ck_repr {K : PySem.W.Frag} : CallOk K (rRepr K) oRepr := fun δ F H xs vs R Q hs hv ⟨x, e, hd, ht, hr⟩ b => by
  subst e
  obtain ⟨v, rfl, h1⟩ := vr1 hv
  exact ⟨v, x.toD, rfl, h1.rp hs hd, ht, b.here hs hr (by simp [Rp])⟩

/-! ### isinstance of data -/
def tyD : PyData → String
  | .none => "NoneType"
  | .bool _ => "bool"
  | .int _ => "int"
  | .str _ => "str"
  | .list _ => "list"
  | .tuple _ => "tuple"
  | .dict _ => "dict"
def isiB (s t : String) : Bool := s == t || (s == "bool" && t == "int")
theorem tyD_of {K : PySem.W.Frag} {H : Hp} {d : PyData} {v : V} (h : Rp K H d v) (hn : isRefD d = false) : TyX K H v (.type (tyD d)) := by
  cases d <;> simp only [Rp] at h
  case none => subst h; exact .base .non
  case bool => subst h; exact .base (.bl _)
  case int => subst h; exact .base (.int _)
  case str => subst h; exact .base (.str _)
  case list => obtain ⟨a, xs, rfl, h1, _⟩ := h; exact .base (.lst h1)
  case tuple => obtain ⟨a, xs, rfl, h1, _⟩ := h; exact .base (.tup h1)
  case dict =>
    rcases h with ⟨a, xs, rfl, h1, _⟩ | ⟨a, e, rfl⟩
    · exact .base (.dK h1)
    · rw [e] at hn; cases hn
def isTy (t : String) : Prop := t = "int" ∨ t = "bool" ∨ t = "str" ∨ t = "tuple" ∨ t = "list"
theorem kit_isi {K : PySem.W.Frag} {t : String} (h : isTy t) (d : PyData) : PySem.W.kitOne K (.type (tyD d)) (.type t) = some (isiB (tyD d) t) := by
  rcases h with rfl | rfl | rfl | rfl | rfl <;> cases d <;> (simp only [tyD]; exact kit_ty (by decide +kernel))
def isDR (x : Dv) : Bool := x.isDk || isRefD x.toD
theorem isDR_dk {x : Dv} (h : isDR x = false) : x.isDk = false := (Bool.or_eq_false_iff.mp h).1
theorem isDR_rf {x : Dv} (h : isDR x = false) : isRefD x.toD = false := (Bool.or_eq_false_iff.mp h).2
def oIsi (t : String) (x : Dv) (R : PyData → Prop) : Prop := isDR x = false ∧ R (.bool (isiB (tyD x.toD) t))
theorem we_isi {e : Expr} {t : DTE} {T : String} {y : Str} {p p2 pos : Pos} (hT : isTy T) (hg : Gl X "isinstance") (hm : X.mg "isinstance" = none) (he : WE Y X e t) (hgT : Gl X y) (hmT : X.mg y = none) (hv : bootBuiltins y = some (.type T)) (hn : y ≠ "__name__" := by decide) (hdb : (y == ("__debug__" : Str)) = false := by decide)
    (h1 : starEach [e, .Name y p2] X.env = (false, eval e X.env) :: starEach [.Name y p2] X.env := by rfl) (h2 : starEach [.Name y p2] X.env = (false, eval (.Name y p2) X.env) :: starEach [] X.env := by rfl) (hpl : (backTo pos (starEach [.Name y p2] X.env)).any (·.1) = false := by rfl) :
    WE Y X (.Call (.Name "isinstance" p) [e, .Name y p2] [] pos) (dUn (oIsi T) t) :=
  pe_imp (pe_callB call_isi hg hm PyProof.Rows.boot_isinstance (pa_cons he (pa_cons (pe_bltn (v := .ty T) hgT hmT hv rfl hn hdb) pa_nil h2) h1) (by decide) (by decide) h1 hpl)
    (one (r := fun x H1 Q => rIsi X.K [x, .ty T] H1 Q) fun δ F H x v R Q hs hx ⟨hd, hr⟩ b => ⟨v, .ty T, _, _, _, rfl, .ty T, tyD_of (hx.rp hs (isDR_dk hd)) (isDR_rf hd), kit_isi hT _, b.bl hs hr⟩)
end DL
namespace DL
open PySem PySem.Spec PyProof.Rows L2
variable {X : Cx} {Y : Fx}

/-! ### sum, max, min of a tuple of ints -/
section
variable {prog : Program} {w : World} {A : Around} {E : Value → Shared → Prop} {s : Shared} {l : Addr} {its : List Value} {ns : List Int} {xs : Array (Int × Tok)} {Q : Value → Shared → Prop}
theorem iter_tupI {Q : Value → Shared → Prop} (hl : s.heap.IsTuple l (intItems xs))
    (h : ∀ s₂ : Shared, s₂ = { s with heap := s.heap.push { cls := .type "tuple_iterator", data := .fields #[.ref l, .int 0 0] } } →
      (s₂.heap.IsTupleIter s.heap.objs.size l 0 ∧ s₂.heap.IsTuple l (intItems xs)) → (∀ b ∈ [s.heap.objs.size, l], b < s₂.heap.objs.size) → l ≠ s.heap.objs.size → Q (.ref s.heap.objs.size) s₂) :
    wpAny (model prog w) A (pyIter (.ref l)) Q E s := by
  obtain ⟨o, e1, e2⟩ := id hl
  have hlt : l < s.heap.objs.size := Heap.lt_size e1
  refine wpAny_pyIter_tuple hl (h _ rfl ⟨⟨_, Heap.get?_push_size _ rfl, rfl, rfl⟩, ⟨o, Heap.get?_push_of_some _ e1, e2⟩⟩ (fun b hb => ?_) (Nat.ne_of_lt hlt))
  have hsz : ∀ (o : Obj), (s.heap.push o).objs.size = s.heap.objs.size + 1 := fun o => Heap.size_push _ _
  rw [hsz]
  rcases List.mem_cons.mp hb with e | hb
  · rw [e]; exact Nat.lt_succ_self _
  · rw [List.mem_singleton.mp hb]; exact Nat.lt_succ_of_lt hlt
theorem kept_tup {h' : Heap} (hk : ∀ b o, b ∉ [s.heap.objs.size] → (s.heap.push { cls := .type "tuple_iterator", data := .fields #[.ref l, .int 0 0] }).get? b = some o → h'.get? b = some o) :
    ∀ b o, s.heap.get? b = some o → h'.get? b = some o := fun b o e => by
  refine hk b o (fun hm => ?_) (Heap.get?_push_of_some _ e)
  have q := Heap.lt_size e
  rw [List.mem_singleton.mp hm] at q
  exact absurd q (Nat.lt_irrefl _)
theorem sum_tupI (hh : A.handled = none) (hl : s.heap.IsTuple l its.toArray) (hi : IntsAre its ns)
    (h : ∀ h' tk t', (∀ b o, s.heap.get? b = some o → h'.get? b = some o) → Q (.int ns.sum t') { s with heap := h', toks := tk }) : wpAny (model prog w) A (call (.builtin "sum") [.ref l]) Q E s := by
  obtain ⟨xs, e⟩ := hi.allInts.items
  have hn : numsOf (intItems xs).toList = ns := by rw [← e]; exact hi.numsOf
  rw [nums_intItems] at hn
  rw [e] at hl
  refine call_sum_walkG (iter_tupI hl fun s₂ e st hfp hlI => ?_)
  subst e
  refine ⟨_, _, _, _, _, _, numAt xs, rfl, Walks.tuple (A := A.in1) hh _ l hlI (intItems xs), st, hfp, (fun _ _ => intItems_at), fun h' tk t' hk => ?_⟩
  have q := h h' tk t' (kept_tup hk)
  have e2 : preSum (numAt xs) xs.size = ns.sum := by rw [preSum_eq, List.take_of_length_le (by simp), hn]
  rw [← e2] at q
  simpa [intItems] using q
theorem max_tupI (hh : A.handled = none) (hl : s.heap.IsTuple l its.toArray) (hi : IntsAre its ns) (hne : 0 < ns.length)
    (h : ∀ h' tk M t', (∀ b o, s.heap.get? b = some o → h'.get? b = some o) → M ∈ ns → (∀ a, a ∈ ns → a ≤ M) → Q (.int M t') { s with heap := h', toks := tk }) : wpAny (model prog w) A (call (.builtin "max") [.ref l]) Q E s := by
  obtain ⟨xs, e⟩ := hi.allInts.items
  have hn : numsOf (intItems xs).toList = ns := by rw [← e]; exact hi.numsOf
  rw [nums_intItems] at hn
  subst hn
  rw [e] at hl
  have hsz : 0 < xs.size := by simpa using hne
  refine call_max_walk (iter_tupI hl fun s₂ e st hfp hlI => ?_)
  subst e
  refine ⟨_, _, _, _, _, _, _, rfl, Walks.tuple (A := A.in1) hh _ l hlI (intItems xs), st, hfp, by simpa [intItems] using hsz, CmpOf.ints_gt (numAt xs) (fun _ _ => intItems_at), fun v h' tk hP hk => ?_⟩
  have hv : (intItems xs)[argBest (fun i j => decide (numAt xs i > numAt xs j)) (xs.size - 1)]? = some v := by simpa [intItems] using hP
  obtain ⟨t, rfl⟩ := intItems_at hv
  obtain ⟨h1, h2⟩ := argBest_gt (numAt xs) (xs.size - 1)
  refine h h' tk _ t (kept_tup hk) ?_ fun a ha => ?_
  · rw [numAt_eq]; exact PySem.getD_mem (by rw [List.length_map, Array.length_toList]; omega)
  · obtain ⟨j, hj, rfl⟩ := mem_getD ha
    rw [List.length_map, Array.length_toList] at hj
    rw [← numAt_eq]; exact h2 j (by omega)
theorem min_tupI (hh : A.handled = none) (hl : s.heap.IsTuple l its.toArray) (hi : IntsAre its ns) (hne : 0 < ns.length)
    (h : ∀ h' tk M t', (∀ b o, s.heap.get? b = some o → h'.get? b = some o) → M ∈ ns → (∀ a, a ∈ ns → M ≤ a) → Q (.int M t') { s with heap := h', toks := tk }) : wpAny (model prog w) A (call (.builtin "min") [.ref l]) Q E s := by
  obtain ⟨xs, e⟩ := hi.allInts.items
  have hn : numsOf (intItems xs).toList = ns := by rw [← e]; exact hi.numsOf
  rw [nums_intItems] at hn
  subst hn
  rw [e] at hl
  have hsz : 0 < xs.size := by simpa using hne
  refine call_min_walk (iter_tupI hl fun s₂ e st hfp hlI => ?_)
  subst e
  refine ⟨_, _, _, _, _, _, _, rfl, Walks.tuple (A := A.in1) hh _ l hlI (intItems xs), st, hfp, by simpa [intItems] using hsz, CmpOf.ints_lt (numAt xs) (fun _ _ => intItems_at), fun v h' tk hP hk => ?_⟩
  have hv : (intItems xs)[argBest (fun i j => decide (numAt xs i < numAt xs j)) (xs.size - 1)]? = some v := by simpa [intItems] using hP
  obtain ⟨t, rfl⟩ := intItems_at hv
  obtain ⟨h1, h2⟩ := argBest_lt (numAt xs) (xs.size - 1)
  refine h h' tk _ t (kept_tup hk) ?_ fun a ha => ?_
  · rw [numAt_eq]; exact PySem.getD_mem (by rw [List.length_map, Array.length_toList]; omega)
  · obtain ⟨j, hj, rfl⟩ := mem_getD ha
    rw [List.length_map, Array.length_toList] at hj
    rw [← numAt_eq]; exact h2 j (by omega)
end
section
def rSumA (H : Hp) (vs : List V) (Q : VK) : Prop := ∃ (a : Addr) (ns : List Int), vs = [V.ref a] ∧ (H a = some (.lst (ns.map V.int)) ∨ H a = some (.tup (ns.map V.int))) ∧ Q (.int ns.sum) H
theorem call_sumA (hc : X.calm = true) : CallR X (.builtin "sum") (fun vs H Q => rSumA H vs Q) := by
  intro pins s σ H vs us Q I r ⟨a, ns, e, hs, q⟩
  subst e
  rw [Vals.ref1 r]
  rcases hs with hs | hs
  · obtain ⟨its, rv, hl, _⟩ := I.list (SqL.of hs)
    exact sum_raw (I.ok.hd hc) hl.isList rv.ints fun h' tk t' hk => ⟨.int _, H, I.kept hk, ⟨_, rfl⟩, q⟩
  · obtain ⟨its, rv, hl, _⟩ := I.tuple (SqT.of hs)
    exact sum_tupI (I.ok.hd hc) (show s.heap.IsTuple a its.toArray from hl) rv.ints fun h' tk t' hk => ⟨.int _, H, I.kept hk, ⟨_, rfl⟩, q⟩
def rBest (ge : Int → Int → Prop) (H : Hp) (vs : List V) (Q : VK) : Prop := ∃ (a : Addr) (ns : List Int), vs = [V.ref a] ∧ (H a = some (.lst (ns.map V.int)) ∨ H a = some (.tup (ns.map V.int))) ∧ 0 < ns.length ∧ ∀ m, m ∈ ns → (∀ y, y ∈ ns → ge m y) → Q (.int m) H
def rMax2 (H : Hp) (vs : List V) (Q : VK) : Prop := (∃ i j, vs = [V.int i, V.int j] ∧ Q (.int (if j > i then j else i)) H) ∨ rBest (fun m y => y ≤ m) H vs Q
def rMin2 (H : Hp) (vs : List V) (Q : VK) : Prop := (∃ i j, vs = [V.int i, V.int j] ∧ Q (.int (if j < i then j else i)) H) ∨ rBest (fun m y => m ≤ y) H vs Q
theorem call_maxA (hc : X.calm = true) : CallR X (.builtin "max") (fun vs H Q => rMax2 H vs Q) := by
  refine CallR.or (call_max2 hc) ?_
  intro pins s σ H vs us Q I r ⟨a, ns, e, hs, hne, q⟩
  subst e
  rw [Vals.ref1 r]
  rcases hs with hs | hs
  · obtain ⟨its, rv, hl, _⟩ := I.list (SqL.of hs)
    exact max_raw (I.ok.hd hc) hl.isList rv.ints hne fun h' tk m t' hk h1 h2 => ⟨.int _, H, I.kept hk, ⟨_, rfl⟩, q m h1 h2⟩
  · obtain ⟨its, rv, hl, _⟩ := I.tuple (SqT.of hs)
    exact max_tupI (I.ok.hd hc) (show s.heap.IsTuple a its.toArray from hl) rv.ints hne fun h' tk m t' hk h1 h2 => ⟨.int _, H, I.kept hk, ⟨_, rfl⟩, q m h1 h2⟩
theorem call_minA (hc : X.calm = true) : CallR X (.builtin "min") (fun vs H Q => rMin2 H vs Q) := by
  refine CallR.or (call_min2 hc) ?_
  intro pins s σ H vs us Q I r ⟨a, ns, e, hs, hne, q⟩
  subst e
  rw [Vals.ref1 r]
  rcases hs with hs | hs
  · obtain ⟨its, rv, hl, _⟩ := I.list (SqL.of hs)
    exact min_raw (I.ok.hd hc) hl.isList rv.ints hne fun h' tk m t' hk h1 h2 => ⟨.int _, H, I.kept hk, ⟨_, rfl⟩, q m h1 h2⟩
  · obtain ⟨its, rv, hl, _⟩ := I.tuple (SqT.of hs)
    exact min_tupI (I.ok.hd hc) (show s.heap.IsTuple a its.toArray from hl) rv.ints hne fun h' tk m t' hk h1 h2 => ⟨.int _, H, I.kept hk, ⟨_, rfl⟩, q m h1 h2⟩
variable {K : PySem.W.Frag}
theorem seq_ints {δ : DkS} {F H : Hp} {x : Dv} {v : V} {ns : List Int} (hs : Same F H) (h : VR K δ F H x v) (e : seqD x.toD = some (ns.map .int)) : ∃ a, v = .ref a ∧ (H a = some (.lst (ns.map V.int)) ∨ H a = some (.tup (ns.map V.int))) := by
  obtain ⟨a, us, rfl, h2, h3⟩ := h.seq hs e
  rw [h3.ints] at h2
  exact ⟨a, rfl, h2⟩
theorem ck_sum : CallOk K (fun vs H Q => rSumA H vs Q) oSum := fun δ F H xs vs R Q hs hv ⟨x, ns, e, e2, hr⟩ b => by
  subst e
  obtain ⟨v, rfl, h1⟩ := vr1 hv
  obtain ⟨a, rfl, h2⟩ := seq_ints hs h1 e2
  exact ⟨a, ns, rfl, h2, b.int hs hr⟩
def oMax : DC := fun xs R => match xs with
  | [.dat (.int i), .dat (.int j)] => R (.int (if j > i then j else i))
  | [x] => ∃ ns : List Int, seqD x.toD = some (ns.map .int) ∧ 0 < ns.length ∧ ∀ m, m ∈ ns → (∀ y, y ∈ ns → y ≤ m) → R (.int m)
  | _ => False
def oMin : DC := fun xs R => match xs with
  | [.dat (.int i), .dat (.int j)] => R (.int (if j < i then j else i))
  | [x] => ∃ ns : List Int, seqD x.toD = some (ns.map .int) ∧ 0 < ns.length ∧ ∀ m, m ∈ ns → (∀ y, y ∈ ns → m ≤ y) → R (.int m)
  | _ => False
theorem ck_max : CallOk K (fun vs H Q => rMax2 H vs Q) oMax := fun δ F H xs vs R Q hs hv h b => by
  unfold oMax at h
  split at h
  · exact .inl ⟨_, _, vrs2 hv, b.int hs h⟩
  · obtain ⟨ns, e2, hne, hr⟩ := h
    obtain ⟨v, rfl, h1⟩ := vr1 hv
    obtain ⟨a, rfl, h2⟩ := seq_ints hs h1 e2
    exact .inr ⟨a, ns, rfl, h2, hne, fun m k1 k2 => b.int hs (hr m k1 k2)⟩
  · exact h.elim
theorem ck_min : CallOk K (fun vs H Q => rMin2 H vs Q) oMin := fun δ F H xs vs R Q hs hv h b => by
  unfold oMin at h
  split at h
  · exact .inl ⟨_, _, vrs2 hv, b.int hs h⟩
  · obtain ⟨ns, e2, hne, hr⟩ := h
    obtain ⟨v, rfl, h1⟩ := vr1 hv
    obtain ⟨a, rfl, h2⟩ := seq_ints hs h1 e2
    exact .inr ⟨a, ns, rfl, h2, hne, fun m k1 k2 => b.int hs (hr m k1 k2)⟩
  · exact h.elim
end
/-! ### == of texts beside == of data -/
def oEqA (neg : Bool) : D2 := fun x y R =>
  match x.toD, y.toD with
  | .str s, .str t => R (.bool (if neg then !decide (s = t) else decide (s = t)))
  | d, e => x.isDk = false ∧ y.isDk = false ∧ Sh d ∧ Sh e ∧ R (.bool (if neg then !PyData.eqv d e else PyData.eqv d e))
theorem or_eqA (hu : X.A.units + 64 < cLine) : OpR X (compareOp .Eq) (fun x y H Q => rEqD X.K x y H Q ∨ rEq x y H Q) := OpR.or (op_eqD hu) op_eq
theorem or_neA (hu : X.A.units + 64 < cLine) : OpR X (compareOp .NotEq) (fun x y H Q => rNeD X.K x y H Q ∨ rNe x y H Q) := OpR.or (op_neD hu) op_ne
section
variable {K : PySem.W.Frag}
theorem VR.str {δ : DkS} {F H : Hp} {x : Dv} {v : V} {s : Str} (hs : Same F H) (h : VR K δ F H x v) (e : x.toD = .str s) : v = .str s := by
  have r := h.rp hs (notDeck_of e nofun)
  rw [e] at r
  simpa only [Rp] using r
theorem bi_eqA : BinOk K (fun x y H Q => rEqD K x y H Q ∨ rEq x y H Q) (oEqA false) := fun δ F H x y v u R Q hs hx hy h b => by
  unfold oEqA at h
  split at h
  · rename_i s t e1 e2
    have r1 := hx.str hs e1; have r2 := hy.str hs e2
    subst r1 r2
    refine .inr ⟨rfl, b.bl hs ?_⟩
    have e : decide (V.str s = V.str t) = decide (s = t) := by
      by_cases q : s = t
      · subst q; simp
      · rw [decide_eq_false q, decide_eq_false fun z => q (V.str.inj z)]
    rw [e]; exact h
  · exact .inl (bi_eq δ F H x y v u R Q hs hx hy h b)
theorem bi_neA : BinOk K (fun x y H Q => rNeD K x y H Q ∨ rNe x y H Q) (oEqA true) := fun δ F H x y v u R Q hs hx hy h b => by
  unfold oEqA at h
  split at h
  · rename_i s t e1 e2
    have r1 := hx.str hs e1; have r2 := hy.str hs e2
    subst r1 r2
    refine .inr ⟨rfl, b.bl hs ?_⟩
    have e : decide (V.str s = V.str t) = decide (s = t) := by
      by_cases q : s = t
      · subst q; simp
      · rw [decide_eq_false q, decide_eq_false fun z => q (V.str.inj z)]
    rw [e]; exact h
  · exact .inl (bi_ne δ F H x y v u R Q hs hx hy h b)
/-! ### * : ints, a list or a tuple by a number -/
theorem or_mulA : OpR X (binaryOp .Mult) (fun x y H Q => rI CMul (fun i j => .int (i * j)) x y H Q ∨ rRep x y H Q) := OpR.or op_mul op_rep
theorem bi_mul : BinOk K (fun x y H Q => rI CMul (fun i j => .int (i * j)) x y H Q ∨ rRep x y H Q) oMul := fun δ F H x y v u R Q hs hx hy h b => by
  unfold oMul at h
  split at h
  · rename_i i j e1 e2
    have r1 := hx.rp hs (notDeck_of e1 nofun); have r2 := hy.rp hs (notDeck_of e2 nofun)
    rw [e1] at r1; rw [e2] at r2
    simp only [Rp] at r1 r2
    exact .inl ⟨i, j, r1, r2, h.1, b.int hs h.2⟩
  · rename_i xs k e1 e2
    have r2 := hy.rp hs (notDeck_of e2 nofun)
    rw [e2] at r2
    simp only [Rp] at r2
    obtain ⟨a, l, rfl, h1, h2⟩ := hx.lst hs e1
    obtain ⟨k1, k2, k3, hr⟩ := h
    refine .inr ⟨a, k, l, rfl, r2, h1, k1, k2, by rw [← h2.length]; exact k3, ?_⟩
    have rep : ∀ m : Nat, Rps K F (List.replicate m xs).flatten (List.replicate m l).flatten := fun m => by
      induction m with
      | zero => exact rps_nil
      | succ m ih => rw [List.replicate_succ, List.replicate_succ, List.flatten_cons, List.flatten_cons]; exact h2.append ih
    exact fun p hp => b.lst hs hr (rep k.toNat) hp
  · exact h.elim
end
end DL
namespace DL
open PySem PySem.Spec PyProof.Rows L2

/-! ### the end of a law: its def, called by the claim's caller -/
/-- at the law's entry only the script may be tracked, as a thing that nobody writes -/
def entryH (K : PySem.W.Frag) (a : Addr) (o : Obj) (vs : List V) : Hp := fun b => if b = a ∧ K.lookup a = none then some (.frz o (.lst vs)) else none
theorem entry_some {K : PySem.W.Frag} {a b : Addr} {o : Obj} {vs : List V} {u : HO} (h : entryH K a o vs b = some u) : b = a ∧ K.lookup a = none ∧ u = .frz o (.lst vs) := by
  unfold entryH at h
  by_cases q : b = a ∧ K.lookup a = none
  · rw [if_pos q] at h; cases h; exact ⟨q.1, q.2, rfl⟩
  · rw [if_neg q] at h; cases h
theorem entry_none {K : PySem.W.Frag} {a b : Addr} {o : Obj} {vs : List V} (h : b ≠ a) : entryH K a o vs b = none := if_neg fun q => h q.1
def spLaw (K : PySem.W.Frag) : Sp := fun vs H Q _ => ∃ (a : Addr) (ns : List Int), vs = [.ref a] ∧ SqL K H a (ns.map V.int) ∧ ns.length ≤ 63 ∧ (∀ b, H b = none ∨ ∃ o xs, H b = some (.frz o (.lst xs))) ∧ ∀ H', Q (.bl true) H'
theorem law_g {P : Program} {w : World} {K : PySem.W.Frag} {mg mb : Str → Option Value} {k : Nat} {fa a : Addr} {fd : FuncData} {x : Str} {s₁ : Shared} {vs : List Value} {ns : List Int}
    (KX : K.In s₁.heap) (hns : s₁.heap.Ns mainGlobals mg) (hb : s₁.heap.Ns builtinsNs mb) (hbb : ∀ x : Str, x ≠ "__name__" → mb x = bootBuiltins x) (hlim : s₁.heap.NoLimit) (hg : s₁.gens = #[])
    (ha : s₁.heap.get? a = some { cls := .type "list", data := .seq vs.toArray }) (hi : IntsAre vs ns) (hl : ns.length ≤ 63) (hr : Room k callerA)
    (F : ∀ base : Heap, K.In base → base.Ns mainGlobals mg → FnG P w K mg base k fa fd [x] (spLaw K)) (hbind : ∀ (s : Shared) (u : Value), BindsTo s fd ⟨[u], []⟩ [(x, u)]) :
    codeAny (model P w) callerA (.call (.ref fa) ⟨[.ref a], []⟩) (fun r s' => r = .ok (.ret (.bool true)) ∧ PySem.OldK s₁.heap s'.heap ∧ s'.os = s₁.os ∧ AllBare s'.gens) s₁ := by
  let ob : Obj := { cls := .type "list", data := .seq vs.toArray }
  let H := entryH K a ob (ns.map V.int)
  have rv := vals_ints hi
  have hl2 : ns.length ≤ sizeLine := Nat.le_trans hl (by decide)
  have only : ∀ b, H b = none ∨ ∃ o xs, H b = some (.frz o (.lst xs)) := fun b => by
    cases q : H b with
    | none => exact .inl rfl
    | some u => obtain ⟨_, _, rfl⟩ := entry_some q; exact .inr ⟨_, _, rfl⟩
  have script : SqL K H a (ns.map V.int) := by
    cases q : K.lookup a with
    | none => exact .inl (.inr ⟨ob, if_pos ⟨rfl, q⟩⟩)
    | some o =>
      have e := KX a o q
      rw [ha] at e
      cases e
      exact .inr ⟨_, vs.toArray, _, q, rfl, rfl, rfl, by rw [List.size_toArray, hi.length]; exact hl2, by simpa using rv⟩
  have hok : HOk P w H s₁.heap := fun b u q => by
    obtain ⟨rfl, _, rfl⟩ := entry_some q
    exact ⟨ha, by rw [List.length_map]; exact hl2, vs, _, rv, ha⟩
  have keepB : ∀ {b : Addr} {o : Obj}, s₁.heap.get? b = some o → H b = none → (hidT s₁.heap H).get? b = some o := fun e n => hidT_get e n
  have keepN : ∀ {b : Addr} {m : Str → Option Value}, s₁.heap.Ns b m → (hidT s₁.heap H).Ns b m := fun {b m} ⟨o, es, ep, e, d, r⟩ => by
    refine ⟨o, es, ep, keepB e (entry_none fun q => ?_), d, r⟩
    subst q
    rw [ha] at e; cases e; cases d
  have keepK : K.In (hidT s₁.heap H) := fun b o e => keepB (KX b o e) (by
    cases q : H b with
    | none => rfl
    | some u =>
      obtain ⟨rfl, q2, _⟩ := entry_some q
      rw [q2] at e; cases e)
  have lim2 : (hidT s₁.heap H).NoLimit := by
    obtain ⟨mc, h1, h2⟩ := hlim
    exact ⟨mc, keepN h1, h2⟩
  have e0 : Env0 P w K mg (hidT s₁.heap H) callerA [] s₁ H := by
    refine ⟨rfl, ⟨keepK, keepN hns, ⟨mb, keepN hb, hbb⟩, lim2⟩, fun b o e => of_hidT e, Nat.le_of_eq (hidT_size _ _), trivial, fun b hm => ?_, hok, .of_eq hg⟩
    exact absurd (show b ∈ ([] : List Addr) from hm) (by simp)
  have run := (F _ keepK (keepN hns)).run callerA [] s₁ H ⟨[.ref a], []⟩ [.ref a] [.ref a] (fun v _ => v = .bl true) rfl hr e0 (hbind s₁ (.ref a)) (.cons rfl .nil) ⟨a, ns, rfl, script, hl, only, fun _ => rfl⟩
  refine codeAny_mono run fun r s' h => ?_
  match r, h with
  | .ok (.ret u), ⟨v, H', os, bare, un, hok', r', q⟩ =>
    have q' : v = .bl true := q
    subst q'
    obtain rfl : u = Value.bool true := r'
    refine ⟨rfl, PySem.OldK.of_keep fun b o e => ?_, os, bare⟩
    cases q : H b with
    | none => exact un.keep b o e q (fun z => absurd (show b ∈ ([] : List Addr) from z) (by simp)) (by simp)
    | some u =>
      obtain ⟨rfl, _, rfl⟩ := entry_some q
      have e2 := (hok' b _ (un.frzs b _ _ q)).1
      rw [ha] at e; cases e
      exact e2
/-- the goal that the head leaves -/
theorem walk_g {l : PySem.W.OpenLaw} {k : Nat} {q : Program} {loose : List Str} {XP : (Str → Option Value) → Heap → Prop} {YP : World → Heap → Prop} {d : DefRec} {K : Params → PySem.W.Frag} {x : Str}
    (hn : l.most = some 63) (hdf : d.params.defaults = []) (hr : Room k callerA) (hY : ∀ (w : World) (h : Heap), YP w h → (K w.params).In h)
    (F : ∀ (w : World) (mg : Str → Option Value) (fa : Addr) (h : Heap), (K w.params).In h → h.Ns mainGlobals mg → mg d.name = some (.ref fa) →
      ∃ fd : FuncData, (∀ (s : Shared) (u : Value), BindsTo s fd ⟨[u], []⟩ [(x, u)]) ∧ ∀ base : Heap, (K w.params).In base → base.Ns mainGlobals mg → FnG l.prog w (K w.params) mg base k fa fd [x] (spLaw (K w.params))) :
    PySem.W.WalkO q loose XP YP l.row.toRowW d [] (fun f vs => PySem.call f vs) :=
  Att.attach_call hn hdf fun w s₀ s₁ mg mb fa o pm cd doc a vs ns G Y ho hd hcd hmg hobj hints hlen hg => by
    have KX := hY w _ Y
    obtain ⟨fd, hb, hF⟩ := F w mg fa _ KX G.T.g hmg
    exact law_g KX G.T.g G.T.b G.T.builtins G.T.nolimit hg hobj hints hlen hr hF hb
end DL
namespace DL
open PySem PySem.Spec PyProof.Rows L2
variable {X : Cx} {Y : Fx}

/-! ### a few more forms -/
def oNeg (x : Dv) (R : PyData → Prop) : Prop :=
  match x with
  | .dat (.int i) => R (.int (-i))
  | _ => False
theorem we_neg {a : Expr} {t : DTE} {pos : Pos} (ha : WE Y X a t) : WE Y X (.UnaryOp .USub a pos) (dUn oNeg t) :=
  pe_imp (pe_un un_neg ha) (one (r := fun x H1 Q => rU (fun i => .int (-i)) x H1 Q) fun δ F H x v R Q hs hx h b => by
    unfold oNeg at h
    split at h
    · simp only [VR, Rp] at hx
      exact ⟨_, hx, b.int hs h⟩
    · exact h.elim)
/-- a, b = e -/
def dAsgG (g : DTG) (t : DTE) : DTS := fun E ρ n => t ρ n fun x n' => needD x fun d => g d ρ fun ρ' => E.nx ρ' n'
theorem ds_asgG {tg e : Expr} {t : DTE} {tG : TG} {g : DTG} {sl : List Nat} {pos : Pos} (he : WE Y X e t) (hg : DG X tg tG g sl) (hs : swapsWithSole [tg] e pos.line X.env = pure false := by rfl) (hw : swappedStores [tg] e X.env = pure none := by rfl)
    (h1 : (assignEach [tg] X.env).map (·.2) = [assign tg X.env] := by rfl) : DS Y X (.Assign [tg] e pos) (dAsgG g t) :=
  ps_imp (ps_asg he hg.1 hs hw h1) fun D σ H ⟨Z, F, ρ, n, E, r, ht, k⟩ => ⟨Z, F, ρ, n, _, r, ht, fun x n1 F1 H1 v hx g1 s1 d1 w1 => by
    obtain ⟨d, rfl, hx⟩ := needD_is hx
    exact hg.2.im _ _ _ _ _ _ _ _ _ _ _ (r.step g1 s1 d1) w1 hx fun σ' ρ' h r' _ => k.nx _ _ _ _ _ h r'⟩
def gT3 (i j l : Nat) : DTG := fun d ρ R => ∃ a b c, d = .tuple [a, b, c] ∧ R (((ρ.set i (some (.dat a))).set j (some (.dat b))).set l (some (.dat c)))
theorem gok_three {K : PySem.W.Frag} {i j l : Nat} : GOk K (gTup K 3 (gCons (gName i) (gCons (gName j) (gCons (gName l) gNil)))) (gT3 i j l) [i, j, l] := ⟨fun Y Z F H σ ρ n d v R Q r hr h k => by
  obtain ⟨a, b, c, rfl, h⟩ := h
  simp only [Rp] at hr
  obtain ⟨p, xs, rfl, hp, hxs⟩ := hr
  obtain ⟨u, v, w, rfl, h1, h2, h3⟩ := rps3 hxs
  refine ⟨p, _, rfl, SqT.of (r.b.sub _ _ hp), rfl, u, _, rfl, v, _, rfl, w, _, rfl, rfl, k _ _ h (((r.setD i h1).setD j h2).setD l h3) fun vs hv => ?_⟩
  rw [wipe_set (hv l (by simp)), wipe_set (hv j (by simp)), wipe_set (hv i (by simp))]⟩
/-- a loop over a list or a tuple -/
theorem pi_seq {tg l : Expr} {tl : TE} (hl : PE X l tl) : PI X tg l (fun σ H R => tl σ H fun x H1 => ∃ a, x = .ref a ∧ ((∃ xs, H1 a = some (.lst xs) ∧ R (Itl X.K a) H1) ∨ ∃ xs, H1 a = some (.tup xs) ∧ R (Itt X.K a) H1)) :=
  ⟨fun pins s σ H R I h => thn (hl.run pins s σ H _ I h) fun v s1 ⟨x, H1, I1, r1, a, e, q⟩ => by
    subst e
    cases r1
    have fresh : ∀ b ∈ [s1.heap.objs.size], FpOk X pins H1 b := fun b hb => by
      rw [List.mem_singleton.mp hb]
      exact I1.fpOk (Nat.le_refl _) (I1.hok.fresh (Nat.le_refl _))
    rcases q with ⟨xs, hq, q⟩ | ⟨xs, hq, q⟩
    · obtain ⟨its, rv, p, hz⟩ := I1.list (SqL.of hq)
      exact wpAny_pyIter_list p.isList ⟨_, [s1.heap.objs.size], _, _, H1, rfl, I1.kept (t' := s1.toks) fun b o e => Heap.get?_push_of_some _ e, turn_list a _, ⟨_, Heap.get?_push_size _ rfl, rfl, rfl⟩, fresh, q⟩
    · obtain ⟨its, rv, p, hz⟩ := I1.tuple (SqT.of hq)
      exact wpAny_pyIter_tuple (show s1.heap.IsTuple a its.toArray from p) ⟨_, [s1.heap.objs.size], _, _, H1, rfl, I1.kept (t' := s1.toks) fun b o e => Heap.get?_push_of_some _ e, turn_tuple a _, ⟨_, Heap.get?_push_size _ rfl, rfl, rfl⟩, fresh, q⟩⟩
def dSrcS (t : DTE) : DSrc := fun ρ n R => t ρ n fun x n' => needD x fun d => ∃ ds, seqD d = some ds ∧ R ds n'
theorem di_seq {tg e : Expr} {t : DTE} (he : WE Y X e t) : DI Y X tg e (dSrcS t) := pi_imp (pi_seq he) fun σ H R ⟨Z, F, ρ, n, Q, r, ht, k⟩ =>
  ⟨Z, F, ρ, n, _, r, ht, fun x n1 F1 H1 v hx g1 s1 d1 w1 => by
    obtain ⟨d, rfl, hx⟩ := needD_is hx
    obtain ⟨ds, e, hx2⟩ : ∃ ds, seqD d = some ds ∧ _ := hx
    cases d with
    | list es =>
      cases e
      simp only [VR, Rp] at w1
      obtain ⟨a, vs, rfl, h1, h2⟩ := w1
      exact ⟨a, rfl, .inl ⟨vs, s1 _ _ h1, k _ _ _ _ _ hx2 g1 s1 d1 (itOk_list h1 h2)⟩⟩
    | tuple es =>
      cases e
      simp only [VR, Rp] at w1
      obtain ⟨a, vs, rfl, h1, h2⟩ := w1
      exact ⟨a, rfl, .inr ⟨vs, s1 _ _ h1, k _ _ _ _ _ hx2 g1 s1 d1 (itOk_tup h1 h2)⟩⟩
    | _ => cases e⟩
/-- a, b = [..] through a pair -/
theorem ds_parT {i j : Nat} {x y : Str} {a b : Expr} {t u : DTE} {px py pt pos : Pos} {kt k2 pt2} (hc : X.calm = true) (hij : i ≠ j) (hp : PGs X [.Name x px, .Name y py] (gCons (gName i) (gCons (gName j) gNil))) (ha : XE Y X a t) (hb : XE Y X b u)
    (hw : swappedStores [.Tuple [.Name x px, .Name y py] kt pt] (.Tuple [a, b] k2 pt2) X.env = pure none)
    (hs : swapsWithSole [.Tuple [.Name x px, .Name y py] kt pt] (.Tuple [a, b] k2 pt2) pos.line X.env = pure false := by rfl)
    (hn : (assignEach [.Name x px, .Name y py] X.env).length = 2 := by rfl) (hst : (assignEach [.Name x px, .Name y py] X.env).findIdx? (·.1) = none := by rfl)
    (h0 : (assignEach [.Tuple [.Name x px, .Name y py] kt pt] X.env).map (·.2) = [assign (.Tuple [.Name x px, .Name y py] kt pt) X.env] := by rfl)
    (h1 : starEach [a, b] X.env = (false, eval a X.env) :: starEach [b] X.env := by rfl) (h2 : starEach [b] X.env = (false, eval b X.env) :: starEach [] X.env := by rfl) :
    DS Y X (.Assign [.Tuple [.Name x px, .Name y py] kt pt] (.Tuple [a, b] k2 pt2) pos) (dPar i j t u) :=
  ps_imp (ps_asg (pe_tup (xa_two ha hb h1 h2)) (pg_tup hc hp hn hst) hs hw h0) fun D σ H ⟨Z, F, ρ, n, E, r, ht, k⟩ =>
    ⟨Z, F, ρ, n, _, r, ht, fun x1 n1 F1 H1 v hx g1 s1 d1 w1 => ⟨Z, F1, ρ, n1, _, r.step g1 s1 d1, hx, fun y1 n2 F2 H2 w hy g2 s2 d2 w2 => by
      refine ⟨by show 2 ≤ sizeLine; decide, fun p hp => ⟨p, _, rfl, SqT.of upd_same, rfl, v, _, rfl, w, _, rfl, rfl, ?_⟩⟩
      have r2 := (r.step g1 s1 d1).step g2 s2 d2
      obtain ⟨g3, s3⟩ := Gp.newM (o := .tup [v, w]) hp s2
      have R2 := par_set hij r (r.step g1 s1 d1) r2 g2 w1 w2
      exact k.nx _ _ _ _ _ hy (R2.step g3.gr s3 (g3.dk r2.b))⟩⟩

/-! ### a def that stands in the module -/
def Has (P : Program) (w : World) (K : PySem.W.Frag) (mg : Str → Option Value) (base : Heap) (x : Str) (k : Nat) (ps : List Str) (c : DSpec) : Prop :=
  ∃ f fd, mg x = some (.ref f) ∧ PySem.W.keepIn K (.ref f) = true ∧ Binds K fd ps [] ∧ FnG P w K mg base k f fd ps (spD K ps.length c)
theorem we_has {k : Nat} {c : DSpec} {ps : List Str} {x : Str} {p pos : Pos} {e : Expr} {es : List Expr} {t : DTA} (h : Has X.prog X.w X.K X.mg X.base x k ps c) (hgd : X.A.guards = some []) (hr : Room k X.A) (hg : Gl X x)
    (ha : WA Y X (e :: es) t) (hdb : (x == ("__debug__" : Str)) = false := by decide) (he : starEach (e :: es) X.env = (false, eval e X.env) :: starEach es X.env := by rfl) (hpl : (backTo pos (starEach es X.env)).any (·.1) = false := by rfl) :
    WE Y X (.Call (.Name x p) (e :: es) [] pos) (dFn ps.length c t) := by
  obtain ⟨f, fd, h1, h2, h3, h4⟩ := h
  exact we_fn h4 hgd hr hg h1 h2 h3 ha hdb he hpl

/-! ### reading a comprehension, a loop -/
theorem compR_fm {α : Type} (xs : List α) (enc : α → PyData) (p : α → Bool) (f : α → PyData) {n : Wo} {step : CStep} {R : List PyData → Wo → Prop} (hz : xs.length < sizeLine)
    (h : ∀ x ∈ xs, ∀ acc K, acc.length < sizeLine → K (if p x = true then acc ++ [f x] else acc) n → step (enc x) acc n K) (hR : R ((xs.filter p).map f) n) : CompR (xs.map enc) n step R := by
  refine ⟨fun k acc m => m = n ∧ acc = ((xs.take k).filter p).map f, ⟨rfl, rfl⟩, ?_, ?_⟩
  · rintro k x acc m hx ⟨rfl, rfl⟩
    rw [List.getElem?_map] at hx
    obtain ⟨z, hz2, rfl⟩ := Option.map_eq_some_iff.mp hx
    have hk : k < xs.length := (List.getElem?_eq_some_iff.mp hz2).1
    refine h z (List.mem_of_getElem? hz2) _ _ ?_ ⟨rfl, ?_⟩
    · rw [List.length_map]
      have := List.length_filter_le p (xs.take k)
      rw [List.length_take] at this
      omega
    · have e : xs.take (k + 1) = xs.take k ++ [z] := by
        rw [List.take_add_one, hz2]; rfl
      rw [e, List.filter_append, List.map_append]
      cases q : p z <;> simp [q]
  · rintro acc m ⟨rfl, rfl⟩
    rw [List.length_map, List.take_length]
    exact hR
/-- .. with draws within: each item as P says, the deck d draws further a turn -/
theorem compR_dr {m : Nat} (xs : List PyData) (P : PyData → Prop) (d : Nat) {n : Wo} {step : CStep} {R : List PyData → Wo → Prop} (hl : xs.length = m) (hz : m < sizeLine)
    (h : ∀ (k : Nat) x, xs[k]? = some x → k < m → ∀ acc K, acc.length = k → (∀ y, P y → K (acc ++ [y]) (n + (k + 1) * d)) → step x acc (n + k * d) K) (hR : ∀ ys, ys.length = m → (∀ y ∈ ys, P y) → R ys (n + m * d)) : CompR xs n step R := by
  refine ⟨fun k acc q => q = n + k * d ∧ acc.length = k ∧ ∀ y ∈ acc, P y, ⟨Wo.add0 n d, rfl, fun _ hy => (nomatch hy)⟩, ?_, ?_⟩
  · rintro k x acc q hx ⟨rfl, h1, h2⟩
    have hk : k < m := by rw [← hl]; exact (List.getElem?_eq_some_iff.mp hx).1
    refine h k x hx hk acc _ h1 fun y hy => ⟨rfl, by simp [h1], fun z hz => ?_⟩
    rcases List.mem_append.mp hz with q | q
    · exact h2 z q
    · rw [List.mem_singleton.mp q]; exact hy
  · rintro acc q ⟨rfl, h1, h2⟩
    rw [hl]
    exact hR acc (by rw [h1, hl]) h2
theorem forR_inv {xs : List PyData} {ρ : Rho} {n : Wo} {step : FStep} {Q : Rho → Wo → Prop} (I : Nat → Rho → Wo → Prop) (h0 : I 0 ρ n) (hs : ∀ (k : Nat) x ρ' n', xs[k]? = some x → I k ρ' n' → step x ρ' n' (I (k + 1))) (he : ∀ ρ' n', I xs.length ρ' n' → Q ρ' n') : ForR xs ρ n step Q := ⟨I, h0, hs, he⟩
end DL
namespace DL
open PySem PySem.Spec PyProof.Rows L2
variable {X : Cx} {Y : Fx}
/-! ### two ways that meet -/
def dCut (t u : DTS) : DTS := fun E ρ n => ∃ J : Rho → Wo → Prop, t { E with nx := J } ρ n ∧ ∀ ρ' n', J ρ' n' → u E ρ' n'
theorem dss_cut {st : Stmt} {rest : List Stmt} {t u : DTS} (h1 : DS Y X st t) (h2 : DSs Y X rest u) : DSs Y X (st :: rest) (dCut t u) :=
  pss_imp (pss_cons h1 h2) fun D σ H ⟨Z, F, ρ, n, E, r, ⟨J, ht, hJ⟩, k⟩ => ⟨Z, F, ρ, n, _, r, ht, ⟨fun F' H' σ' ρ' n' h r' => ⟨Z, F', ρ', n', E, r', hJ _ _ h, k⟩, k.rt, k.bk, k.ct⟩⟩
theorem ite_imp {c A B A' B' : Prop} [Decidable c] (h1 : A → A') (h2 : B → B') (h : if c then A else B) : if c then A' else B' := by
  by_cases q : c
  · rw [if_pos q] at h ⊢; exact h1 h
  · rw [if_neg q] at h ⊢; exact h2 h
/-- a comprehension of a test and an element that change nothing -/
theorem compR_p {α : Type} (xs : List α) (enc : α → PyData) (p : α → Bool) (f : α → PyData) {n : Wo} {step : CStep} {R : List PyData → Wo → Prop} (hz : xs.length < sizeLine)
    (h : ∀ x ∈ xs, ∀ acc K, (if p x = true then acc.length < sizeLine ∧ K (acc ++ [f x]) n else K acc n) → step (enc x) acc n K) (hR : R ((xs.filter p).map f) n) : CompR (xs.map enc) n step R :=
  compR_fm xs enc p f hz (fun x hx acc K ha hK => h x hx acc K (by
    by_cases q : p x = true
    · rw [if_pos q] at hK ⊢; exact ⟨ha, hK⟩
    · rw [if_neg q] at hK ⊢; exact hK)) hR
theorem compR_m {α : Type} (xs : List α) (enc : α → PyData) (f : α → PyData) {n : Wo} {step : CStep} {R : List PyData → Wo → Prop} (hz : xs.length < sizeLine)
    (h : ∀ x ∈ xs, ∀ acc K, acc.length < sizeLine → K (acc ++ [f x]) n → step (enc x) acc n K) (hR : R (xs.map f) n) : CompR (xs.map enc) n step R :=
  compR_fm xs enc (fun _ => true) f hz (fun x hx acc K ha hK => h x hx acc K ha (by simpa using hK)) (by rwa [List.filter_eq_self.mpr (fun _ _ => rfl)])
theorem atI_mem {α : Type} {xs : List α} {i : Int} (h0 : 0 ≤ i) (h1 : i < xs.length) : ∃ d, atI xs i = some d ∧ d ∈ xs := by
  have hi : i.toNat < xs.length := by omega
  refine ⟨xs[i.toNat], ?_, List.getElem_mem _⟩
  unfold atI ixN
  rw [if_pos h0, if_pos h1]
  simp [hi]
theorem rngD_mem {lo : Int} {n : Nat} {k : Nat} {x : PyData} (h : (rngD lo n)[k]? = some x) : x = .int (lo + (k : Int)) ∧ k < n := rngD_get h
theorem line1000 {n : Nat} (h : n ≤ 1000) : n ≤ sizeLine := Nat.le_trans h (by decide)

def Wo.z : Wo := ⟨0, fun _ => none, fun _ => none⟩
theorem pss_any {α : Type} {X : Cx} {st : List Stmt} {t : α → TS} (h : ∀ a, PSs X st (t a)) : PSs X st (fun D σ H => ∃ a, t a D σ H) := ⟨fun p s σ H D I ⟨a, w⟩ => (h a).run p s σ H D I w⟩
/-! ### a law that begins with its deck -/
section
variable {P : Program} {w : World} {K : PySem.W.Frag} {mg : Str → Option Value} {base : Heap}
theorem law_start {N : List Str} {kd : Bool} {st1 : Stmt} {rest : List Stmt} {sLaw : Stmt} {f : Addr} {fd : FuncData} {k m : Nat} {spD0 : PySem.W.Frag → Sp}
    (F : Fun K "law" "law" sLaw f fd) (S : FnScope N ["script"] (defScope sLaw)) (hbody : defBody sLaw = st1 :: rest) (hN : N.length = m + 2)
    (hsp : ∀ (a : Addr) (ns : List Int) (H : Hp) (Q : VK), SqL K H a (ns.map V.int) → ns.length ≤ 63 → (∀ (H' : Hp) (δ : DkS) (p : Addr), Same H H' → IsDk kd δ p → δ.at0 H' 0 → (∀ b, b ∈ δ.own → H' b ≠ none) → Q (.ref p) H') → spD0 K [.ref a] H Q E0)
    (h : ∀ (cdv : Value) (A : Around) (outer : List Env) (s : Shared) (H : Hp), A.guards = some [] → Room k (A.deeper (envOfC "law" (defScope sLaw) s.heap.objs.size f cdv)) →
      PS (cxOf CX0 P w K mg base N "law" (defScope sLaw) f cdv A outer s H E0).nox st1 (tAsg (fun σ H Q => tCons (tVar 0) tNil σ H fun vs H1 => spD0 K vs H1 Q E0) (gName 1)) ∧
      ∀ Y : Fx, ∃ t, DSs Y (cxOf CX0 P w K mg base N "law" (defScope sLaw) f cdv A outer s H E0).nox rest t ∧ t { nx := fun _ _ => False, rt := fun d _ => d = .bool true } (none :: some (.deck kd) :: List.replicate m none) Wo.z) :
    FnG P w K mg base (k + 1) f fd ["script"] (spLaw K) := by
  refine fng_of F S (fun vs H Q E ⟨a, ns, e, _⟩ => by rw [e]; rfl) fun cdv A outer s H vs Q hgd hr ⟨a, ns, e, hS, hlen, _, hk⟩ => ?_
  subst e
  obtain ⟨h1, h0⟩ := h cdv A outer s H hgd hr
  rw [hbody]
  refine ⟨_, pss_cons h1 (pss_any fun Y => (h0 Y).choose_spec.1), ?_⟩
  have hst : L2.start N [V.ref a] = some (.ref a) :: none :: List.replicate m none := by
    unfold L2.start
    rw [hN]
    rfl
  refine ⟨.ref a, by rw [hst]; rfl, hsp a ns H _ hS hlen fun H' δ p hs hd hat hne => ?_⟩
  refine ⟨⟨fun _ => none, H', δ⟩, ?_⟩
  obtain ⟨h2, h3⟩ := (h0 ⟨fun _ => none, H', δ⟩).choose_spec
  refine ⟨⟨fun _ => none, H', δ⟩, fun _ => none, none :: some (.deck kd) :: List.replicate m none, Wo.z, _, ⟨⟨fun _ _ q => (by cases q), ⟨hat, fun _ _ e => (nomatch e), fun _ _ e => (nomatch e)⟩, fun b hb => ⟨rfl, hne b hb⟩, Same.refl _, fun _ _ q => q, fun _ _ _ q _ => q, fun _ _ _ _ q => ⟨_, q⟩⟩, rfl, rfl, Gr.refl, ?_, fun i x q => ?_, fun i j b ds y _ q _ _ _ _ => ?_⟩, h3, ⟨fun _ _ _ _ _ q _ => q.elim, fun d n' F2 H2 v q _ r => ?_, fun _ _ _ _ _ q _ => q.elim, fun _ _ _ _ _ q _ => q.elim⟩⟩
  · rw [hst]; simp
  · rw [hst]
    have rep : ∀ (j : Nat) (z : Dv), (List.replicate m (none : Option Dv))[j]? ≠ some (some z) := fun j z e => by
      rw [List.getElem?_replicate] at e
      split at e <;> cases e
    match i, q with
    | 1, q => cases q; exact ⟨.ref p, rfl, p, rfl, hd⟩
    | j + 2, q => exact absurd q (rep j x)
  · have rep : ∀ (j : Nat) (z : Dv), (List.replicate m (none : Option Dv))[j]? ≠ some (some z) := fun j z e => by
      rw [List.getElem?_replicate] at e
      split at e <;> cases e
    match i, q with
    | j + 2, q => exact absurd q (rep j _)
  · have q' : d = .bool true := q
    subst q'
    simp only [Rp] at r
    subst r
    exact hk _
end
end DL
namespace DL
open PySem PySem.Spec PyProof.Rows L2

/-! ### t[::-1] of a tuple -/
section
variable {prog : Program} {w : World} {A : Around} {E : Value → Shared → Prop} {s : Shared}
theorem back_adjust (n : Nat) : Builtin.Slice.sliceAdjust none none (-1) (n : Int) = ((n : Int) - 1, -1) := rfl
theorem back_places (n : Nat) : Builtin.Slice.slicePlaces ((n : Int) - 1) (-1) (-1) = n := by
  show (if (-1 : Int) > 0 then _ else (if (n : Int) - 1 > -1 then ((n : Int) - 1 - -1 - 1) / (- -1) + 1 else 0)).toNat = n
  rw [if_neg (by decide)]
  by_cases h : (n : Int) - 1 > -1
  · rw [if_pos h, show (- -1 : Int) = 1 by decide, Int.ediv_one]; omega
  · rw [if_neg h]; omega
theorem back_applied {sl : Addr} {vl vu vs : Value} {n : Nat} {Q : Int × Int × Nat → Shared → Prop} (hs : s.heap.IsSliceOf sl vl vu vs) (pl : IsPart vl none) (pu : IsPart vu none) (ps : IsPart vs (some (-1))) (h : Q ((n : Int) - 1, -1, n) s) :
    wpAny (model prog w) A (Builtin.Slice.sliceApplied (.ref sl) (pure (n : Int))) Q E s := by
  obtain ⟨os, g1, g2, g3⟩ := id hs
  unfold Builtin.Slice.sliceApplied Builtin.Slice.sliceFields
  refine wpAny_bind (wpAny_bind (wpAny_field g1 g3 (x := vl) rfl (wpAny_bind (wpAny_field g1 g3 (x := vu) rfl (wpAny_bind (wpAny_field g1 g3 (x := vs) rfl (wpAny_pure ?_)))))))
  refine wpAny_bind (HT.slicePart_ ps ?_)
  show wpAny _ _ (if ((-1 : Int) == 0) = true then _ else _) _ _ s
  rw [if_neg (by decide)]
  refine wpAny_bind (HT.slicePart_ pl (wpAny_bind (HT.slicePart_ pu (wpAny_bind (wpAny_pure ?_)))))
  show wpAny _ _ (match Builtin.Slice.sliceAdjust none none (-1) (n : Int) with | (lo, hi) => pure (lo, (-1 : Int), Builtin.Slice.slicePlaces lo hi (-1))) _ _ s
  rw [back_adjust n]
  show wpAny _ _ (pure ((n : Int) - 1, (-1 : Int), Builtin.Slice.slicePlaces ((n : Int) - 1) (-1) (-1))) _ _ s
  rw [back_places]
  exact wpAny_pure h
theorem back_pick (xs : Array Value) : ((List.range xs.size).filterMap fun (m : Nat) => xs[((xs.size : Int) - 1 + (m : Int) * -1).toNat]?).toArray = xs.toList.reverse.toArray := by
  have e : ((List.range xs.size).filterMap fun (m : Nat) => xs[((xs.size : Int) - 1 + (m : Int) * -1).toNat]?) = ((List.range xs.size).map fun k => xs.size - 1 - k).filterMap (xs[·]?) := by
    rw [List.filterMap_map]
    congr 1
    funext m
    have : ((xs.size : Int) - 1 + (m : Int) * -1).toNat = xs.size - 1 - m := by omega
    rw [this]
    rfl
  rw [e, PySem.W.krv_range, List.filterMap_reverse, PySem.W.krv_all]
theorem getItem_back {t sl : Addr} {items : Array Value} {vl vu vs : Value} {Q : Value → Shared → Prop} (ht : IsTup s.heap t items) (hs : s.heap.IsSliceOf sl vl vu vs) (pl : IsPart vl none) (pu : IsPart vu none) (ps : IsPart vs (some (-1)))
    (h : Q (.ref s.heap.objs.size) { s with heap := s.heap.push { cls := .type "tuple", data := .seq items.toList.reverse.toArray } }) (hsz : items.size ≤ sizeLine) : wpAny (model prog w) A (getItem (.ref t) (.ref sl)) Q E s := by
  have hok : sizeOk (.seq items.toList.reverse.toArray) := by
    show items.toList.reverse.toArray.size ≤ sizeLine
    rw [List.size_toArray, List.length_reverse, Array.length_toList]; exact hsz
  obtain ⟨os, g1, g2, g3⟩ := id hs
  have hT : s.TypeIs (.ref sl) "slice" := ⟨os, g1, g2⟩
  unfold getItem
  (try with_reducible refine wpAny_holding ?_); (first | refine wpAny_bind (wpAny_pure ?_) | skip)
  refine wpAny_bind (wpAny_sequenceKey ht.typeIs (by decide) (wpAny_bind (wpAny_callSpecial?_slot (name := Str.ofString "__getitem__") ht.typeIs PyProof.Rows.slot_tuple_getitem (wpAny_call_entry PyProof.Rows.slot_tuple_getitem ht.typeIs entry_tuple_getitem ?_ (args_tuple_getitem _ _)))))
  show wpAny _ _ (Builtin.Tuple.tupleItemsOf (.ref t) >>= _) _ _ s
  refine wpAny_bind (tupleItemsOf_ ht (wpAny_bind (wpAny_typeOf hT ?_)))
  rw [if_pos (by decide)]
  refine wpAny_bind (back_applied hs pl pu ps ?_)
  have hno : ¬ (((items.size : Int) - 1 == 0 && (-1 : Int) == 1 && items.size == items.size) = true) := by
    intro q
    rw [Bool.and_eq_true, Bool.and_eq_true] at q
    exact absurd q.1.2 (by decide)
  show wpAny _ _ (if ((items.size : Int) - 1 == 0 && (-1 : Int) == 1 && items.size == items.size) = true then _ else _) _ _ s
  rw [if_neg hno, back_pick]
  first
    | exact wpAny_bind (m := Builtin.Tuple.tupleExact _) (wpAny_newObj_type (wpAny_pure ⟨_, rfl, wpAny_pure h⟩) hok)
    | exact wpAny_bind (m := Builtin.Tuple.tupleExact _) (wpAny_newObj_type (wpAny_bind (wpAny_pure (wpAny_pure ⟨_, rfl, wpAny_pure h⟩))) hok)
    | exact wpAny_bind (wpAny_bind (m := Builtin.Tuple.tupleExact _) (wpAny_newObj_type (wpAny_pure (wpAny_pure ⟨_, rfl, wpAny_pure h⟩)) hok))
    | exact wpAny_bind (wpAny_bind (m := Builtin.Tuple.tupleExact _) (wpAny_newObj_type (wpAny_pure ⟨_, rfl, wpAny_pure h⟩) hok))
end
def tRevS (K : PySem.W.Frag) (te : TE) : TE := fun σ H Q => te σ H fun x H1 => ∃ a xs, x = .ref a ∧ SqT K H1 a xs ∧ ∀ p, H1 p = none → Q (.ref p) (upd H1 p (.tup xs.reverse))
variable {X : Cx} {Y : Fx}
theorem pe_revS {e : Expr} {te : TE} {k : Nat} {p1 p2 p3 pos : Pos} (he : PE X e te) : PE X (.Subscript e (.Slice none none (some (.UnaryOp .USub (.Constant (.int 1) k p1) p2)) p3) pos) (tRevS X.K te) := ⟨fun pins s σ H Q I h => by
  refine Subscript_ (thn (he.run pins s σ H _ I h) fun v s1 ⟨x, H1, I1, r1, a, xs, ex, hx, q⟩ => ?_)
  subst ex
  cases r1
  have hst : PO X (some (.UnaryOp .USub (.Constant (.int 1) k p1) p2)) (tPart (tUn (rU fun i => .int (-i)) (tC (.int 1)))) := po_some (pe_un un_neg pe_int)
  refine wpAny_Slice (thn (po_none.run pins s1 σ H1 (fun o Hb => o = none ∧ Hb = H1) I1 ⟨rfl, rfl⟩) fun vl s2 ⟨l, H2, I2, pl, el, e2⟩ => ?_)
  subst el e2
  refine thn (po_none.run pins s2 σ H2 (fun o Hb => o = none ∧ Hb = H2) I2 ⟨rfl, rfl⟩) fun vu s3 ⟨u, H3, I3, pu, eu, e3⟩ => ?_
  subst eu e3
  refine thn (hst.run pins s3 σ H3 (fun o Hb => o = some (-1) ∧ Hb = H3) I3 ⟨1, rfl, -1, rfl, rfl, rfl⟩) fun vs s4 ⟨o, H4, I4, ps, eo, e4⟩ => ?_
  subst eo e4
  have I5 : Inv X pins σ H4 { s4 with heap := s4.heap.push { cls := .type "slice", data := .fields #[vl, vu, vs] } } := I4.kept (t' := s4.toks) fun b ob q => Heap.get?_push_of_some _ q
  obtain ⟨its, r, ht, hz⟩ := I5.tuple hx
  have hlen := r.length
  show wpAny (model X.prog X.w) X.A (subscriptTail e (.Slice none none (some (.UnaryOp .USub (.Constant (.int 1) k p1) p2)) p3) (.ref a) (.ref s4.heap.objs.size)) (EP X pins σ Q) X.xe { s4 with heap := s4.heap.push { cls := .type "slice", data := .fields #[vl, vu, vs] } }
  refine tail_any (ops := [.ref a, .ref s4.heap.objs.size]) ht.typeIs (PyProof.Rows.slot_tuple_getitem.lookup) ?_ (by with_unfolding_all rfl)
  refine getItem_back ht (Heap.IsSliceOf.new _ vl vu vs) pl pu ps ?_ (by rw [List.size_toArray]; omega)
  refine ⟨.ref _, _, I5.laid (t' := s4.toks) (o := .tup xs.reverse) (fun b ob q => Heap.get?_push_of_some _ q) (Nat.le_refl _) ?_, rfl, q _ (I5.hok.fresh (Nat.le_refl _))⟩
  exact ⟨by rw [List.length_reverse]; exact hz, _, r.reverse, IsTup.new _ _⟩⟩
def oRevS (x : Dv) (R : PyData → Prop) : Prop := ∃ ds, x.toD = .tuple ds ∧ R (.tuple ds.reverse)
theorem we_revT {e : Expr} {t : DTE} {pos p1 p2 p3 : Pos} {k : Nat} (he : WE Y X e t) : WE Y X (.Subscript e (.Slice none none (some (.UnaryOp .USub (.Constant (.int 1) k p1) p2)) p3) pos) (dUn oRevS t) :=
  pe_imp (pe_revS he) (one (r := fun x H1 Q => ∃ a xs, x = .ref a ∧ SqT X.K H1 a xs ∧ ∀ p, H1 p = none → Q (.ref p) (upd H1 p (.tup xs.reverse))) fun δ F H x v R Q hs hx ⟨ds, e, hr⟩ b => by
    obtain ⟨a, xs, rfl, h1, h2⟩ := hx.tpl hs e
    exact ⟨a, xs, rfl, SqT.of (hs _ _ h1), fun p hp => b.tup hs hr h2.rev hp⟩)
end DL
namespace DL
open PySem PySem.Spec PyProof.Rows L2

/-! ### enumerate of a tuple -/
open Sem (wp) in
open AutoSeq1 (wpAny_loadPart') in
theorem meets_enumT (l : Addr) (items : Array Value) (n : Nat) (dct : Option Addr) (sl : Array (Option Value)) :
    Meets (Builtin.«enumerate.__new__» ⟨[.type "enumerate", .ref l], []⟩) (fun _ R s => s.heap.get? l = some { cls := .type "tuple", dict := dct, data := .seq items n, slots := sl } ∧
      R (.ok (.ret (.ref (s.heap.push { cls := .type "tuple_iterator", data := .fields #[.ref l, .int 0 0] }).objs.size)))
        { s with heap := (s.heap.push { cls := .type "tuple_iterator", data := .fields #[.ref l, .int 0 0] }).push { cls := .type "enumerate", data := .fields #[.none, .bool false, .ref s.heap.objs.size, rawInt 0, .none, .none] } }) :=
  .of_wp fun prog w A R s h => by
    obtain ⟨hp, g, d, tk, os⟩ := s; obtain ⟨hl, h⟩ := h
    have hsub := sub_enumerate
    have hL : Heap.IsTuple (Shared.heap ⟨hp, g, d, tk, os⟩) l items := ⟨_, hl, rfl, n, rfl⟩
    wp_walk using wpAny_loadPart' hl
    refine wpAny_stack_any fun st => wpAny_pure ?_
    split
    · rename_i c _ _ _ _ _
      cases (c == Value.type "enumerate")
      · wp_walk using wpAny_loadPart' hl, wpAny_pyIter_tuple hL
        exact ⟨_, rfl, h⟩
      · wp_walk using wpAny_loadPart' hl, wpAny_pyIter_tuple hL
        exact ⟨_, rfl, h⟩
    · wp_walk using wpAny_loadPart' hl, wpAny_pyIter_tuple hL
      exact ⟨_, rfl, h⟩
section
variable {prog : Program} {w : World} {A : Around} {E : Value → Shared → Prop} {s : Shared}
theorem call_enumT {l : Addr} {items : Array Value} {Q : Value → Shared → Prop} (hL : s.heap.IsTuple l items)
    (h : ∀ h', IsEnum h' (s.heap.objs.size + 1) s.heap.objs.size 0 .none → h'.IsTupleIter s.heap.objs.size l 0 → (∀ b o, s.heap.get? b = some o → h'.get? b = some o) → Q (.ref (s.heap.objs.size + 1)) { s with heap := h' }) :
    wpAny (model prog w) A (call (.type "enumerate") [.ref l]) Q E s := by
  obtain ⟨⟨c, dct, dt, sl⟩, hl, hc, n, hd⟩ := hL
  replace hc : c = .type "tuple" := hc
  replace hd : dt = .seq items n := hd
  subst hc hd
  refine callType_new F.called_enumerate (by decide) (F.typeCall_enumerate_1 _) (F.newCall_enumerate_1 _) (fun obj => F.args_object_init_2 obj _) F.entry_enumerate_new (meets_enumT l items n dct sl) ⟨hl, ?_⟩
  have hz : (s.heap.push { cls := .type "tuple_iterator", data := .fields #[.ref l, .int 0 0] }).objs.size = s.heap.objs.size + 1 := Heap.size_push ..
  show _ ∧ _
  rw [hz]
  have he : IsEnum ((s.heap.push { cls := .type "tuple_iterator", data := .fields #[.ref l, .int 0 0] }).push { cls := .type "enumerate", data := .fields #[.none, .bool false, .ref s.heap.objs.size, rawInt 0, .none, .none] }) (s.heap.objs.size + 1) s.heap.objs.size 0 .none := by
    have z := Heap.get?_push_size (s.heap.push { cls := .type "tuple_iterator", data := .fields #[.ref l, .int 0 0] }) (o := { cls := .type "enumerate", data := .fields #[.none, .bool false, .ref s.heap.objs.size, rawInt 0, .none, .none] }) rfl
    rw [hz] at z; exact z
  exact ⟨⟨_, he, rfl⟩, h _ he ⟨_, Heap.get?_push_of_some _ (Heap.get?_push_size _ rfl), rfl, rfl⟩ fun b o x => Heap.get?_push_of_some _ (Heap.get?_push_of_some _ x)⟩
theorem enumT_end {e it t : Addr} {i : Nat} {c : Int} {items : Array Value} {old : Value} {Q : Option Value → Shared → Prop} (hh : A.handled = none) (he : IsEnum s.heap e it c old) (hit : s.heap.IsTupleIter it t i) (ht : s.heap.IsTuple t items) (hx : items[i]? = none)
    (hQ : ∀ h', Heap.ExtBut it s.heap h' → Q none { s with heap := h' }) : wpAny (model prog w) A (pyNext (.ref e)) Q E s := by
  have hT : s.TypeIs (.ref e) "enumerate" := ⟨_, he, rfl⟩
  unfold pyNext
  refine wpAny_bind (wpAny_attempt (wpAny_callSpecial?_slot (name := Str.ofString "__next__") hT F.slot_enumerate_next (wpAny_call_entry F.slot_enumerate_next hT F.entry_enumerate_next ?_ (F.args_enumerate_next_1 _))))
  show wpAny _ _ (field (.ref e) 2 >>= _) _ _ _
  refine wpAny_bind (wpAny_field he rfl (x := .ref it) rfl (wpAny_bind (wpAny_nextOf_tuple_end hh hit ht hx fun h' x he' ⟨o, ho, hc⟩ => ?_)))
  exact wpAny_bind (wpAny_isInstance (T := "StopIteration") (b := true) ⟨o, ho, hc⟩ isSubtype_stop (wpAny_pure (hQ _ he')))
end
/-- the tuple at a, each item in a new pair -/
def ItET (K : PySem.W.Frag) (a : Addr) : It :=
  ⟨fun i H => ∃ (xs : List V) (x : V), SqT K H a xs ∧ xs[i]? = some x, fun i H v H' => ∃ T x, v = .ref T ∧ H T = none ∧ H' = upd H T (.tup [.int (i : Nat), x]) ∧ ∀ xs, SqT K H a xs → xs[i]? = some x, fun i H => ∃ xs : List V, SqT K H a xs ∧ xs.length ≤ i⟩
theorem turn_enumT {P : Program} {w : World} {K : PySem.W.Frag} {elts : List Expr} {kk : Nat} {tpos : Pos} (a e it : Addr) (hai : a ≠ it) (hae : a ≠ e) :
    Turn P w K (.Tuple elts kk tpos) (ItET K a) [e, it] e (fun i h => (∃ old, IsEnum h e it ((i : Nat) : Int) old) ∧ h.IsTupleIter it a i ∧ e ≠ it) where
  mem := by simp
  obj := fun i h st b hb => by
    obtain ⟨⟨old, he⟩, ⟨o, ho, hc, hd⟩, _⟩ := st
    rcases (show b = e ∨ b = it by simpa using hb) with z | z
    · rw [z]; exact ⟨_, he, fun v q => nomatch q⟩
    · rw [z]; exact ⟨o, ho, fun v q => by rw [hd] at q; cases q⟩
  keep := fun i h h' st k => let ⟨⟨old, he⟩, hi, hne⟩ := st; ⟨⟨old, k e (by simp) _ he⟩, hi.at fun o q => k it (by simp) o q, hne⟩
  item := by
    intro X hP hw hK hc i pins s σ H E I hf st hg
    subst hP hw hK
    obtain ⟨⟨old, he⟩, hit, hne⟩ := st
    obtain ⟨xs, x, hq, hx⟩ := hg
    obtain ⟨its, rv, p, hz⟩ := I.tuple hq
    obtain ⟨u, hu, ru⟩ := rv.get hx
    have hel : e < s.heap.objs.size := Heap.lt_size he
    have hil : it < s.heap.objs.size := by obtain ⟨_, q, _⟩ := hit; exact Heap.lt_size q
    have hin : i < its.toArray.size := by
      have := (List.getElem?_eq_some_iff.mp hu).1
      simpa using this
    refine wpAny_pyNext_enum_itemC (fp := [it, a]) (Draws.tuple (A := X.A.in1) (I.ok.hd hc) it a hai its.toArray) he (i := i) ⟨hit, p⟩ hin hne (by simp; exact ⟨hne, Ne.symm hae⟩) fun y h' tk hy ho hst hT hsz hk => ?_
    have ey : y = u := by
      have : its.toArray[i]? = some u := by simpa using hu
      rw [hy] at this; exact Option.some.inj this
    subst ey
    refine ⟨_, rfl, wpAny_letOwnedTupleGo_enum (s := { s with heap := h', toks := tk + 1 }) ho fun h'' he' sb => ?_⟩
    have hT2 : h''.get? s.heap.objs.size = some { cls := .type "tuple", data := .seq #[.int i tk, y] } := (sb.2 _ (Nat.ne_of_gt hel)).trans hT
    have new : ObjOk X.prog X.w (upd H s.heap.objs.size (.tup [.int (i : Nat), x])) h'' s.heap.objs.size (.tup [.int (i : Nat), x]) := ⟨by show 2 ≤ sizeLine; decide, [.int i tk, y], .cons ⟨_, rfl⟩ (.cons ru .nil), ⟨_, hT2, rfl, _, rfl⟩⟩
    have I1 : Inv X pins σ (upd H s.heap.objs.size (.tup [.int (i : Nat), x])) { s with heap := h'', toks := tk + 1 } :=
      I.turnedNew (ch := [e, it]) (fun b ob hb q => (sb.2 b (fun z => hb (by simp [z]))).trans (hk b ob (fun z => hb (by simp [z])) (fun z => hb (by simp [z])) q)) hf (Nat.le_refl _) new
    refine ⟨.ref s.heap.objs.size, _, I1, rfl, ⟨_, x, rfl, I.hok.fresh (Nat.le_refl _), rfl, fun ys hy => by rw [I.tuple_inj hy hq]; exact hx⟩, ⟨⟨y, ?_⟩, hst.1.at fun o q => (sb.2 it (Ne.symm hne)).trans q, hne⟩, fun b hb => ?_⟩
    · rw [show ((i + 1 : Nat) : Int) = (i : Int) + 1 by omega]
      exact he'
    · have hb' : b < s.heap.objs.size := by
        rcases (show b = e ∨ b = it by simpa using hb) with z | z
        · rw [z]; exact hel
        · rw [z]; exact hil
      rw [upd_ne (Nat.ne_of_lt hb')]
      exact (hf b hb).1
  done := by
    intro X hP hw hK hc i pins s σ H E I hf st hg
    subst hP hw hK
    obtain ⟨⟨old, he⟩, hit, hne⟩ := st
    obtain ⟨xs, hq, hx⟩ := hg
    obtain ⟨its, rv, p, hz⟩ := I.tuple hq
    obtain ⟨f0, f1, f2, f3, f4, f5⟩ := hf it (by simp)
    have hl := rv.length
    exact enumT_end (A := X.A) (I.ok.hd hc) he hit p (by simp; omega) fun h' eb => ⟨rfl, I.turned (t' := s.toks) (fun b o hb q => eb b o hb q) f0 f1 f3 f4 f5⟩
  self := fun A i s Q E st h => let ⟨⟨_, he⟩, _⟩ := st; wpAny_pyIter_enum he h
/-- enumerate of a list or a tuple -/
def iEnA (K : PySem.W.Frag) (ta : TA) : TI := fun σ H R => ta σ H fun vs H1 => ∃ a, vs = [.ref a] ∧ ((∃ xs, H1 a = some (.lst xs) ∧ R (Ite K a) H1) ∨ ∃ xs, H1 a = some (.tup xs) ∧ R (ItET K a) H1)
variable {X : Cx} {Y : Fx}
theorem pi_enA {e : Expr} {ta : TA} {p pos tpos : Pos} {elts : List Expr} {kk : Nat} (hg : Gl X "enumerate") (hm : X.mg "enumerate" = none) (ha : PA X [e] ta) (hs : starEach [e] X.env = [(false, eval e X.env)] := by rfl) :
    PI X (.Tuple elts kk tpos) (.Call (.Name "enumerate" p) [e] [] pos) (iEnA X.K ta) := ⟨fun pins s σ H R I h => by
  refine Call_ (ld_blt I hg hm boot_enumerate (PyProof.Rows.callWith_type1 (thn (ha.run pos pins s σ H _ I h) fun us s1 ⟨vs, H1, I1, r1, a, ex, q⟩ => ?_) hs rfl))
  subst ex
  cases r1 with
  | cons r rr =>
    cases rr
    cases r
    have fresh : ∀ b ∈ [s1.heap.objs.size + 1, s1.heap.objs.size], FpOk X pins H1 b := fun b hb => by
      have hle : s1.heap.objs.size ≤ b := by
        rcases (show b = s1.heap.objs.size + 1 ∨ b = s1.heap.objs.size by simpa using hb) with z | z <;> omega
      exact I1.fpOk hle (I1.hok.fresh hle)
    rcases q with ⟨xs, hq, q⟩ | ⟨xs, hq, q⟩
    · obtain ⟨its, rv, p', hz⟩ := I1.list (SqL.of hq)
      refine call_enumerate_list p'.isList fun h' he hit hsz hk => wpAny_pyIter_enum he ?_
      exact ⟨s1.heap.objs.size + 1, [s1.heap.objs.size + 1, s1.heap.objs.size], _, _, H1, rfl, I1.kept (t' := s1.toks) hk, turn_enum a (s1.heap.objs.size + 1) s1.heap.objs.size, ⟨⟨.none, he⟩, hit, Nat.succ_ne_self _⟩, fresh, q⟩
    · obtain ⟨its, rv, p', hz⟩ := I1.tuple (SqT.of hq)
      obtain ⟨ol, hol, _⟩ := id (show s1.heap.IsTuple a its.toArray from p')
      have hlt := Heap.lt_size hol
      refine call_enumT (show s1.heap.IsTuple a its.toArray from p') fun h' he hit hk => wpAny_pyIter_enum he ?_
      exact ⟨s1.heap.objs.size + 1, [s1.heap.objs.size + 1, s1.heap.objs.size], _, _, H1, rfl, I1.kept (t' := s1.toks) hk, turn_enumT a (s1.heap.objs.size + 1) s1.heap.objs.size (Nat.ne_of_lt hlt) (Nat.ne_of_lt (Nat.lt_succ_of_lt hlt)), ⟨⟨.none, he⟩, hit, Nat.succ_ne_self _⟩, fresh, q⟩⟩
theorem itOk_enT {K : PySem.W.Frag} {F : Hp} {a : Addr} {vs : List V} {ds : List PyData} (h : F a = some (.tup vs)) (r : Rps K F ds vs) : ItOk K (ItET K a) F (enumD ds) where
  go := fun i H s hi => by
    rw [enumD_length] at hi
    exact ⟨vs, vs[i]'(by rw [← r.length]; exact hi), SqT.of (s _ _ h), by simp⟩
  stop := fun i H s hi => ⟨vs, SqT.of (s _ _ h), by rw [← r.length, ← enumD_length]; exact hi⟩
  yld := fun i H v H' x ⟨T, y, e1, e2, e3, e4⟩ s hx => by
    obtain ⟨d, q1, q2⟩ := enumD_get hx
    obtain ⟨w, q3, q4⟩ := r.get q1
    rw [e4 vs (SqT.of (s _ _ h))] at q3; cases q3
    exact .inr ⟨T, _, _, e1, e2, e3, q2, rps_cons (by simp [Rp]) (rps_cons q4 rps_nil)⟩
def dEnA (t : DTA) : DSrc := fun ρ n R => t ρ n fun xs n' => ∃ d ds, xs = [.dat d] ∧ seqD d = some ds ∧ R (enumD ds) n'
theorem di_enumA {e : Expr} {t : DTA} {p pos tpos : Pos} {elts : List Expr} {kk : Nat} (hg : Gl X "enumerate") (hm : X.mg "enumerate" = none) (ha : WA Y X [e] t) (hs : starEach [e] X.env = [(false, eval e X.env)] := by rfl) :
    DI Y X (.Tuple elts kk tpos) (.Call (.Name "enumerate" p) [e] [] pos) (dEnA t) :=
  pi_imp (pi_enA hg hm ha hs) fun σ H R ⟨Z, F, ρ, n, Q, r, ht, k⟩ => ⟨Z, F, ρ, n, _, r, ht, fun xs n1 F1 H1 vs ⟨d, ds, e, e2, hx⟩ g1 s1 d1 w1 => by
    subst e
    obtain ⟨v, rfl, w2⟩ := vr1 w1
    have w3 : Rp X.K F1 d v := w2
    cases d with
    | list es =>
      cases e2
      simp only [Rp] at w3
      obtain ⟨a, vs, rfl, h1, h2⟩ := w3
      exact ⟨a, rfl, .inl ⟨vs, s1 _ _ h1, k _ _ _ _ _ hx g1 s1 d1 (itOk_enum h1 h2)⟩⟩
    | tuple es =>
      cases e2
      simp only [Rp] at w3
      obtain ⟨a, vs, rfl, h1, h2⟩ := w3
      exact ⟨a, rfl, .inr ⟨vs, s1 _ _ h1, k _ _ _ _ _ hx g1 s1 d1 (itOk_enT h1 h2)⟩⟩
    | _ => cases e2⟩
end DL
namespace DL
open PySem PySem.Spec PyProof.Rows L2
variable {X : Cx} {Y : Fx}
/-! ### while -/
def dWhile (c : DTT) (b : DTS) : DTS := fun E ρ n => ∃ W : Nat → Rho → Wo → Prop, (∃ m, W m ρ n) ∧ ∀ m ρ' n', W m ρ' n' → c ρ' n' fun q n1 =>
  if q = true then b { E with nx := fun ρ2 n2 => ∃ m', m' < m ∧ W m' ρ2 n2, ct := fun ρ2 n2 => ∃ m', m' < m ∧ W m' ρ2 n2, bk := E.nx } ρ' n1 else E.nx ρ' n1
theorem ds_while {c : Expr} {body : List Stmt} {tc : DTT} {b : DTS} {pos : Pos} (hp : PassesOwn (model X.prog X.w) X.A X.env X.xe) (hc : WT Y X c tc) (hb : DSs Y X body b) : DS Y X (.While c body [] pos) (dWhile tc b) :=
  ps_imp (ps_while hp hc hb) fun D σ H ⟨Z, F, ρ, n, E, r, ⟨W, ⟨m0, w0⟩, hW⟩, k⟩ =>
    ⟨fun m σ H => ∃ F' ρ' n', SR Y X.K { Z with F0 := F } F' H σ ρ' n' ∧ W m ρ' n', ⟨m0, F, ρ, n, r.base, w0⟩, fun m σ2 H2 ⟨F2, ρ2, n2, r2, h2⟩ =>
      ⟨{ Z with F0 := F }, F2, ρ2, n2, _, r2, hW m ρ2 n2 h2, fun q n3 F3 H3 hx g3 s3 d3 => by
        have r3 := r2.step g3 s3 d3
        cases q with
        | true =>
          rw [if_pos rfl] at hx
          exact iteT ⟨fun σ' H' => ∃ m', m' < m ∧ ∃ F' ρ' n', SR Y X.K { Z with F0 := F } F' H' σ' ρ' n' ∧ W m' ρ' n', fun σ' H' z => z, { Z with F0 := F }, F3, ρ2, n3, _, r3, hx,
            ⟨fun F5 H5 σ5 ρ5 n5 ⟨m', lt, z⟩ r5 => ⟨m', lt, F5, ρ5, n5, r5, z⟩, fun d n5 F5 H5 v5 z b5 => k.rt _ _ _ _ _ z (r.b.back b5), fun F5 H5 σ5 ρ5 n5 z r5 => k.nx _ _ _ _ _ z (SR.back r.b r5), fun F5 H5 σ5 ρ5 n5 ⟨m', lt, z⟩ r5 => ⟨m', lt, F5, ρ5, n5, r5, z⟩⟩⟩
        | false =>
          rw [if_neg Bool.false_ne_true] at hx
          exact iteF (k.nx _ _ _ _ _ hx (SR.back r.b r3))⟩⟩
/-! ### x = x + (own.pop(e),) -/
theorem Rps.erase {K : PySem.W.Frag} {F : Hp} : ∀ {ds : List PyData} {vs : List V} (j : Nat), Rps K F ds vs → Rps K F (ds.eraseIdx j) (vs.eraseIdx j)
  | [], _, _, h => by simp only [Rps] at h; subst h; simp [Rps]
  | d :: ds, _, 0, h => by
    simp only [Rps] at h
    obtain ⟨v, r, rfl, h1, h2⟩ := h
    exact h2
  | d :: ds, _, j + 1, h => by
    simp only [Rps] at h
    obtain ⟨v, r, rfl, h1, h2⟩ := h
    exact rps_cons h1 (Rps.erase j h2)
def dPopCat (i j : Nat) (t : DTE) : DTS := fun E ρ n => ∃ xs ds, ρ[i]? = some (some (.dat (.tuple xs))) ∧ ρ[j]? = some (some (.mt ds)) ∧ t ρ n fun x n' => ∃ (z : Int) (k : Nat) (d : PyData), x = .dat (.int z) ∧ (-(2 ^ 63) ≤ z ∧ z < 2 ^ 63) ∧ seqIndex? z ds.length = some k ∧ ds[k]? = some d ∧ xs.length + 1 ≤ sizeLine ∧
  E.nx ((ρ.set j (some (.mt (ds.eraseIdx k)))).set i (some (.dat (.tuple (xs ++ [d]))))) n'
theorem seqIx {z : Int} {n : Nat} (h0 : 0 ≤ z) (h1 : z < n) : seqIndex? z n = some z.toNat := by
  unfold seqIndex?
  have e : ¬ z < 0 := by omega
  simp only [e, if_false]
  rw [if_pos (by simp; exact ⟨h0, h1⟩)]
theorem ds_popCat {i j : Nat} {x : Str} {a o e : Expr} {t : DTE} {pos pos' apos cpos p1 p2 : Pos} {kk : Nat} (hij : i ≠ j) (hN : X.N.Nodup) (hi : X.N[i]? = some x) (hx : Loc X.env.scope x) (hv : PE X a (tVar i)) (ho : PE X o (tVar j)) (he : WE Y X e t)
    (hbase : attributeBase o "pop" X.env (eval o X.env) = eval o X.env := by rfl)
    (hfew : ((backTo cpos (starEach [e] X.env)).all (fun x => !x.1) && (backToKw cpos (keywordEach [] X.env)).all (fun x => x.1.isSome)
      && decide (([e] : List Expr).length + ([] : List Keyword).length + (if ([] : List Keyword).isEmpty then 0 else 1) < 30)) = true := by rfl)
    (hline : (apos.endLine == cpos.line) = true := by rfl) (hst : starEach [e] X.env = (false, eval e X.env) :: starEach [] X.env := by rfl) (hplain : (backTo cpos (starEach [] X.env)).any (·.1) = false := by rfl)
    (hst2 : starEach [.Call (.Attribute o "pop" apos) [e] [] cpos] X.env = (false, eval (.Call (.Attribute o "pop" apos) [e] [] cpos) X.env) :: starEach [] X.env := by rfl)
    (hs : swapsWith (.BinOp a .Add (.Tuple [.Call (.Attribute o "pop" apos) [e] [] cpos] kk p1) p2) (some (.Name x pos')) pos.line X.env = pure false := by rfl)
    (hf : X.fn x = true ∨ X.env.scope.names.lookup x = some .local := by first | exact .inl rfl | exact .inr rfl | assumption) :
    DS Y X (.Assign [.Name x pos'] (.BinOp a .Add (.Tuple [.Call (.Attribute o "pop" apos) [e] [] cpos] kk p1) p2) pos) (dPopCat i j t) :=
  ps_imp (ps_set hN hi hx (pe_op or_addA hv (pe_tup (pa_cons (pe_bm PySem.F.plainAttrs_list PySem.F.slot_list_pop PySem.F.type_list_pop mt_popAt ho (pa_cons he pa_nil hst) hbase hfew hline hst hplain) pa_nil hst2))) hs hf) fun D σ H ⟨Z, F, ρ, n, E, r, ⟨xs, ds, e1, e2, ht⟩, k⟩ => by
    obtain ⟨v, q1, w1⟩ := r.slot i _ e1
    replace w1 : Rp X.K F (.tuple xs) v := w1
    simp only [Rp] at w1
    obtain ⟨b, us, rfl, h1, h2⟩ := w1
    obtain ⟨a, vs, q2, q3, q4⟩ := r.own e2
    refine ⟨_, q1, _, q2, .inl ⟨rfl, vs, SqL.of q3⟩, Z, F, ρ, n, _, r, ht, fun x n1 F1 H1 u hx g1 s1 d1 wx => ?_⟩
    obtain ⟨z, kk, d, rfl, hz, hk, hd, hl, hx⟩ := hx
    have r1 := r.step g1 s1 d1
    obtain ⟨a', vs', q5, q6, q7⟩ := r1.own e2
    rw [q2] at q5; cases q5
    obtain ⟨y, hy, ry⟩ := q7.get hd
    simp only [VR, Rp] at wx
    subst wx
    refine ⟨a, vs', z, kk, y, rfl, rfl, q6, hz.1, hz.2, by rw [← q7.length]; exact hk, hy, ?_⟩
    have r2 := r1.mut e2 q2 (q7.erase kk)
    refine ⟨by show 1 ≤ sizeLine; decide, fun p hp => ?_⟩
    obtain ⟨g3, s3⟩ := Gp.new (o := .tup [y]) hp r2.b.sub
    have r3 := r2.step g3.gr s3 (g3.dk r2.b)
    have hus : Rps X.K F1 xs us := Rps.mono g1.sF xs us h2
    refine .inl (.inr ⟨b, p, us, [y], rfl, rfl, SqT.of (s3 _ _ (g3.sF _ _ (g1.sF _ _ h1))), SqT.of upd_same, by rw [← h2.length]; exact hl, fun eu => ?_, fun _ eu => (by cases eu), fun _ _ q hq => ?_⟩)
    · subst eu
      have ex : xs = [] := List.eq_nil_of_length_eq_zero (by rw [h2.length]; rfl)
      subst ex
      exact k.nx _ _ _ _ _ hx (r3.setD i (by simp only [Rp, List.nil_append]; exact ⟨p, [y], rfl, upd_same, rps_cons (Rp.mono g3.sF d y ry) rps_nil⟩))
    · obtain ⟨g4, s4⟩ := Gp.new (o := .tup (us ++ [y])) hq s3
      have r4 := r3.step g4.gr s4 (g4.dk r3.b)
      exact k.nx _ _ _ _ _ hx (r4.setD i (by simp only [Rp]; exact ⟨q, us ++ [y], rfl, upd_same, Rps.mono (g3.sF.trans g4.sF) _ _ (hus.append (rps_cons ry rps_nil))⟩))
/-! ### sorted of pairs of ints -/
def prD (p : Int × Int) : PyData := .tuple [.int p.1, .int p.2]
def oSortP : DCM := fun xs R => ∃ x, ∃ ps : List (Int × Int), xs = [x] ∧ x.toD = .list (ps.map prD) ∧ ∀ qs : List (Int × Int), qs.Perm ps → qs.Pairwise (fun p q => p.1 < q.1 ∨ (p.1 = q.1 ∧ p.2 ≤ q.2)) → R (qs.map prD)
def keyV (F : Hp) (x : V) : Int × Int := match x with
  | .ref t => match F t with
    | some (.tup [.int a, .int b]) => (a, b)
    | _ => (0, 0)
  | _ => (0, 0)
theorem key_of {K : PySem.W.Frag} {F : Hp} {p : Int × Int} {v : V} (h : Rp K F (prD p) v) : ∃ t, v = .ref t ∧ F t = some (.tup [.int p.1, .int p.2]) ∧ keyV F v = p := by
  unfold prD at h
  simp only [Rp] at h
  obtain ⟨a, xs, rfl, h1, h2⟩ := h
  obtain ⟨u, w, rfl, h3, h4⟩ := rps2 h2
  simp only [Rp] at h3 h4
  subst h3 h4
  exact ⟨a, rfl, h1, by
    show (match F a with | some (.tup [.int x, .int y]) => (x, y) | _ => (0, 0)) = p
    rw [h1]⟩
theorem keys_of {K : PySem.W.Frag} {F : Hp} : ∀ {ps : List (Int × Int)} {vs : List V}, Rps K F (ps.map prD) vs → vs.map (keyV F) = ps ∧ ∀ v ∈ vs, Rp K F (prD (keyV F v)) v
  | [], _, h => by simp only [List.map_nil, Rps] at h; subst h; exact ⟨rfl, fun _ z => (nomatch z)⟩
  | p :: ps, _, h => by
    simp only [List.map_cons, Rps] at h
    obtain ⟨v, r, rfl, h1, h2⟩ := h
    obtain ⟨_, _, _, e⟩ := key_of h1
    obtain ⟨i1, i2⟩ := keys_of h2
    refine ⟨by rw [List.map_cons, e, i1], fun u hu => ?_⟩
    rcases List.mem_cons.mp hu with rfl | hu
    · rw [e]; exact h1
    · exact i2 u hu
theorem rps_keys {K : PySem.W.Frag} {F : Hp} : ∀ {vs : List V}, (∀ v ∈ vs, Rp K F (prD (keyV F v)) v) → Rps K F ((vs.map (keyV F)).map prD) vs
  | [], _ => rps_nil
  | v :: vs, h => rps_cons (h v (by simp)) (rps_keys fun u hu => h u (by simp [hu]))
theorem ck_sortP {K : PySem.W.Frag} : CallOkM K (rSortedPO K) oSortP := fun δ F H xs vs R Q hs hv ⟨x, ps, e, e2, hr⟩ b => by
  subst e
  obtain ⟨v, rfl, h1⟩ := vr1 hv
  obtain ⟨a, us, rfl, h2, h3⟩ := h1.lst hs e2
  obtain ⟨k1, k2⟩ := keys_of h3
  refine ⟨a, us, keyV F, rfl, SqL.of h2, fun x hx => ?_, fun ys p hsd hst hp => ?_⟩
  · obtain ⟨t, e3, e4, e5⟩ := key_of (k2 x hx)
    exact ⟨t, e3, hs _ _ e4⟩
  · have hm : ∀ v ∈ ys, Rp K F (prD (keyV F v)) v := fun v hv => k2 v (hst.perm.mem_iff.mp hv)
    refine b ((ys.map (keyV F)).map prD) ys p (hr _ ?_ ?_) hp (rps_keys hm)
    · rw [← k1]; exact hst.perm.map _
    · rw [List.pairwise_map]
      refine List.Pairwise.imp (fun {u w} h => ?_) hsd
      have := SrtO.lexB_no.mp h
      omega
end DL
namespace DL
open PySem PySem.Spec PyProof.Rows L2
variable {X : Cx} {Y : Fx}
/-! ### a comprehension over what another may own -/
structure ItOkV (K : PySem.W.Frag) (δ : DkS) (J : It) (F1 H1 : Hp) (xs : List PyData) : Prop where
  go : ∀ (i : Nat) H, (∀ a o, a ∉ δ.own → H1 a = some o → isIns o = false → H a = some o) → Same F1 H → i < xs.length → J.go i H
  stop : ∀ (i : Nat) H, (∀ a o, a ∉ δ.own → H1 a = some o → isIns o = false → H a = some o) → Same F1 H → xs.length ≤ i → J.stop i H
  yld : ∀ (i : Nat) H v H' x, J.yld i H v H' → (∀ a o, a ∉ δ.own → H1 a = some o → isIns o = false → H a = some o) → ∀ F2, Same F1 F2 → Same F2 H → xs[i]? = some x → ∃ F3, Gp F2 H F3 H' ∧ Same F3 H' ∧ Rp K F3 x v
theorem ItOk.toV {K : PySem.W.Frag} {δ : DkS} {J : It} {F1 H1 : Hp} {xs : List PyData} (h : ItOk K J F1 xs) : ItOkV K δ J F1 H1 xs :=
  ⟨fun i H _ s q => h.go i H s q, fun i H _ s q => h.stop i H s q, fun i H v H' x hy _ F2 s1 s2 hx => h.use s1 s2 hy hx⟩
theorem itOkV_list {K : PySem.W.Frag} {δ : DkS} {F H1 : Hp} {a : Addr} {vs : List V} {ds : List PyData} (h : H1 a = some (.lst vs)) (na : a ∉ δ.own) (r : Rps K F ds vs) : ItOkV K δ (Itl K a) F H1 ds where
  go := fun i H k s hi => ⟨vs, vs[i]'(by rw [← r.length]; exact hi), SqL.of (k _ _ na h rfl), by simp⟩
  stop := fun i H k s hi => ⟨vs, SqL.of (k _ _ na h rfl), by rw [← r.length]; exact hi⟩
  yld := fun i H v H' x ⟨e, y⟩ k F2 s1 s2 hx => by
    have h1 := y vs (SqL.of (k _ _ na h rfl))
    obtain ⟨w, e1, e2⟩ := r.get hx
    rw [h1] at e1; cases e1
    subst e
    exact ⟨F2, Gp.refl, s2, Rp.mono s1 x v e2⟩
def upIv (Y : Fx) (K : PySem.W.Frag) (t : DSrc) : TI := fun σ H R => ∃ Z F ρ n Q, SR Y K Z F H σ ρ n ∧ t ρ n Q ∧
  ∀ xs n' F' H' J, Q xs n' → Gr Z.δ F H F' H' → Same F' H' → Z.δ.at_ K F' H' n' → ItOkV K Z.δ J F' H' xs → R J H'
abbrev DIv (Y : Fx) (X : Cx) (tg iter : Expr) (t : DSrc) : Prop := PI X tg iter (upIv Y X.K t)
theorem div_of {tg iter : Expr} {t : DSrc} (h : DI Y X tg iter t) : DIv Y X tg iter t := pi_imp h fun σ H R ⟨Z, F, ρ, n, Q, r, ht, k⟩ => ⟨Z, F, ρ, n, Q, r, ht, fun xs n' F' H' J q g s d w => k xs n' F' H' J q g s d w.toV⟩
def dSrcV (t : DTE) : DSrc := fun ρ n R => t ρ n fun x n' => ∃ ds, seqD x.toD = some ds ∧ R ds n'
theorem di_seqV {tg e : Expr} {t : DTE} (he : WE Y X e t) : DIv Y X tg e (dSrcV t) := pi_imp (pi_seq he) fun σ H R ⟨Z, F, ρ, n, Q, r, ht, k⟩ =>
  ⟨Z, F, ρ, n, _, r, ht, fun x n1 F1 H1 v ⟨ds, e, hx⟩ g1 s1 d1 w1 => by
    cases x with
    | dat d =>
      cases d with
      | list es =>
        cases e
        simp only [VR, Rp] at w1
        obtain ⟨a, vs, rfl, h1, h2⟩ := w1
        exact ⟨a, rfl, .inl ⟨vs, s1 _ _ h1, k _ _ _ _ _ hx g1 s1 d1 (itOk_list h1 h2).toV⟩⟩
      | tuple es =>
        cases e
        simp only [VR, Rp] at w1
        obtain ⟨a, vs, rfl, h1, h2⟩ := w1
        exact ⟨a, rfl, .inr ⟨vs, s1 _ _ h1, k _ _ _ _ _ hx g1 s1 d1 (itOk_tup h1 h2).toV⟩⟩
      | _ => cases e
    | vw es =>
      cases e
      obtain ⟨a, vs, rfl, h1, h2, h3⟩ := w1
      exact ⟨a, rfl, .inl ⟨vs, h1, k _ _ _ _ _ hx g1 s1 d1 (itOkV_list h1 h3 h2)⟩⟩
    | mt es => exact w1.elim
    | deck b => cases e
    | md _ _ => exact w1.elim⟩
theorem comp_imv {K : PySem.W.Frag} {s : DSrc} {t : TG} {g : DTG} {sl : List Nat} {tt : DTT} {te : DTE} {vs : List Nat} (hg : GOk K t g sl) (hv : ∀ i ∈ sl, i ∈ vs) : ∀ σ H Q, upM Y K (mComp s g tt te vs) σ H Q → tLc (upIv Y K s) t (upT Y K tt) (up Y K te) vs σ H Q :=
  fun σ H Q ⟨Z, F, ρ, n, R, r, ht, k⟩ => ⟨Z, F, ρ, n, _, r, ht, fun xs n1 F1 H1 J ⟨⟨I, h0, hstep, hend⟩⟩ g1 s1 d1 w1 => by
    have r1 := r.step g1 s1 d1
    intro D hD
    have hD0 : H D = none := by
      cases e : H D with
      | none => rfl
      | some o => exact absurd hD (g1.dH D (by rw [e]; nofun))
    have nD : D ∉ Z.δ.own := fun q => (r1.b.dkF D q).2 hD
    refine ⟨fun i m H2 => m = xs.length - i ∧ i ≤ xs.length ∧ ∃ F2 acc n2 us, Gr Z.δ F1 H1 F2 H2 ∧ Same F2 H2 ∧ Z.δ.at_ K F2 H2 n2 ∧ F2 D = none ∧ H2 D = some (.lst us) ∧ Rps K F2 acc us ∧ I i acc n2, ⟨xs.length, by simp, Nat.zero_le _, ?_⟩, ?_⟩
    · obtain ⟨g2, s2⟩ := Gp.newM (o := .lst []) hD s1
      exact ⟨F1, [], n1, [], g2.gr, s2, g2.dk r1.b, s1.free hD, upd_same, rps_nil, h0⟩
    · rintro i m H2 ⟨rfl, hi, F2, acc, n2, us, g2, s2, d2, f2, hD2, ra, h2⟩
      by_cases hlt : i < xs.length
      · refine .inr ⟨w1.go i H2 g2.kH (g2.sF.trans s2) hlt, fun H' => ∃ F2 acc n2 us, Gr Z.δ F1 H1 F2 H' ∧ Same F2 H' ∧ Z.δ.at_ K F2 H' n2 ∧ F2 D = none ∧ H' D = some (.lst us) ∧ Rps K F2 acc us ∧ I (i + 1) acc n2, fun H' q => ⟨xs.length - (i + 1), by omega, rfl, hlt, q⟩, fun v H3 hy => ?_⟩
        obtain ⟨x, hx⟩ : ∃ x, xs[i]? = some x := ⟨xs[i], by simp [hlt]⟩
        obtain ⟨F3, g3, s3, r3⟩ := w1.yld i H2 v H3 x hy g2.kH F2 g2.sF s2 hx
        have gg3 := g2.trans (g3.gr (δ := Z.δ))
        have r2 := (r1.step g2 s2 d2)
        have d3 := g3.dk r2.b
        have rw3 := (r1.step gg3 s3 d3).wipe vs
        have hD3 : H3 D = some (.lst us) := g3.sH _ _ hD2
        have f3 : F3 D = none := g3.nF D (by rw [hD2]; nofun) f2
        refine hg.im _ _ _ _ _ _ _ _ _ _ _ rw3 r3 (hstep i x acc n2 hx h2) fun σ4 ρ4 h4 r4 hw => ⟨by rw [hw vs hv, wipe_idem], ?_⟩
        refine ⟨Z, F3, ρ4, n2, _, r4, h4, fun b m5 F5 H5 h5 g5 s5 d5 => ?_⟩
        have hD5 : H5 D = some (.lst us) := g5.kH _ _ nD hD3 rfl
        have f5 : F5 D = none := g5.nF D (by rw [hD3]; nofun) f3
        have ra5 : Rps K F5 acc us := Rps.mono (g3.sF.trans g5.sF) acc us ra
        cases b with
        | false => exact ⟨F5, acc, m5, us, gg3.trans g5, s5, d5, f5, hD5, ra5, h5⟩
        | true =>
          refine ⟨Z, F5, ρ4, m5, _, r4.step g5 s5 d5, h5, fun y m6 F6 H6 v6 h6 g6 s6 d6 w6 => ?_⟩
          obtain ⟨d, rfl, hl, h6⟩ := needD_is h6
          have hD6 : H6 D = some (.lst us) := g6.kH _ _ nD hD5 rfl
          have f6 : F6 D = none := g6.nF D (by rw [hD5]; nofun) f5
          have ra6 : Rps K F6 acc us := Rps.mono g6.sF acc us ra5
          refine ⟨us, hD6, by rw [← ra.length]; exact hl, F6, acc ++ [d], m6, us ++ [v6], ?_, ?_, ?_, f6, upd_same, ra6.append (rps_cons w6 rps_nil), h6⟩
          · have gg6 := (gg3.trans g5).trans g6
            exact gg6.chg hD
          · exact fun a o e => by rw [upd_ne (ne_of_none e f6)]; exact s6 _ _ e
          · exact d6.chg nD hD6 rfl
      · have e : i = xs.length := by omega
        subst e
        exact .inl ⟨w1.stop _ H2 g2.kH (g2.sF.trans s2) (Nat.le_refl _), k _ _ _ _ _ _ (hend _ _ h2) (g1.trans g2) s2 d2 hD0 f2 hD2 ra⟩⟩
theorem me_compV {elt tg iter : Expr} {ifs : List Expr} {scope : Scope} {own : List (Str × Nat)} {pos : Pos} {s : DSrc} {t : TG} {g : DTG} {sl : List Nat} {tt : DTT} {te : DTE} (hc : X.calm = true) (hN : X.N.Nodup) (hi : DIv Y X tg iter s) (ok : BlkOk X.N X.env.scope scope own)
    (hk : GOk X.K t g sl) (hg : ∀ (s : Shared) (H : Hp) (C : Addr) (cl : List (Str × Addr)) (fp : List Addr), PG (X.blk s H scope (compEnvC scope cl C X.env) fp) tg t) (ht : ∀ (s : Shared) (H : Hp) (C : Addr) (cl : List (Str × Addr)) (fp : List Addr), WTs Y (X.blk s H scope (compEnvC scope cl C X.env) fp) ifs tt)
    (he : ∀ (s : Shared) (H : Hp) (C : Addr) (cl : List (Str × Addr)) (fp : List Addr), WE Y (X.blk s H scope (compEnvC scope cl C X.env) fp) elt te) (hv : ∀ i ∈ sl, i ∈ own.map (·.2)) (hs : ∀ x, foldedSetIterable iter X.env x = pure x := by intro _; rfl) :
    ME Y X (.ListComp elt [⟨tg, iter, ifs, 0⟩] scope pos) (mComp s g tt te (own.map (·.2))) :=
  pe_imp (pe_lc hc hN hi ok hg ht he hs) (comp_imv hk hv)
/-- name = [..] on one line -/
theorem ds_setLcV {i : Nat} {y : Str} {py : Pos} {elt tg iter : Expr} {ifs : List Expr} {scope : Scope} {own : List (Str × Nat)} {pos spos : Pos} {s : DSrc} {t : TG} {g : DTG} {sl : List Nat} {tt : DTT} {te : DTE} {u : DTE} (hc : X.calm = true) (hN : X.N.Nodup) (hy : X.N[i]? = some y) (hyl : X.env.scope.names.lookup y = some .local)
    (hsw : swapsWith (.ListComp elt [⟨tg, iter, ifs, 0⟩] scope pos) (some (.Name y py)) spos.line X.env = pure true) (hi : DIv Y X tg iter s) (ok : BlkOk X.N X.env.scope scope own)
    (hk : GOk X.K t g sl) (hg : ∀ (s : Shared) (H : Hp) (C : Addr) (cl : List (Str × Addr)) (fp : List Addr), PG (X.blk s H scope (compEnvC scope cl C X.env) fp) tg t) (ht : ∀ (s : Shared) (H : Hp) (C : Addr) (cl : List (Str × Addr)) (fp : List Addr), WTs Y (X.blk s H scope (compEnvC scope cl C X.env) fp) ifs tt)
    (he : ∀ (s : Shared) (H : Hp) (C : Addr) (cl : List (Str × Addr)) (fp : List Addr), WE Y (X.blk s H scope (compEnvC scope cl C X.env) fp) elt te) (hv : ∀ i ∈ sl, i ∈ own.map (·.2))
    (hu : ∀ σ H Q, upX Y X.K u σ H Q → upM Y X.K (mComp s g tt te (own.map (·.2))) σ H Q) (hs : ∀ x, foldedSetIterable iter X.env x = pure x := by intro _; rfl) :
    DS Y X (.Assign [.Name y py] (.ListComp elt [⟨tg, iter, ifs, 0⟩] scope pos) spos) (dAsg i u) :=
  ps_imp (ps_setLc hc hN hy hyl hsw hi ok hg ht he hs) fun D σ H h => by
    have h2 := asg_im D σ H h
    exact comp_imv hk hv _ _ _ (hu _ _ _ h2)
end DL
namespace DL
open PySem PySem.Spec PyProof.Rows L2
variable {X : Cx} {Y : Fx}
/-! ### dicts of one's own, of plain values under ints -/
def basV : PyData → V
  | .bool b => .bl b
  | .int i => .int i
  | _ => .non
def isBas : PyData → Bool
  | .bool _ => true
  | .int _ => true
  | _ => false
theorem rp_bas {K : PySem.W.Frag} {F : Hp} {d : PyData} (h : isBas d = true) : Rp K F d (basV d) := by
  cases d <;> first | (cases h; done) | simp [Rp, basV]
theorem bas_of {K : PySem.W.Frag} {F : Hp} {d : PyData} {v : V} (h : isBas d = true) (r : Rp K F d v) : v = basV d := by
  cases d <;> first | (cases h; done) | (simp only [Rp] at r; exact r)
def atMd (i : Nat) (ρ : Rho) (R : Addr → List (Key × V) → Prop) : Prop := ∃ a ks, ρ[i]? = some (some (.md a ks)) ∧ R a ks
/-- no other dict of one's own stands at a -/
def Lone (i : Nat) (a : Addr) (ρ : Rho) : Prop := ∀ (j : Nat) (b : Addr) (ks : List (Key × V)), j ≠ i → ρ[j]? = some (some (.md b ks)) → b ≠ a
theorem SR.mutD {K : PySem.W.Frag} {Y Z : Fx} {F H : Hp} {σ : L2.St} {ρ : Rho} {n : Wo} (r : SR Y K Z F H σ ρ n) {i : Nat} {a : Addr} {ks ks' : List (Key × V)} (e : ρ[i]? = some (some (.md a ks))) (hl : Lone i a ρ) :
    SR Y K Z F (upd H a (.dK ks')) σ (ρ.set i (some (.md a ks'))) n := by
  obtain ⟨v, q1, rfl, h0, hF, hH, na⟩ := r.slot i _ e
  have hi : i < ρ.length := (List.getElem?_eq_some_iff.mp e).1
  have hk : ∀ b o, b ≠ a → H b = some o → upd H a (.dK ks') b = some o := fun b o q h => by rw [upd_ne q]; exact h
  have nL : ∀ {b : Addr} {us : List V}, H b = some (.lst us) → b ≠ a := fun h q => by rw [q, hH] at h; cases h
  refine ⟨⟨fun b o q => hk b o (ne_of_none q hF) (r.b.sub _ _ q), r.b.dk.chg na hH rfl, fun b hb => ⟨(r.b.dkF b hb).1, by rw [upd_ne fun q => na (by rw [← q]; exact hb)]; exact (r.b.dkF b hb).2⟩, r.b.gF, r.b.gN, fun b o q1 q2 q3 => hk b o (ne_of_none q2 h0) (r.b.gH b o q1 q2 q3), fun b C dx fs q => by rw [upd_ne (ne_of_none q h0)]; exact r.b.gI b C dx fs q⟩, r.de, r.he, r.gr.chg (by rw [← r.he]; exact h0), by simp [r.len], fun j y q => ?_, fun j l b ds y hjl e1 e2 e3 hy e4 => ?_⟩
  · by_cases z : i = j
    · subst z
      rw [List.getElem?_set_self hi] at q
      cases q
      exact ⟨_, q1, rfl, h0, hF, upd_same, na⟩
    · rw [List.getElem?_set_ne z] at q
      obtain ⟨w, w1, w2⟩ := r.slot j y q
      refine ⟨w, w1, ?_⟩
      cases y with
      | dat d => exact w2
      | vw es =>
        obtain ⟨b, us, rfl, p1, p2, p3⟩ := w2
        exact ⟨b, us, rfl, hk b _ (nL p1) p1, p2, p3⟩
      | mt es =>
        obtain ⟨b, us, rfl, p1, p2, p3, p4, p5⟩ := w2
        exact ⟨b, us, rfl, p1, p2, hk b _ (nL p3) p3, p4, p5⟩
      | deck _ => exact w2
      | md b ks2 =>
        obtain ⟨p0, p1, p2, p3, p4⟩ := w2
        exact ⟨p0, p1, p2, hk b _ (hl j b ks2 (Ne.symm z) q) p3, p4⟩
  · have old : ∀ (m : Nat) (x : Dv), (ρ.set i (some (.md a ks')))[m]? = some (some x) → x.isL = true → ρ[m]? = some (some x) := fun m x q hx => by
      by_cases z : i = m
      · subst z
        rw [List.getElem?_set_self hi] at q
        cases q
        simp [Dv.isL] at hx
      · rwa [List.getElem?_set_ne z] at q
    exact r.apart j l b ds y hjl (old j _ e1 rfl) e2 (old l _ e3 hy) hy e4
/-- own[e] -/
def dGetK (i : Nat) (t : DTE) : DTE := fun ρ n R => atMd i ρ fun a ks => t ρ n fun x n' => ∃ (k : Int) (d : PyData), x = .dat (.int k) ∧ isBas d = true ∧ valV ks (.inl k) = some (basV d) ∧ R (.dat d) n'
theorem we_dget {i : Nat} {o e : Expr} {t : DTE} {pos : Pos} (hu : X.A.units + 1 < cLine) (ho : PE X o (tVar i)) (he : WE Y X e t) (hs : NoSl e) : WE Y X (.Subscript o e pos) (dGetK i t) :=
  pe_imp (pe_dget hu ho he hs) fun σ H Q ⟨Z, F, ρ, n, R, r, ⟨a, ks, e0, ht⟩, k⟩ => by
    obtain ⟨v, q1, rfl, q3, q4, q5, q6⟩ := r.slot i _ e0
    refine ⟨_, q1, Z, F, ρ, n, _, r, ht, fun x n1 F1 H1 u hx g1 s1 d1 w1 => ?_⟩
    obtain ⟨kk, d, rfl, hb, hv, hx⟩ := hx
    simp only [VR, Rp] at w1
    subst w1
    have g := DGet.k (k := Sum.inl kk) (g1.kH _ _ q6 q5 rfl)
    rw [hv] at g
    exact ⟨a, basV d, rfl, g, k _ _ _ _ _ hx g1 s1 d1 (rp_bas hb)⟩
/-- own[i] = e -/
def dPutK (i : Nat) (t u : DTE) : DTS := fun E ρ n => t ρ n fun x n1 => atMd i ρ fun a ks => u ρ n1 fun y n2 => ∃ (k : Int) (d : PyData), x = .dat d ∧ y = .dat (.int k) ∧ isBas d = true ∧ ks.length < sizeLine ∧ Lone i a ρ ∧ E.nx (ρ.set i (some (.md a (putK ks (.inl k) (basV d))))) n2
theorem ds_dput {i : Nat} {o ix e : Expr} {t u : DTE} {pos pos' : Pos} (hu : X.A.units + 1 < cLine) (ho : PE X o (tVar i)) (hx : WE Y X ix u) (he : WE Y X e t) (hs : swapsWith e (some (.Subscript o ix pos')) pos.line X.env = pure false := by rfl) :
    DS Y X (.Assign [.Subscript o ix pos'] e pos) (dPutK i t u) :=
  ps_imp (ps_dput hu ho hx he hs) fun D σ H ⟨Z, F, ρ, n, E, r, ht, k⟩ => ⟨Z, F, ρ, n, _, r, ht, fun x n1 F1 H1 v ⟨a, ks, e0, hy⟩ g1 s1 d1 w1 => by
    have r1 := r.step g1 s1 d1
    obtain ⟨v0, q1, rfl, q3, q4, q5, q6⟩ := r1.slot i _ e0
    refine ⟨_, q1, Z, F1, ρ, n1, _, r1, hy, fun y n2 F2 H2 v2 hz g2 s2 d2 w2 => ?_⟩
    obtain ⟨kk, d, rfl, rfl, hb, hl, hlo, hx⟩ := hz
    simp only [VR, Rp] at w2
    subst w2
    have r2 := r1.step g2 s2 d2
    have ev : v = basV d := bas_of hb w1
    subst ev
    exact ⟨a, _, rfl, DPut.k (k := Sum.inl kk) (g2.kH _ _ q6 q5 rfl) hl, k.nx _ _ _ _ _ hx (r2.mutD e0 hlo)⟩⟩
/-- e not in own -/
def dNotK (i : Nat) (t : DTE) : DTE := fun ρ n R => t ρ n fun x n' => ∃ k : Int, x = .dat (.int k) ∧ atMd i ρ fun a ks => R (.dat (.bool (!(valV ks (.inl k)).isSome))) n'
theorem dnot_im {K : PySem.W.Frag} {i : Nat} {t : DTE} : ∀ σ H Q, up Y K (dNotK i t) σ H Q → tDNotIn (up Y K t) (tVar i) σ H Q := fun σ H Q ⟨Z, F, ρ, n, R, r, ht, k⟩ =>
  ⟨Z, F, ρ, n, _, r, ht, fun x n1 F1 H1 v ⟨kk, e, a, ks, e0, hx⟩ g1 s1 d1 w1 => by
    subst e
    simp only [VR, Rp] at w1
    subst w1
    have r1 := r.step g1 s1 d1
    obtain ⟨v0, q1, rfl, q3, q4, q5, q6⟩ := r1.slot i _ e0
    exact ⟨_, q1, a, _, rfl, DGet.k (k := Sum.inl kk) q5, k _ _ _ _ _ hx g1 s1 d1 (by simp [VR, Rp])⟩⟩
end DL
namespace DL
open PySem PySem.Spec PyProof.Rows L2
variable {X : Cx} {Y : Fx}
theorem wt_dnot {i : Nat} {o e : Expr} {t : DTE} {pos : Pos} (hu : X.A.units + 1 < cLine) (he : WE Y X e t) (ho : PE X o (tVar i)) (hm : behindInMarks .NotIn o = false := by rfl) : WT Y X (.Compare e [.NotIn] [o] pos) (dTst (dNotK i t)) :=
  pt_imp (pt_cmp (pc_dnotin hu he ho) hm) fun σ H Q ⟨Z, F, ρ, n, R, r, ht, k⟩ => dnot_im _ _ _ ⟨Z, F, ρ, n, _, r, ht, fun x n1 F1 H1 v ⟨c, e, hx⟩ g1 s1 d1 w1 => by
    subst e
    simp only [VR, Rp] at w1
    exact ⟨c, w1, k _ _ _ _ hx g1 s1 d1⟩⟩
def LoneL (a : Addr) : Rho → Prop
  | [] => True
  | x :: ρ => (∀ b ks, x = some (.md b ks) → b ≠ a) ∧ LoneL a ρ
theorem lone_at {a : Addr} : ∀ {ρ : Rho}, LoneL a ρ → ∀ (j : Nat) b ks, ρ[j]? = some (some (.md b ks)) → b ≠ a
  | [], _, _, _, _, e => by simp at e
  | x :: ρ, h, 0, b, ks, e => h.1 b ks (by simpa using e)
  | x :: ρ, h, j + 1, b, ks, e => lone_at h.2 j b ks (by simpa using e)
theorem lone_l {i : Nat} {a : Addr} {ρ : Rho} (h : LoneL a (ρ.set i none)) : Lone i a ρ := fun j b ks hj e => lone_at h j b ks (by rw [List.getElem?_set_ne (Ne.symm hj)]; exact e)
/-- a, b, c = e, {}, {} -/
def dPar3D (i j l : Nat) (t : DTE) : DTS := fun E ρ n => t ρ n fun x n' => needD x fun d => ∀ a b : Addr, a ≠ b → E.nx (((ρ.set i (some (.dat d))).set j (some (.md a []))).set l (some (.md b []))) n'
theorem ds_par3D {i j l : Nat} {x y z : Str} {e : Expr} {t : DTE} {px py pz pt pos pd1 pd2 : Pos} {kt k2 pt2} (hc : X.calm = true) (hij : i ≠ j) (hil : i ≠ l) (hjl : j ≠ l) (hp : PGs X [.Name x px, .Name y py, .Name z pz] (gCons (gName i) (gCons (gName j) (gCons (gName l) gNil)))) (he : WE Y X e t)
    (hw : swappedStores [.Tuple [.Name x px, .Name y py, .Name z pz] kt pt] (.Tuple [e, .Dict [] [] pd1, .Dict [] [] pd2] k2 pt2) X.env = pure none)
    (hs : swapsWithSole [.Tuple [.Name x px, .Name y py, .Name z pz] kt pt] (.Tuple [e, .Dict [] [] pd1, .Dict [] [] pd2] k2 pt2) pos.line X.env = pure false := by rfl)
    (hn : (assignEach [.Name x px, .Name y py, .Name z pz] X.env).length = 3 := by rfl) (hst : (assignEach [.Name x px, .Name y py, .Name z pz] X.env).findIdx? (·.1) = none := by rfl)
    (h0 : (assignEach [.Tuple [.Name x px, .Name y py, .Name z pz] kt pt] X.env).map (·.2) = [assign (.Tuple [.Name x px, .Name y py, .Name z pz] kt pt) X.env] := by rfl)
    (h1 : starEach [e, .Dict [] [] pd1, .Dict [] [] pd2] X.env = (false, eval e X.env) :: starEach [.Dict [] [] pd1, .Dict [] [] pd2] X.env := by rfl) (h2 : starEach [.Dict [] [] pd1, .Dict [] [] pd2] X.env = (false, eval (.Dict [] [] pd1) X.env) :: starEach [.Dict [] [] pd2] X.env := by rfl) (h3 : starEach [.Dict [] [] pd2] X.env = (false, eval (.Dict [] [] pd2) X.env) :: starEach [] X.env := by rfl) :
    DS Y X (.Assign [.Tuple [.Name x px, .Name y py, .Name z pz] kt pt] (.Tuple [e, .Dict [] [] pd1, .Dict [] [] pd2] k2 pt2) pos) (dPar3D i j l t) :=
  ps_imp (ps_asg (pe_tup (pa_cons he (pa_cons pe_dnewK (pa_cons pe_dnewK pa_nil h3) h2) h1)) (pg_tup hc hp hn hst) hs hw h0) fun D σ H ⟨Z, F, ρ, n, E, r, ht, k⟩ =>
    ⟨Z, F, ρ, n, _, r, ht, fun x1 n1 F1 H1 v hx g1 s1 d1 w1 a ha b hb => by
      obtain ⟨d, rfl, hx⟩ := needD_is hx
      have nab : a ≠ b := fun q => by rw [q, upd_same] at hb; cases hb
      refine ⟨by show 3 ≤ sizeLine; decide, fun p hp => ⟨p, _, rfl, SqT.of upd_same, rfl, v, _, rfl, .ref a, _, rfl, .ref b, _, rfl, rfl, ?_⟩⟩
      have r1 := r.step g1 s1 d1
      obtain ⟨g2, s2⟩ := Gp.newM (o := .dK []) ha s1
      have r2 := r1.step g2.gr s2 (g2.dk r1.b)
      obtain ⟨g3, s3⟩ := Gp.newM (o := .dK []) hb s2
      have r3 := r2.step g3.gr s3 (g3.dk r2.b)
      obtain ⟨g4, s4⟩ := Gp.newM (o := .tup [v, .ref a, .ref b]) hp s3
      have r4 := r3.step g4.gr s4 (g4.dk r3.b)
      have hb1 : H1 b = none := by rw [upd_ne (Ne.symm nab)] at hb; exact hb
      have fa : F1 a = none := s1.free ha
      have fb : F1 b = none := s1.free hb1
      have r5 := r4.setD i w1
      have old : ∀ (m : Nat) (y : Dv), (ρ.set i (some (.dat d)))[m]? = some (some y) → y.isL = true → ∀ q, (σ.set i (some v))[m]? = some (some (.ref q)) → H1 q ≠ none := fun m y hm hy q hq => by
        by_cases z : i = m
        · subst z
          by_cases hi : i < ρ.length
          · rw [List.getElem?_set_self hi] at hm; cases hm; simp [Dv.isL] at hy
          · rw [List.getElem?_eq_none (by simpa using hi)] at hm; cases hm
        · rw [List.getElem?_set_ne z] at hm hq
          exact r1.inH hm hy hq
      have r6 := r5.set (Hs := H1) j (x := .md a []) (v := .ref a) ⟨rfl, ha, fa, g4.sH _ _ (g3.sH _ _ upd_same)⟩ (fun q hq => r1.fresh hq) fun q hq m y _ hm hy e2 => old m y hm hy q e2 hq
      have r7 := r6.set (Hs := H1) l (x := .md b []) (v := .ref b) ⟨rfl, hb1, fb, g4.sH _ _ upd_same⟩ (fun q hq => r1.fresh hq) fun q hq m y hml hm hy e2 => by
        by_cases z : j = m
        · subst z
          by_cases hj : j < (ρ.set i (some (.dat d))).length
          · rw [List.getElem?_set_self hj] at hm; cases hm; simp [Dv.isL] at hy
          · rw [List.getElem?_eq_none (by simpa using hj)] at hm; cases hm
        · rw [List.getElem?_set_ne z] at hm e2
          exact old m y hm hy q e2 hq
      exact k.nx _ _ _ _ _ (hx a b nab) r7⟩
/-- .. each a turn's draws or fewer -/
theorem compR_le {m : Nat} (xs : List PyData) (P : PyData → Prop) (d : Nat) {n : Wo} {step : CStep} {R : List PyData → Wo → Prop} (hl : xs.length = m)
    (h : ∀ (k : Nat) x, xs[k]? = some x → k < m → ∀ acc q K, acc.length = k → q ≤ n + k * d → (∀ y q', P y → q' ≤ n + (k + 1) * d → K (acc ++ [y]) q') → step x acc q K) (hR : ∀ ys q, ys.length = m → (∀ y ∈ ys, P y) → q ≤ n + m * d → R ys q) : CompR xs n step R := by
  refine ⟨fun k acc q => q ≤ n + k * d ∧ acc.length = k ∧ ∀ y ∈ acc, P y, ⟨Wo.le0 n d, rfl, fun _ hy => (nomatch hy)⟩, ?_, ?_⟩
  · rintro k x acc q hx ⟨h0, h1, h2⟩
    have hk : k < m := by rw [← hl]; exact (List.getElem?_eq_some_iff.mp hx).1
    refine h k x hx hk acc q _ h1 h0 fun y q' hy hq => ⟨hq, by simp [h1], fun z hz => ?_⟩
    rcases List.mem_append.mp hz with w | w
    · exact h2 z w
    · rw [List.mem_singleton.mp w]; exact hy
  · rintro acc q ⟨h0, h1, h2⟩
    rw [hl] at h0 h1
    exact hR acc q h1 h2 h0
end DL
namespace DL
open PySem PySem.Spec PyProof.Rows L2
variable {X : Cx} {Y : Fx}
/-! ### sorted(set(a tuple of ints)) -/
def rSetT (K : PySem.W.Frag) (w : World) : List V → Hp → VK → Prop := fun vs H Q => ∃ (a : Addr) (ns : List Int), vs = [.ref a] ∧ SqT K H a (ns.map V.int) ∧ ns.length ≤ 1000 ∧ ∀ p n, H p = none → n ≤ ns.length → Q (.ref p) (upd H p (SetO w p (fun j => decide (j ∈ ns)) n))
theorem cr_setT (hc : X.calm = true) : CallR X (.type "set") (rSetT X.K X.w) := by
  intro pins s σ H vs us Q I r h
  obtain ⟨a, ns, rfl, hs, hl, q⟩ := h
  obtain ⟨its, rv, p, hz⟩ := I.tuple hs
  rw [Vals.ref1 r]
  refine call_set_tupI ns (I.ok.hd hc) (show s.heap.IsTuple a its.toArray from p) (by simpa using intsAre_of rv) (Nat.lt_of_le_of_lt (Nat.succ_le_succ hl) (by decide)) fun h' tk c R hc' hk => ?_
  exact ⟨.ref _, upd H s.heap.objs.size (SetO X.w s.heap.objs.size (fun j => decide (j ∈ ns)) c), I.laid (t' := tk) hk (Nat.le_refl _) (setO_new R), rfl, q _ c (I.hok.fresh (Nat.le_refl _)) hc'⟩
def mSortSet (t : DTE) : DTM := fun ρ n R => t ρ n fun x n' => ∃ ns : List Int, x = .dat (.tuple (ns.map .int)) ∧ ns.length ≤ 60 ∧ ∀ ms : List Int, ms.Pairwise (· < ·) → (∀ k, k ∈ ms ↔ k ∈ ns) → R (ms.map .int) n'
theorem me_sortedSet {e : Expr} {t : DTE} {p p2 pos pos2 : Pos} (hc : X.calm = true) (hg : Gl X "sorted") (hm : X.mg "sorted" = none) (hg2 : Gl X "set") (hm2 : X.mg "set" = none) (he : WE Y X e t)
    (h1 : starEach [e] X.env = (false, eval e X.env) :: starEach [] X.env := by rfl) (h2 : (backTo pos2 (starEach [] X.env)).any (·.1) = false := by rfl)
    (h3 : starEach [.Call (.Name "set" p2) [e] [] pos2] X.env = (false, eval (.Call (.Name "set" p2) [e] [] pos2) X.env) :: starEach [] X.env := by rfl) (h4 : (backTo pos (starEach [] X.env)).any (·.1) = false := by rfl) :
    ME Y X (.Call (.Name "sorted" p) [.Call (.Name "set" p2) [e] [] pos2] [] pos) (mSortSet t) :=
  pe_imp (pe_callB (cr_sortedSet hc) hg hm PyProof.Rows.boot_sorted (pa_cons (pe_callTy (cr_setT hc) hg2 hm2 (by rfl) (pa_cons he pa_nil h1) (by decide) (by decide) h1 h2) pa_nil h3) (by decide) (by decide) h3 h4) fun σ H Q ⟨Z, F, ρ, n, R, r, ht, k⟩ =>
    ⟨Z, F, ρ, n, _, r, ht, fun x n1 F1 H1 v hx g1 s1 d1 w1 => by
      obtain ⟨ns, rfl, hl, hx⟩ := hx
      simp only [VR, Rp] at w1
      obtain ⟨a, us, rfl, e1, e2⟩ := w1
      rw [e2.ints] at e1
      have r1 := r.step g1 s1 d1
      refine ⟨a, ns, rfl, SqT.of (s1 _ _ e1), by omega, fun p c hp hcn => ⟨p, _, c, rfl, upd_same, by omega, fun ms q m1 m2 _ hq => ?_⟩⟩
      obtain ⟨g2, s2⟩ := Gp.newM (o := SetO X.w p (fun j => decide (j ∈ ns)) c) hp s1
      have r2 := r1.step g2.gr s2 (g2.dk r1.b)
      obtain ⟨g3, s3⟩ := Gp.newM (o := .lst (ms.map V.int)) hq s2
      have hq0 : H q = none := by
        cases e : H q with
        | none => rfl
        | some o => exact absurd hq ((g1.trans g2.gr).dH q (by rw [e]; nofun))
      exact k (ms.map .int) n1 F1 _ q _ (hx ms m1 fun k => (m2 k).trans (by simp)) ((g1.trans g2.gr).trans g3.gr) s3 (g3.dk r2.b) hq0 (s2.free hq) upd_same (rps_ints ms)⟩
end DL
namespace DL
open PySem PySem.Spec PyProof.Rows L2
variable {X : Cx} {Y : Fx}
/-! ### own.pop() -/
def dPop (i : Nat) : DTS := fun E ρ n => ∃ ds d, ρ[i]? = some (some (.mt ds)) ∧ ds[ds.length - 1]? = some d ∧ E.nx (ρ.set i (some (.mt ds.dropLast))) n
theorem Rps.dropLast {K : PySem.W.Frag} {F : Hp} {ds : List PyData} {vs : List V} (h : Rps K F ds vs) : Rps K F ds.dropLast vs.dropLast := by
  rw [List.dropLast_eq_take, List.dropLast_eq_take, h.length]
  exact Rps.take _ h
theorem ds_pop {i : Nat} {o : Expr} {apos cpos pos : Pos} (ho : PE X o (tVar i)) (hbase : attributeBase o "pop" X.env (eval o X.env) = eval o X.env := by rfl) (hline : (apos.endLine == cpos.line) = true := by rfl)
    (hs : swapsWith (.Call (.Attribute o "pop" apos) [] [] cpos) none pos.line X.env = pure false := by rfl) : DS Y X (.Expr (.Call (.Attribute o "pop" apos) [] [] cpos) pos) (dPop i) :=
  ps_imp (ps_expr (pe_bm0 PySem.F.plainAttrs_list PySem.F.slot_list_pop PySem.F.type_list_pop mt_pop ho hbase hline) hs) fun D σ H ⟨Z, F, ρ, n, E, r, ⟨ds, d, e0, hd, hx⟩, k⟩ => by
    obtain ⟨a, vs, q1, q2, q3⟩ := r.own e0
    obtain ⟨y, hy, _⟩ := q3.get hd
    exact ⟨_, q1, .inl ⟨rfl, vs, SqL.of q2⟩, a, vs, y, rfl, rfl, q2, by rw [← q3.length]; exact hy, k.nx _ _ _ _ _ hx (r.mut e0 q1 q3.dropLast)⟩
/-! ### bools.count(b) -/
def eqb (b : Bool) : Value → Bool
  | .bool c => c == b
  | _ => false
theorem bl_of {b : Bool} {u : Value} (h : RelV (.bl b) u) : u = .bool b := h
theorem bools_of : ∀ {bs : List Bool} {us : List Value}, Vals (bs.map V.bl) us → us = bs.map Value.bool
  | [], _, h => by cases h; rfl
  | b :: bs, _, h => by
    rw [List.map_cons] at h
    cases h with
    | cons r rr => rw [List.map_cons, bools_of rr, bl_of r]
theorem eqb_count (b : Bool) : ∀ bs : List Bool, (bs.map Value.bool).countP (eqb b) = bs.count b
  | [] => rfl
  | c :: bs => by
    rw [List.map_cons, List.countP_cons, List.count_cons, eqb_count b bs]
    rfl
def rCntB (K : PySem.W.Frag) : V → List V → Hp → VK → Prop := fun x xs H Q => ∃ (p : Addr) (bs : List Bool) (b : Bool), x = .ref p ∧ xs = [.bl b] ∧ SqL K H p (bs.map V.bl) ∧ Q (.int (bs.count b : Nat)) H
theorem mt_countB : MtR X "list.count" (rCntB X.K) := by
  intro pins s σ H x xs v us Q I rx rxs h
  obtain ⟨p, bs, b, rfl, rfl, hs, q⟩ := h
  cases rx
  obtain ⟨u, rfl, ru⟩ := rxs.one
  obtain rfl := bl_of ru
  obtain ⟨its, rv, ⟨⟨cls, dd, data, sl⟩, n, ho, hc, hdn, hd⟩, hlen⟩ := I.list hs
  simp only at hc hd
  subst hc hd
  have hi := bools_of rv
  refine call_meets PySem.F.slot_list_count ⟨_, ho, rfl⟩ PySem.F.entry_list_count (PySem.F.args_list_count_2 _ _) (SeqAt.list_countAt p its.toArray n dd sl (.bool b) (eqb b)) ⟨ho, fun y hy => ?_, ?_⟩
  · have hy2 : y ∈ its := by simpa using hy
    rw [hi] at hy2
    obtain ⟨c, _, rfl⟩ := List.mem_map.mp hy2
    exact SeqAt.EqAt.bool_bool c b
  · have ec : its.toArray.toList.countP (eqb b) = bs.count b := by
      rw [show its.toArray.toList = its from rfl, hi]
      exact eqb_count b bs
    refine ⟨.int (bs.count b : Nat), H, I.tok _, ⟨s.toks, ?_⟩, q⟩
    show Value.int ((its.toArray.toList.countP (eqb b) : Nat) : Int) s.toks = Value.int ((bs.count b : Nat) : Int) s.toks
    rw [ec]
theorem rps_bools {K : PySem.W.Frag} {F : Hp} {bs : List Bool} {vs : List V} (h : Rps K F (bs.map PyData.bool) vs) : vs = bs.map V.bl := Rps.bools h
def dCnt (t u : DTE) : DTE := fun ρ n R => t ρ n fun x n1 => ∃ bs : List Bool, x = .dat (.list (bs.map .bool)) ∧ u ρ n1 fun y n2 => ∃ b : Bool, y = .dat (.bool b) ∧ R (.dat (.int (bs.count b : Nat))) n2
theorem we_count {o e : Expr} {t u : DTE} {apos cpos : Pos} (ho : WE Y X o t) (he : WE Y X e u)
    (hbase : attributeBase o "count" X.env (eval o X.env) = eval o X.env := by rfl)
    (hfew : ((backTo cpos (starEach [e] X.env)).all (fun x => !x.1) && (backToKw cpos (keywordEach [] X.env)).all (fun x => x.1.isSome)
      && decide (([e] : List Expr).length + ([] : List Keyword).length + (if ([] : List Keyword).isEmpty then 0 else 1) < 30)) = true := by rfl)
    (hline : (apos.endLine == cpos.line) = true := by rfl) (hst : starEach [e] X.env = (false, eval e X.env) :: starEach [] X.env := by rfl) (hplain : (backTo cpos (starEach [] X.env)).any (·.1) = false := by rfl) :
    WE Y X (.Call (.Attribute o "count" apos) [e] [] cpos) (dCnt t u) :=
  pe_imp (pe_bm PySem.F.plainAttrs_list PySem.F.slot_list_count PySem.F.type_list_count mt_countB ho (pa_cons he pa_nil hst) hbase hfew hline hst hplain) fun σ H Q ⟨Z, F, ρ, n, R, r, ht, k⟩ =>
    ⟨Z, F, ρ, n, _, r, ht, fun x n1 F1 H1 v ⟨bs, e1, hx⟩ g1 s1 d1 w1 => by
      subst e1
      simp only [VR, Rp] at w1
      obtain ⟨a, vs, rfl, p1, p2⟩ := w1
      rw [rps_bools p2] at p1
      refine ⟨.inl ⟨rfl, _, SqL.of (s1 _ _ p1)⟩, Z, F1, ρ, n1, _, r.step g1 s1 d1, hx, fun y n2 F2 H2 u2 ⟨b, e2, hy⟩ g2 s2 d2 w2 => ?_⟩
      subst e2
      simp only [VR, Rp] at w2
      subst w2
      exact ⟨a, bs, b, rfl, rfl, SqL.of (s2 _ _ (g2.sF _ _ p1)), k _ _ _ _ _ hy (g1.trans g2) s2 d2 (by simp [VR, Rp])⟩⟩
end DL
namespace DL
open PySem PySem.Spec PyProof.Rows L2
variable {K : PySem.W.Frag}
/-! ### t * k of a tuple that is not empty, k at least 2 -/
def oRepT : D2 := fun x y R => ∃ (xs : List PyData) (k : Int), x.toD = .tuple xs ∧ y = .dat (.int k) ∧ xs ≠ [] ∧ 2 ≤ k ∧ k ≤ 1000 ∧ xs.length ≤ 1000 ∧ R (.tuple (List.replicate k.toNat xs).flatten)
theorem Rps.flat {F : Hp} {ds : List PyData} {vs : List V} (h : Rps K F ds vs) : ∀ n : Nat, Rps K F (List.replicate n ds).flatten (List.replicate n vs).flatten
  | 0 => rps_nil
  | n + 1 => by
    rw [List.replicate_succ, List.replicate_succ, List.flatten_cons, List.flatten_cons]
    exact h.append (Rps.flat h n)
theorem bi_repT : BinOk K (rRepT K) oRepT := fun δ F H x y v u R Q hs hx hy ⟨xs, k, e1, e2, hne, h2, h3, hz, hr⟩ b => by
  subst e2
  simp only [VR, Rp] at hy
  subst hy
  obtain ⟨a, vs, rfl, p1, p2⟩ := hx.tpl hs e1
  refine ⟨a, k, vs, rfl, rfl, SqT.of (hs _ _ p1), fun q => hne (List.eq_nil_of_length_eq_zero (by rw [p2.length, q]; rfl)), h2, h3, by rw [← p2.length]; exact hz, fun p hp => b.tup hs hr (Rps.flat p2 _) hp⟩
end DL
namespace DL
open PySem PySem.Spec PyProof.Rows L2
variable {X : Cx} {Y : Fx}
/-! ### a, b = a list of two -/
def gU2 (i j : Nat) : DTG := fun d ρ R => ∃ a b, d = .list [a, b] ∧ R ((ρ.set i (some (.dat a))).set j (some (.dat b)))
theorem gok_unl2 {K : PySem.W.Frag} {i j : Nat} : GOk K (gUnl K 2 (gCons (gName i) (gCons (gName j) gNil))) (gU2 i j) [i, j] := ⟨fun Y Z F H σ ρ n d v R Q r hr h k => by
  obtain ⟨a, b, rfl, h⟩ := h
  simp only [Rp] at hr
  obtain ⟨p, xs, rfl, hp, hxs⟩ := hr
  obtain ⟨u, v, rfl, h1, h2⟩ := rps2 hxs
  refine ⟨p, _, rfl, SqL.of (r.b.sub _ _ hp), rfl, u, _, rfl, v, _, rfl, rfl, k _ _ h ((r.setD i h1).setD j h2) fun vs hv => ?_⟩
  rw [wipe_set (hv j (by simp)), wipe_set (hv i (by simp))]⟩
/-! ### own.append(other own.pop(e)) -/
def dAppPop (i j : Nat) (t : DTE) : DTS := fun E ρ n => ∃ xs ds, ρ[i]? = some (some (.mt xs)) ∧ ρ[j]? = some (some (.mt ds)) ∧ t ρ n fun x n' => ∃ (z : Int) (k : Nat) (d : PyData), x = .dat (.int z) ∧ (-(2 ^ 63) ≤ z ∧ z < 2 ^ 63) ∧ seqIndex? z ds.length = some k ∧ ds[k]? = some d ∧ xs.length < sizeLine ∧
  E.nx ((ρ.set j (some (.mt (ds.eraseIdx k)))).set i (some (.mt (xs ++ [d])))) n'
theorem ds_appPop {i j : Nat} {o o2 e : Expr} {t : DTE} {apos cpos apos2 cpos2 pos : Pos} (hij : i ≠ j) (ho : PE X o (tVar i)) (ho2 : PE X o2 (tVar j)) (he : WE Y X e t)
    (hbase : attributeBase o "append" X.env (eval o X.env) = eval o X.env := by rfl)
    (hfew : ((backTo cpos (starEach [.Call (.Attribute o2 "pop" apos2) [e] [] cpos2] X.env)).all (fun x => !x.1) && (backToKw cpos (keywordEach [] X.env)).all (fun x => x.1.isSome)
      && decide (([.Call (.Attribute o2 "pop" apos2) [e] [] cpos2] : List Expr).length + ([] : List Keyword).length + (if ([] : List Keyword).isEmpty then 0 else 1) < 30)) = true := by rfl)
    (hline : (apos.endLine == cpos.line) = true := by rfl) (hst : starEach [.Call (.Attribute o2 "pop" apos2) [e] [] cpos2] X.env = (false, eval (.Call (.Attribute o2 "pop" apos2) [e] [] cpos2) X.env) :: starEach [] X.env := by rfl) (hplain : (backTo cpos (starEach [] X.env)).any (·.1) = false := by rfl)
    (hbase2 : attributeBase o2 "pop" X.env (eval o2 X.env) = eval o2 X.env := by rfl)
    (hfew2 : ((backTo cpos2 (starEach [e] X.env)).all (fun x => !x.1) && (backToKw cpos2 (keywordEach [] X.env)).all (fun x => x.1.isSome)
      && decide (([e] : List Expr).length + ([] : List Keyword).length + (if ([] : List Keyword).isEmpty then 0 else 1) < 30)) = true := by rfl)
    (hline2 : (apos2.endLine == cpos2.line) = true := by rfl) (hst2 : starEach [e] X.env = (false, eval e X.env) :: starEach [] X.env := by rfl) (hplain2 : (backTo cpos2 (starEach [] X.env)).any (·.1) = false := by rfl)
    (hs : swapsWith (.Call (.Attribute o "append" apos) [.Call (.Attribute o2 "pop" apos2) [e] [] cpos2] [] cpos) none pos.line X.env = pure false := by rfl) :
    DS Y X (.Expr (.Call (.Attribute o "append" apos) [.Call (.Attribute o2 "pop" apos2) [e] [] cpos2] [] cpos) pos) (dAppPop i j t) :=
  ps_imp (ps_expr (pe_bm PySem.F.plainAttrs_list PySem.F.slot_list_append PySem.F.type_list_append mt_append ho (pa_cons (pe_bm PySem.F.plainAttrs_list PySem.F.slot_list_pop PySem.F.type_list_pop mt_popAt ho2 (pa_cons he pa_nil hst2) hbase2 hfew2 hline2 hst2 hplain2) pa_nil hst) hbase hfew hline hst hplain) hs) fun D σ H ⟨Z, F, ρ, n, E, r, ⟨xs, ds, e1, e2, ht⟩, k⟩ => by
    obtain ⟨b, us, p1, p2, p3⟩ := r.own e1
    obtain ⟨a, vs, q1, q2, q3⟩ := r.own e2
    refine ⟨_, p1, .inl ⟨rfl, us, SqL.of p2⟩, _, q1, .inl ⟨rfl, vs, SqL.of q2⟩, Z, F, ρ, n, _, r, ht, fun x n1 F1 H1 u hx g1 s1 d1 wx => ?_⟩
    obtain ⟨z, kk, d, rfl, hz, hk, hd, hl, hx⟩ := hx
    have r1 := r.step g1 s1 d1
    obtain ⟨a', vs', q5, q6, q7⟩ := r1.own e2
    rw [q1] at q5; cases q5
    obtain ⟨y, hy, ry⟩ := q7.get hd
    simp only [VR, Rp] at wx
    subst wx
    refine ⟨a, vs', z, kk, y, rfl, rfl, q6, hz.1, hz.2, by rw [← q7.length]; exact hk, hy, ?_⟩
    have r2 := r1.mut e2 q1 (q7.erase kk)
    have e1' : (ρ.set j (some (.mt (ds.eraseIdx kk))))[i]? = some (some (.mt xs)) := by rw [List.getElem?_set_ne (Ne.symm hij)]; exact e1
    obtain ⟨b', us', t5, t6, t7⟩ := r2.own e1'
    rw [p1] at t5; cases t5
    exact ⟨b, us', y, rfl, rfl, t6, by rw [← t7.length]; exact hl, k.nx _ _ _ _ _ hx (r2.mut e1' p1 (t7.append (rps_cons ry rps_nil)))⟩
/-! ### t * k of a tuple that is not empty, k at least 1 -/
open AutoSeq1 (wpAny_loadPart') in
theorem tuple_mul1 (l : Addr) (items : Array Value) (n : Nat) (dd : Option Addr) (sl : Array (Option Value)) (u : Tok) :
    Meets (Builtin.«tuple.__mul__» ⟨[.ref l, .int 1 u], []⟩) (fun _ R s => s.heap.get? l = some { cls := .type "tuple", dict := dd, data := .seq items n, slots := sl } ∧ R (.ok (.ret (Value.ref l))) s) :=
  .of_wp fun prog w A R s h => by
    obtain ⟨hp, g, d, tk, os⟩ := s
    obtain ⟨hl, h⟩ := h
    have f1 := AutoSeq1.idx_int
    wp_walk using wpAny_loadPart' hl
    exact ⟨_, rfl, h⟩
def rRep1 (K : PySem.W.Frag) : R2 := fun x y H Q => ∃ l xs, x = .ref l ∧ y = .int 1 ∧ SqT K H l xs ∧ Q (.ref l) H
theorem op_rep1 : OpR X (binaryOp .Mult) (rRep1 X.K) := by
  intro pins s σ H x y v u Q I rx ry h
  obtain ⟨l, xs, rfl, rfl, hT, q⟩ := h
  cases rx
  obtain ⟨t, rfl⟩ := ry
  obtain ⟨its, r, ⟨⟨cls, dd, data, sl⟩, ho, hc, n, hd⟩, hs⟩ := I.tuple hT
  simp only at hc hd
  subst hc hd
  exact wpAny_binaryOp_repeat_ref (T := "tuple") (U := "int") (by decide) ⟨_, ho, rfl⟩ (fun s' => typeIs_int s' 1 t) noFill_tuple_mul F.fills_int_mul F.slot_int_rmul repeat_tuple F.slot_int_index.lookup
    (call_meets F.slot_int_rmul (typeIs_int s 1 t) F.entry_int_rmul (F.args_int_rmul_2 _ _) (int_rmul_tuple 1 t l its.toArray n dd sl)
      ⟨ho, rfl, ⟨_, ho, rfl⟩, call_meets F.slot_tuple_mul ⟨_, ho, rfl⟩ F.entry_tuple_mul (F.args_tuple_mul_2 _ _) (tuple_mul1 l its.toArray n dd sl t) ⟨ho, .ref l, H, I, rfl, q⟩⟩)
def oRepA : D2 := fun x y R => ∃ (xs : List PyData) (k : Int), x = .dat (.tuple xs) ∧ y = .dat (.int k) ∧ xs ≠ [] ∧ 1 ≤ k ∧ k ≤ 1000 ∧ xs.length ≤ 1000 ∧ R (.tuple (List.replicate k.toNat xs).flatten)
theorem op_repA : OpR X (binaryOp .Mult) (fun x y H Q => rRepT X.K x y H Q ∨ rRep1 X.K x y H Q) := OpR.or op_repT op_rep1
theorem bi_repA {K : PySem.W.Frag} : BinOk K (fun x y H Q => rRepT K x y H Q ∨ rRep1 K x y H Q) oRepA := fun δ F H x y v u R Q hs hx hy ⟨xs, k, e1, e2, hne, h2, h3, hz, hr⟩ b => by
  by_cases hk : k = 1
  · subst hk
    subst e1 e2
    simp only [VR, Rp] at hy hx
    subst hy
    obtain ⟨a, vs, rfl, p1, p2⟩ := hx
    refine .inr ⟨a, vs, rfl, rfl, SqT.of (hs _ _ p1), b.here hs hr ?_⟩
    simp only [Rp]
    exact ⟨a, vs, rfl, p1, by simpa using p2⟩
  · exact .inl (bi_repT δ F H x y v u R Q hs hx hy ⟨xs, k, by rw [e1]; rfl, e2, hne, by omega, h3, hz, hr⟩ b)
end DL
namespace DL
open PySem PySem.Spec PyProof.Rows L2
variable {X : Cx} {Y : Fx}
/-! ### texts.index(text) -/
theorem Rps.strs {K : PySem.W.Frag} {F : Hp} : ∀ {ss : List Str} {vs : List V}, Rps K F (ss.map PyData.str) vs → vs = ss.map V.str
  | [], _, h => by simpa only [List.map_nil, Rps] using h
  | n :: ss, _, h => by
    simp only [List.map_cons, Rps, Rp] at h
    obtain ⟨v, r, rfl, rfl, h2⟩ := h
    rw [Rps.strs h2]; rfl
def dIdxS (t u : DTE) : DTE := fun ρ n R => t ρ n fun x n1 => ∃ ss : List Str, x = .dat (.list (ss.map .str)) ∧ u ρ n1 fun y n2 => ∃ (z : Str) (j : Nat), y = .dat (.str z) ∧ ss[j]? = some z ∧ (∀ m, m < j → ss[m]? ≠ some z) ∧ R (.dat (.int (j : Nat))) n2
theorem we_index {o e : Expr} {t u : DTE} {apos cpos : Pos} (ho : WE Y X o t) (he : WE Y X e u)
    (hbase : attributeBase o "index" X.env (eval o X.env) = eval o X.env := by rfl)
    (hfew : ((backTo cpos (starEach [e] X.env)).all (fun x => !x.1) && (backToKw cpos (keywordEach [] X.env)).all (fun x => x.1.isSome)
      && decide (([e] : List Expr).length + ([] : List Keyword).length + (if ([] : List Keyword).isEmpty then 0 else 1) < 30)) = true := by rfl)
    (hline : (apos.endLine == cpos.line) = true := by rfl) (hst : starEach [e] X.env = (false, eval e X.env) :: starEach [] X.env := by rfl) (hplain : (backTo cpos (starEach [] X.env)).any (·.1) = false := by rfl) :
    WE Y X (.Call (.Attribute o "index" apos) [e] [] cpos) (dIdxS t u) :=
  pe_imp (pe_bm PySem.F.plainAttrs_list PySem.F.slot_list_index PySem.F.type_list_index mt_index ho (pa_cons he pa_nil hst) hbase hfew hline hst hplain) fun σ H Q ⟨Z, F, ρ, n, R, r, ht, k⟩ =>
    ⟨Z, F, ρ, n, _, r, ht, fun x n1 F1 H1 v ⟨ss, e1, hx⟩ g1 s1 d1 w1 => by
      subst e1
      simp only [VR, Rp] at w1
      obtain ⟨a, vs, rfl, p1, p2⟩ := w1
      rw [p2.strs] at p1
      refine ⟨.inl ⟨rfl, _, SqL.of (s1 _ _ p1)⟩, Z, F1, ρ, n1, _, r.step g1 s1 d1, hx, fun y n2 F2 H2 u2 ⟨z, j, e2, hj, hno, hy⟩ g2 s2 d2 w2 => ?_⟩
      subst e2
      simp only [VR, Rp] at w2
      subst w2
      refine ⟨a, ss.map V.str, .str z, j, .str z, rfl, rfl, SqL.of (s2 _ _ (g2.sF _ _ p1)), rfl, ?_, ?_, ?_, ?_, k _ _ _ _ _ hy (g1.trans g2) s2 d2 (by simp [VR, Rp])⟩
      · rw [List.all_eq_true]
        intro x hx
        obtain ⟨_, _, rfl⟩ := List.mem_map.mp hx
        rfl
      · rw [List.getElem?_map, hj]; rfl
      · simp [eqV]
      · intro m z' hm hz'
        rw [List.getElem?_map] at hz'
        obtain ⟨s, h1, rfl⟩ := Option.map_eq_some_iff.mp hz'
        have := hno m hm
        simp only [eqV, beq_eq_false_iff_ne, ne_eq]
        rintro rfl
        exact this h1⟩
end DL
namespace DL
open PySem PySem.Spec PyProof.Rows L2
variable {X : Cx} {Y : Fx}
/-! ### in, not in a tuple -/
def rInDT (K : PySem.W.Frag) (neg : Bool) : R2 := fun x y H Q => ∃ d ds, Dp K H x d ∧ Dp K H y (.tuple ds) ∧ SeqAt.shaped d = true ∧ SeqAt.shaped (.tuple ds) = true ∧ Q (.bl (if neg then !(ds.any fun z => PyData.eqv z d) else ds.any fun z => PyData.eqv z d)) H
theorem room_inT {ds : List PyData} {d : PyData} {u : Nat} (hs : SeqAt.shaped d = true) (hu : u + 65 < cLine) : u + 1 + min (PyData.depthAll ds) d.depth < cLine := by
  have := SeqAt.depth_of_shaped hs
  omega
theorem op_inDT (hu : X.A.units + 65 < cLine) : OpR X (compareOp .In) (rInDT X.K false) := by
  intro pins s σ H x y v u Q I rx ry ⟨d, ds, hd, he, sd, se, q⟩
  obtain ⟨as, r1⟩ := Dp.reads I d x v hd rx
  obtain ⟨bs, r2⟩ := Dp.reads I (.tuple ds) y u he ry
  exact SeqAt.in_tuple_reads r2 r1 (SeqAt.canLay_of_shaped se) (SeqAt.canLay_of_shaped sd) (room_inT sd hu) ⟨.bl _, H, I, rfl, q⟩
theorem op_notInDT (hu : X.A.units + 65 < cLine) : OpR X (compareOp .NotIn) (rInDT X.K true) := by
  intro pins s σ H x y v u Q I rx ry ⟨d, ds, hd, he, sd, se, q⟩
  obtain ⟨as, r1⟩ := Dp.reads I d x v hd rx
  obtain ⟨bs, r2⟩ := Dp.reads I (.tuple ds) y u he ry
  exact SeqAt.notIn_tuple_reads r2 r1 (SeqAt.canLay_of_shaped se) (SeqAt.canLay_of_shaped sd) (room_inT sd hu) ⟨.bl _, H, I, rfl, q⟩
def oInT (neg : Bool) : D2 := fun x y R => x.isDk = false ∧ y.isDk = false ∧ ∃ ds, y.toD = .tuple ds ∧ Sh x.toD ∧ Sh (.tuple ds) ∧ R (.bool (if neg then !(ds.any fun z => PyData.eqv z x.toD) else ds.any fun z => PyData.eqv z x.toD))
theorem bi_inT {K : PySem.W.Frag} (neg : Bool) : BinOk K (rInDT K neg) (oInT neg) := fun δ F H x y v u R Q hs hx hy ⟨n1, n2, ds, e, s1, s2, hr⟩ b =>
  ⟨x.toD, ds, Rp.dp _ _ (SeqAt.canLay_of_shaped s1) (hx.rp hs n1), Rp.dp _ _ (SeqAt.canLay_of_shaped s2) (e ▸ hy.rp hs n2), s1, s2, b.bl hs hr⟩
/-! ### sorted of a tuple of ints -/
section

variable {prog : Program} {w : World} {A : Around} {E : Value → Shared → Prop} {s : Shared}
theorem collectT {l : Addr} {vs : List Value} {Q : List Value → Shared → Prop} (hl : s.heap.IsTuple l vs.toArray) (hz : vs.length ≤ sizeLine)
    (h : Q vs { s with heap := (s.heap.push (seqObj "list" #[] 0)).update s.heap.objs.size (Obj.mapSeq (· ++ vs.toArray)) }) : wpAny (model prog w) A (collect (.ref l)) Q E s := by
  obtain ⟨o, ho, hc, n, hd⟩ := id hl
  have hnew : (s.heap.push (seqObj "list" #[] 0)).get? s.heap.objs.size = some (seqObj "list" #[] 0) := Heap.get?_push_size _ rfl
  have hold : (s.heap.push (seqObj "list" #[] 0)).get? l = some o := Heap.get?_push_of_some _ ho
  have tnew : Code.quiet (.builtin "list.__iadd__" ⟨[.ref s.heap.objs.size, .ref l], []⟩) = true := Code.quiet_builtin _ (by decide +kernel)
  have grown := get?_update_seq hnew (· ++ vs.toArray)
  have fit : (#[] ++ vs.toArray : Array Value).size ≤ sizeLine + 1 := by simp only [Array.size_append, List.size_toArray, List.length_nil]; omega
  have back : ((#[] : Array Value) ++ vs.toArray).toList = vs := by simp
  unfold collect
  refine wpAny_bind (wpAny_runValue (codeAny_builtin entry_proto_collect' (wpAny_bind (m := newList []) (wpAny_newList (wpAny_pure ⟨tnew, codeAny_builtin entry_list_iadd' ?_⟩)))))
  show wpAny _ _ (Builtin.List.listExtendWith (.ref s.heap.objs.size) (.ref l) (.ref s.heap.objs.size)) _ _ ({ s with heap := s.heap.push (seqObj "list" #[] 0) } : Shared)
  unfold Builtin.List.listExtendWith
  have two : (Builtin.List.listSameRef (.ref s.heap.objs.size) (.ref l) || (Value.type "tuple" == Value.type "list") || (Value.type "tuple" == Value.type "tuple")) = true := by rw [Bool.or_eq_true]; exact .inr rfl
  refine wpAny_bind (wpAny_typeOf (T := "tuple") ⟨o, hold, hc⟩ ?_)
  rw [if_pos two]
  refine wpAny_bind (listItems_at hold hd (wpAny_bind (listItems_at hnew rfl ?_)))
  have mt0 : ¬ ((!(#[] : Array Value).isEmpty && Builtin.List.listTooLong ((#[] : Array Value).size + vs.toArray.size)) = true) := by simp
  rw [if_neg mt0]
  refine wpAny_bind (listUpdate_at hnew rfl (wpAny_pure ?_) (Nat.zero_le _) fit)
  refine wpAny_bind (m := load s.heap.objs.size) (wpAny_load grown ?_)
  show wpAny _ _ (Pure.pure ((#[] : Array Value) ++ vs.toArray).toList) Q E _
  rw [back]
  exact wpAny_pure h
/-- sorted(t): the collected list at size, the new one behind it -/
theorem sortedT {l : Addr} {vs : List Value} {ltv : Value → Value → Bool} {Q : Value → Shared → Prop} (O : SrtO.Swo ltv) (hl : s.heap.IsTuple l vs.toArray) (hz : vs.length ≤ sizeLine)
    (hS : 2 ≤ vs.length → ∀ (h₁ : Heap) (a : Addr), SrtO.SortableO prog w A.in1.in1 { s with heap := h₁ } a vs ltv)
    (h : ∀ out : List Value, SrtO.Srtd ltv out → SrtO.Stb ltv out vs → Q (.ref (s.heap.objs.size + 1)) { s with heap := sortedAll s.heap vs out.toArray }) : wpAny (model prog w) A (call (.builtin "sorted") [.ref l]) Q E s := by
  have sz1 : ((s.heap.push (seqObj "list" #[] 0)).update s.heap.objs.size (Obj.mapSeq (· ++ vs.toArray))).objs.size = s.heap.objs.size + 1 := (Heap.size_update ..).trans (size_push' ..)
  have at1 := Heap.get?_push_size ((s.heap.push (seqObj "list" #[] 0)).update s.heap.objs.size (Obj.mapSeq (· ++ vs.toArray))) (o := seqObj "list" vs.toArray 0) rfl
  refine Calls.call_function_entry kind_sorted plain_sorted entry_sorted (args_sorted1 _) ?_
  unfold Builtin.«sorted»
  refine wpAny_bind (m := checkCount "sorted" 1 1 _) (wpAny_pure (wpAny_bind (collectT hl hz (wpAny_bind (wpAny_newList ?_ hz)))))
  rw [sz1] at at1 ⊢
  exact wpAny_bind (wpAny_holding (wpAny_call_entry slot_list_sort ⟨_, at1, rfl⟩ entry_list_sort (SrtO.list_sort_ord O at1 hz (fun h2 => hS h2 _ _) fun out hs hb => ⟨_, rfl, wpAny_pure ⟨_, rfl, h out hs hb⟩⟩) (args_list_sort _)))
end
def rSortIT (K : PySem.W.Frag) : List V → Hp → VK → Prop := fun vs H Q => ∃ (a : Addr) (ns : List Int), vs = [V.ref a] ∧ SqT K H a (ns.map V.int) ∧
  ∀ (ns' : List Int) (p : Addr), ns'.Perm ns → ns'.Pairwise (· ≤ ·) → H p = none → Q (.ref p) (upd H p (.lst (ns'.map V.int)))
theorem cr_sortIT : CallR X (.builtin "sorted") (rSortIT X.K) := by
  intro pins s σ H vs us Q I r ⟨a, ns, e, hs, q⟩
  subst e
  obtain ⟨its, rv, hl, hz⟩ := I.tuple hs
  have hi := rv.ints
  rw [Vals.ref1 r]
  refine sortedT SrtO.swo_int (show s.heap.IsTuple a its.toArray from hl) (by rw [← rv.length]; exact hz) (fun h2 h₁ a' => SrtO.ints_sortable hi h2) fun out h1 h2 => ?_
  obtain ⟨k1, k2, k3⟩ := SrtO.ints_out hi h1 h2
  obtain ⟨ep, he'⟩ := PyProof.Rows.sortedAll_at s.heap its out.toArray
  have hlen : ((out.map SrtO.iv).map V.int).length ≤ sizeLine := by
    have := k2.length_eq
    rw [List.length_map] at hz ⊢
    omega
  have inv := I.laid (t' := s.toks) (fun _ _ => PyProof.Rows.sortedAll_old) (Nat.le_succ _) (a := s.heap.objs.size + 1) (o := .lst ((out.map SrtO.iv).map V.int)) ⟨hlen, out, ep, vals_of_ints k1, he'⟩
  exact ⟨.ref _, _, inv, rfl, q _ _ k2 k3 (I.hok.fresh (Nat.le_succ _))⟩
def oSortIT : DCM := fun xs R => ∃ x, ∃ ns : List Int, xs = [x] ∧ x.toD = .tuple (ns.map .int) ∧ ∀ ns' : List Int, ns'.Perm ns → ns'.Pairwise (· ≤ ·) → R (ns'.map .int)
theorem ck_sortIT {K : PySem.W.Frag} : CallOkM K (rSortIT K) oSortIT := fun δ F H xs vs R Q hs hv ⟨x, ns, e, e2, hr⟩ b => by
  subst e
  obtain ⟨v, rfl, h1⟩ := vr1 hv
  obtain ⟨a, us, rfl, h2, h3⟩ := h1.tpl hs e2
  rw [h3.ints] at h2
  exact ⟨a, ns, rfl, SqT.of (hs _ _ h2), fun ns' p k1 k2 hp => b _ _ _ (hr ns' k1 k2) hp (rps_ints ns')⟩
/-! ### t * k of a tuple that is not empty, k at least 0 -/
open AutoSeq1 (wpAny_loadPart') in
theorem tuple_mul0 (l : Addr) (items : Array Value) (n : Nat) (dd : Option Addr) (sl : Array (Option Value)) (u : Tok) :
    Meets (Builtin.«tuple.__mul__» ⟨[.ref l, .int 0 u], []⟩) (fun _ R s => s.heap.get? l = some { cls := .type "tuple", dict := dd, data := .seq items n, slots := sl } ∧ items.isEmpty = false ∧ R (.ok (.ret (Value.ref s.heap.objs.size))) { s with heap := s.heap.push { cls := .type "tuple", data := .seq #[] } }) :=
  .of_wp fun prog w A R s ⟨hl, hne, h⟩ => by
    obtain ⟨hp, g, d, tk, os⟩ := s
    have f1 := AutoSeq1.idx_int
    wp_walk using wpAny_loadPart' hl
    exact ⟨_, rfl, h⟩
def rRep0 (K : PySem.W.Frag) : R2 := fun x y H Q => ∃ l xs, x = .ref l ∧ y = .int 0 ∧ SqT K H l xs ∧ xs ≠ [] ∧ ∀ p, H p = none → Q (.ref p) (upd H p (.tup []))
theorem op_rep0 : OpR X (binaryOp .Mult) (rRep0 X.K) := by
  intro pins s σ H x y v u Q I rx ry ⟨l, xs, e1, e2, hT, hne, q⟩
  subst e1 e2
  cases rx
  obtain ⟨t, rfl⟩ := ry
  obtain ⟨its, r, ⟨⟨cls, dd, data, sl⟩, ho, hc, n, hd⟩, hs⟩ := I.tuple hT
  simp only at hc hd
  subst hc hd
  have hi : its.toArray.isEmpty = false := by
    cases its with
    | nil => exact absurd (List.eq_nil_of_length_eq_zero r.length) hne
    | cons a b => rfl
  have inv := I.laid (t' := s.toks) (a := s.heap.objs.size) (o := .tup []) (fun b ob q => Heap.get?_push_of_some { cls := .type "tuple", data := .seq #[] } q) (Nat.le_refl _) ⟨Nat.zero_le _, [], .nil, IsTup.new _ _⟩
  have done : EP X pins σ Q (.ref s.heap.objs.size) { s with heap := s.heap.push { cls := .type "tuple", data := .seq #[] } } := ⟨.ref s.heap.objs.size, _, inv, rfl, q _ (I.hok.fresh (Nat.le_refl _))⟩
  have second := call_meets (A := X.A) (E := X.xe) (prog := X.prog) (w := X.w) (s := s) (self := .ref l) (rest := [.int 0 t]) (Q := EP X pins σ Q) F.slot_tuple_mul ⟨_, ho, rfl⟩ F.entry_tuple_mul (F.args_tuple_mul_2 _ _) (tuple_mul0 l its.toArray n dd sl t) ⟨ho, hi, done⟩
  exact wpAny_binaryOp_repeat_ref (T := "tuple") (U := "int") (by decide) ⟨_, ho, rfl⟩ (fun s' => typeIs_int s' 0 t) noFill_tuple_mul F.fills_int_mul F.slot_int_rmul repeat_tuple F.slot_int_index.lookup
    (call_meets F.slot_int_rmul (typeIs_int s 0 t) F.entry_int_rmul (F.args_int_rmul_2 _ _) (int_rmul_tuple 0 t l its.toArray n dd sl) ⟨ho, rfl, ⟨_, ho, rfl⟩, second⟩)
def oRepZ : D2 := fun x y R => ∃ (xs : List PyData) (k : Int), x = .dat (.tuple xs) ∧ y = .dat (.int k) ∧ xs ≠ [] ∧ 0 ≤ k ∧ k ≤ 1000 ∧ xs.length ≤ 1000 ∧ R (.tuple (List.replicate k.toNat xs).flatten)
theorem op_repZ : OpR X (binaryOp .Mult) (fun x y H Q => (rRepT X.K x y H Q ∨ rRep1 X.K x y H Q) ∨ rRep0 X.K x y H Q) := OpR.or op_repA op_rep0
theorem bi_repZ {K : PySem.W.Frag} : BinOk K (fun x y H Q => (rRepT K x y H Q ∨ rRep1 K x y H Q) ∨ rRep0 K x y H Q) oRepZ := fun δ F H x y v u R Q hs hx hy ⟨xs, k, e1, e2, hne, h2, h3, hz, hr⟩ b => by
  by_cases hk : k = 0
  · subst hk
    subst e1 e2
    simp only [VR, Rp] at hy hx
    subst hy
    obtain ⟨a, vs, rfl, p1, p2⟩ := hx
    refine .inr ⟨a, vs, rfl, rfl, SqT.of (hs _ _ p1), fun e => hne ?_, fun p hp => b.tup hs hr rps_nil hp⟩
    have := p2.length
    rw [e] at this
    exact List.eq_nil_of_length_eq_zero this
  · exact .inl (bi_repA δ F H x y v u R Q hs hx hy ⟨xs, k, e1, e2, hne, by omega, h3, hz, hr⟩ b)
end DL
namespace DL
open PySem PySem.Spec PyProof.Rows L2
/-! ### zip of a list and a tuple, over the iterators' own draws -/
def ItZM (K : PySem.W.Frag) (a b : Addr) (xs ys : List V) : It where
  go i H := (SqL K H a xs ∧ SqT K H b ys) ∧ i < xs.length ∧ i < ys.length
  yld i H v H' := ∃ T x y, (v = .ref T ∧ H T = none ∧ H' = upd H T (.tup [x, y])) ∧ xs[i]? = some x ∧ ys[i]? = some y
  stop i H := (SqL K H a xs ∧ SqT K H b ys) ∧ (xs.length ≤ i ∨ ys.length ≤ i)
structure ZmAt (a b z TI TO i1 i2 : Addr) (n m i : Nat) (h : Heap) : Prop where
  l1 : i ≤ n
  l2 : i ≤ m
  hz : IsZip h z TI TO .none
  hI : IsTupOf2 h TI (.ref i1) (.ref i2)
  hO : ∃ x y, IsTupOf2 h TO x y
  j1 : h.IsListIter i1 a i
  j2 : h.IsTupleIter i2 b i
theorem in5 {z TI TO i1 i2 c : Addr} : c ∈ [z, TI, TO, i1, i2] ↔ (c = z ∨ c = TI ∨ c = TO ∨ c = i1 ∨ c = i2) := by simp
theorem turn_zipM {P : Program} {w : World} {K : PySem.W.Frag} {elts : List Expr} {kk : Nat} {tpos : Pos} {a b z TI TO i1 i2 : Addr} {xs ys : List V} (S : ZipSep2 z TI TO i1 i2 [i1, a] [i2, b]) :
    Turn P w K (.Tuple elts kk tpos) (ItZM K a b xs ys) [z, TI, TO, i1, i2] z (ZmAt a b z TI TO i1 i2 xs.length ys.length) where
  mem := in5.mpr (.inl rfl)
  obj := fun i h st c hc => by
    obtain ⟨x, y, hO⟩ := st.hO
    obtain ⟨o1, e1, _, d1⟩ := st.j1
    obtain ⟨o2, e2, _, d2⟩ := st.j2
    rcases in5.mp hc with rfl | rfl | rfl | rfl | rfl
    · exact ⟨_, st.hz, nofun⟩
    · exact ⟨_, st.hI, nofun⟩
    · exact ⟨_, hO, nofun⟩
    · exact ⟨o1, e1, fun v q => by rw [d1] at q; cases q⟩
    · exact ⟨o2, e2, fun v q => by rw [d2] at q; cases q⟩
  keep := fun i h h' st k => by
    obtain ⟨x, y, hO⟩ := st.hO
    exact ⟨st.l1, st.l2, k _ (in5.mpr (.inl rfl)) _ st.hz, k _ (by simp) _ st.hI, ⟨x, y, k _ (by simp) _ hO⟩, st.j1.at fun o => k _ (by simp) o, st.j2.at fun o => k _ (by simp) o⟩
  item := by
    intro X hP hw hK hc i pins s σ H E I hf st hg
    subst hP hw hK
    obtain ⟨⟨qx, qy⟩, g1, g2⟩ := hg
    obtain ⟨us, ru, p1, _⟩ := I.list qx
    obtain ⟨ws, rw', p2, _⟩ := I.tuple qy
    obtain ⟨x, hx⟩ : ∃ x, xs[i]? = some x := ⟨xs[i], List.getElem?_eq_getElem g1⟩
    obtain ⟨y, hy⟩ : ∃ y, ys[i]? = some y := ⟨ys[i], List.getElem?_eq_getElem g2⟩
    obtain ⟨u, hu, r1⟩ := ru.get hx
    obtain ⟨v, hv, r2⟩ := rw'.get hy
    obtain ⟨x0, y0, hO⟩ := st.hO
    have hd := I.ok.hd hc
    have a1 : a ≠ i1 := fun e => by
      obtain ⟨o1, e1, c1, _⟩ := st.j1
      obtain ⟨o2, e2, c2, _⟩ := p1.isList
      rw [e, e1] at e2; cases e2
      exact absurd (Value.type.inj (c1.symm.trans c2)) (by decide)
    have b2 : b ≠ i2 := fun e => by
      obtain ⟨o1, e1, c1, _⟩ := st.j2
      obtain ⟨o2, e2, c2, _⟩ := p2
      rw [e, e1] at e2; cases e2
      exact absurd (Value.type.inj (c1.symm.trans c2)) (by decide)
    have D1 := Draws.list (prog := X.prog) (w := X.w) (A := X.A.in1) hd i1 a a1 us.toArray
    have D2 := Draws.tuple (prog := X.prog) (w := X.w) (A := X.A.in1) hd i2 b b2 ws.toArray
    have n1 : i < us.toArray.size := by have := (List.getElem?_eq_some_iff.mp hu).1; simpa using this
    have n2 : i < ws.toArray.size := by have := (List.getElem?_eq_some_iff.mp hv).1; simpa using this
    refine wpAny_pyNext_zipD2_item S D1 D2 st.hz st.hI hO ⟨st.j1, p1.isList⟩ ⟨st.j2, p2⟩ n1 n2 fun u' v' h' tk eu ev hz' hO' s1 s2 hT hsz hk => ?_
    have eu : u' = u := by have q : us.toArray[i]? = some u := by simpa using hu
                           exact Option.some.inj (eu.symm.trans q)
    have ev : v' = v := by have q : ws.toArray[i]? = some v := by simpa using hv
                           exact Option.some.inj (ev.symm.trans q)
    subst eu ev
    refine ⟨_, rfl, wpAny_letOwnedTupleGo_zip (s := { s with heap := h', toks := tk }) hz' fun h2 hz2 sb => ?_⟩
    have lt : ∀ c ∈ [z, TI, TO, i1, i2], c < s.heap.objs.size := fun c hcm => by
      obtain ⟨o1, e1, _⟩ := st.j1
      obtain ⟨o2, e2, _⟩ := st.j2
      rcases in5.mp hcm with rfl | rfl | rfl | rfl | rfl
      · exact Heap.lt_size st.hz
      · exact Heap.lt_size st.hI
      · exact Heap.lt_size hO
      · exact Heap.lt_size e1
      · exact Heap.lt_size e2
    have hT2 : IsTupOf2 h2 s.heap.objs.size u' v' := (sb.2 _ (Nat.ne_of_gt (lt z (by simp)))).trans hT
    have keep2 : ∀ c o, c ∉ [z, TI, TO, i1, i2] → s.heap.get? c = some o → h2.get? c = some o := fun c o hn e => by
      rw [in5] at hn
      exact (sb.2 c fun q => hn (.inl q)).trans (hk c o (fun q => hn (.inl q)) (fun q => hn (.inr (.inr (.inl q)))) (fun q => hn (.inr (.inr (.inr (.inl q))))) (fun q => hn (.inr (.inr (.inr (.inr q))))) e)
    have new : ObjOk X.prog X.w (upd H s.heap.objs.size (.tup [x, y])) h2 s.heap.objs.size (.tup [x, y]) := ⟨by show 2 ≤ sizeLine; decide, [u', v'], .cons r1 (.cons r2 .nil), ⟨_, hT2, rfl, _, rfl⟩⟩
    refine ⟨.ref s.heap.objs.size, _, I.turnedNew (t' := tk) keep2 hf (Nat.le_refl _) new, rfl, ⟨_, x, y, ⟨rfl, I.hok.fresh (Nat.le_refl _), rfl⟩, hx, hy⟩, ⟨g1, g2, hz2, (sb.2 _ S.TIz).trans (hk _ _ S.TIz S.TITO S.TIi1 S.TIi2 st.hI), ⟨u', v', (sb.2 _ S.TOz).trans hO'⟩, s1.1.at fun o q => (sb.2 _ ?_).trans q, s2.1.at fun o q => (sb.2 _ ?_).trans q⟩, fun c hcm => ?_⟩
    · exact fun e => S.zf1 (by rw [← e]; exact S.mem1)
    · exact fun e => S.zf2 (by rw [← e]; exact S.mem2)
    · rw [upd_ne (Nat.ne_of_lt (lt c hcm))]
      exact (hf c hcm).1
  done := by
    intro X hP hw hK hc i pins s σ H E I hf st hg
    subst hP hw hK
    obtain ⟨⟨qx, qy⟩, he⟩ := hg
    obtain ⟨us, ru, p1, _⟩ := I.list qx
    obtain ⟨ws, rw', p2, _⟩ := I.tuple qy
    obtain ⟨x0, y0, hO⟩ := st.hO
    have hd := I.ok.hd hc
    have a1 : a ≠ i1 := fun e => by
      obtain ⟨o1, e1, c1, _⟩ := st.j1
      obtain ⟨o2, e2, c2, _⟩ := p1.isList
      rw [e, e1] at e2; cases e2
      exact absurd (Value.type.inj (c1.symm.trans c2)) (by decide)
    have b2 : b ≠ i2 := fun e => by
      obtain ⟨o1, e1, c1, _⟩ := st.j2
      obtain ⟨o2, e2, c2, _⟩ := p2
      rw [e, e1] at e2; cases e2
      exact absurd (Value.type.inj (c1.symm.trans c2)) (by decide)
    have e1 := ru.length
    have e2 := rw'.length
    have m1 := st.l1
    have m2 := st.l2
    have z1 : us.toArray.size = us.length := by simp
    have z2 : ws.toArray.size = ws.length := by simp
    refine wpAny_pyNext_zipD2_end S (Draws.list (A := X.A.in1) hd i1 a a1 us.toArray) (Draws.tuple (A := X.A.in1) hd i2 b b2 ws.toArray) st.hz st.hI hO ⟨st.j1, p1.isList⟩ ⟨st.j2, p2⟩ (by omega) (by omega) (by omega) fun h' tk hk => ⟨rfl, I.turnedL (t' := tk) (fun c o hn q => ?_) hf⟩
    rw [in5] at hn
    exact hk c o (fun q => hn (.inl q)) (fun q => hn (.inr (.inr (.inl q)))) (fun q => hn (.inr (.inr (.inr (.inl q))))) (fun q => hn (.inr (.inr (.inr (.inr q))))) q
  self := fun A i s Q E st h => wpAny_pyIter_zip st.hz h
variable {X : Cx} {Y : Fx}
/-- zip of a list with a list or a tuple -/
def iZipM (K : PySem.W.Frag) (ta : TA) : TI := fun σ H R => ta σ H fun vs H1 => ∃ a b xs ys, vs = [.ref a, .ref b] ∧ SqL K H1 a xs ∧ ((SqL K H1 b ys ∧ R (Itz K a b) H1) ∨ (SqT K H1 b ys ∧ R (ItZM K a b xs ys) H1))
theorem pi_zipM {e e2 : Expr} {ta : TA} {p pos tpos : Pos} {elts : List Expr} {kk : Nat} (hg : Gl X "zip") (hm : X.mg "zip" = none) (ha : PA X [e, e2] ta)
    (hs : starEach [e, e2] X.env = (false, eval e X.env) :: starEach [e2] X.env := by rfl) (hpl : (backTo pos (starEach [e2] X.env)).any (·.1) = false := by rfl) :
    PI X (.Tuple elts kk tpos) (.Call (.Name "zip" p) [e, e2] [] pos) (iZipM X.K ta) := ⟨fun pins s σ H R I h => by
  refine Call_ (ld_blt I hg hm PyProof.Rows.boot_zip (PyProof.Rows.callWith_type1 (thn (ha.run pos pins s σ H _ I h) fun us s1 ⟨vs, H1, I1, r1, a, b, xs, ys, ex, hqx, q⟩ => ?_) hs hpl))
  subst ex
  obtain ⟨va, vb, rfl, ra, rb⟩ := Vals.two r1
  cases ra
  cases rb
  have fresh5 : ∀ c ∈ [s1.heap.objs.size + 4, s1.heap.objs.size + 2, s1.heap.objs.size + 3, s1.heap.objs.size, s1.heap.objs.size + 1], FpOk X pins H1 c := fun c hcm => by
    have hle : s1.heap.objs.size ≤ c := by
      rcases in5.mp hcm with z | z | z | z | z <;> rw [z] <;> first | exact Nat.le_add_right _ _ | exact Nat.le_refl _
    exact I1.fpOk hle (I1.hok.fresh hle)
  obtain ⟨us, ru, p1, _⟩ := I1.list hqx
  rcases q with ⟨hqy, q⟩ | ⟨hqy, q⟩
  · obtain ⟨ws, rw', p2, _⟩ := I1.list hqy
    exact call_zip_2 p1.isList p2.isList fun h' hz hTI hTO h1 h2 hsz hk => wpAny_pyIter_zip hz ⟨_, _, _, _, H1, rfl, I1.kept (t' := s1.toks) hk, turn_zip (PySem.W.ktu_apart s1.heap.objs.size a b p1.lt p2.lt), ⟨hz, hTI, ⟨_, _, hTO⟩, h1, h2⟩, fresh5, q⟩
  · obtain ⟨ws, rw', p2, _⟩ := I1.tuple hqy
    obtain ⟨o2, e2, _⟩ := id p2
    have lt2 := Heap.lt_size e2
    have S := zip_sep2 (N := s1.heap.objs.size) (fp1 := [a]) (fp2 := [b]) (fun c hc => by rw [List.mem_singleton.mp hc]; exact p1.lt) (fun c hc => by rw [List.mem_singleton.mp hc]; exact lt2)
    refine zip_begins2 (begins_list a us.toArray) (begins_tuple b ws.toArray) p1.isList p2 fun h' hz hTI hTO h1 h2 hsz hk => wpAny_pyIter_zip hz ?_
    exact ⟨_, _, _, _, H1, rfl, I1.kept (t' := s1.toks) hk, turn_zipM (xs := xs) (ys := ys) S, ⟨Nat.zero_le _, Nat.zero_le _, hz, hTI, ⟨_, _, hTO⟩, ⟨_, h1, rfl, rfl⟩, ⟨_, h2, rfl, rfl⟩⟩, fresh5, q⟩⟩
theorem itOk_zipM {K : PySem.W.Frag} {F : Hp} {a b : Addr} {vs us : List V} {ds es : List PyData} (h : F a = some (.lst vs)) (h' : F b = some (.tup us)) (r : Rps K F ds vs) (r' : Rps K F es us) : ItOk K (ItZM K a b vs us) F (zipD ds es) where
  go := fun i H s hi => by
    rw [zipD_length, r.length, r'.length] at hi
    exact ⟨⟨SqL.of (s _ _ h), SqT.of (s _ _ h')⟩, by omega, by omega⟩
  stop := fun i H s hi => ⟨⟨SqL.of (s _ _ h), SqT.of (s _ _ h')⟩, by rw [zipD_length, r.length, r'.length] at hi; omega⟩
  yld := fun i H v H' x ⟨T, y, z, ⟨e1, e2, e3⟩, e4, e5⟩ s hx => by
    obtain ⟨d, e, q1, q2, q3⟩ := zipD_get hx
    obtain ⟨w, p1, p2⟩ := r.get q1
    obtain ⟨w', p3, p4⟩ := r'.get q2
    rw [e4] at p1; cases p1
    rw [e5] at p3; cases p3
    exact .inr ⟨T, _, _, e1, e2, e3, q3, rps_cons p2 (rps_cons p4 rps_nil)⟩
def dZipM (t : DTA) : DSrc := fun ρ n R => t ρ n fun xs n' => ∃ ds d es, xs = [.dat (.list ds), .dat d] ∧ seqD d = some es ∧ R (zipD ds es) n'
theorem di_zipM {e e2 : Expr} {t : DTA} {p pos tpos : Pos} {elts : List Expr} {kk : Nat} (hg : Gl X "zip") (hm : X.mg "zip" = none) (ha : WA Y X [e, e2] t)
    (hs : starEach [e, e2] X.env = (false, eval e X.env) :: starEach [e2] X.env := by rfl) (hs2 : (backTo pos (starEach [e2] X.env)).any (·.1) = false := by rfl) :
    DI Y X (.Tuple elts kk tpos) (.Call (.Name "zip" p) [e, e2] [] pos) (dZipM t) :=
  pi_imp (pi_zipM hg hm ha hs hs2) fun σ H R ⟨Z, F, ρ, n, Q, r, ht, k⟩ => ⟨Z, F, ρ, n, _, r, ht, fun xs n1 F1 H1 vs ⟨ds, d, es, e, hd, hx⟩ g1 s1 d1 w1 => by
    subst e
    obtain ⟨v1, v2, rfl, w1, w2⟩ := vr2 w1
    simp only [VR, Rp] at w1
    obtain ⟨a, us, rfl, h1, h2⟩ := w1
    have w2 : Rp X.K F1 d v2 := w2
    cases d with
    | list fs =>
      cases hd
      simp only [Rp] at w2
      obtain ⟨b, ws, rfl, h3, h4⟩ := w2
      exact ⟨a, b, us, ws, rfl, SqL.of (s1 _ _ h1), .inl ⟨SqL.of (s1 _ _ h3), k _ _ _ _ _ hx g1 s1 d1 (itOk_zip h1 h3 h2 h4)⟩⟩
    | tuple fs =>
      cases hd
      simp only [Rp] at w2
      obtain ⟨b, ws, rfl, h3, h4⟩ := w2
      exact ⟨a, b, us, ws, rfl, SqL.of (s1 _ _ h1), .inr ⟨SqT.of (s1 _ _ h3), k _ _ _ _ _ hx g1 s1 d1 (itOk_zipM h1 h3 h2 h4)⟩⟩
    | _ => cases hd⟩
end DL
namespace DL
open PySem PySem.Spec PyProof.Rows L2
variable {X : Cx} {Y : Fx}
/-! ### x = own.pop(e) -/
def dPopTo (i j : Nat) (t : DTE) : DTS := fun E ρ n => ∃ ds, ρ[j]? = some (some (.mt ds)) ∧ t ρ n fun x n' => ∃ (z : Int) (k : Nat) (d : PyData), x = .dat (.int z) ∧ (-(2 ^ 63) ≤ z ∧ z < 2 ^ 63) ∧ seqIndex? z ds.length = some k ∧ ds[k]? = some d ∧
  E.nx ((ρ.set j (some (.mt (ds.eraseIdx k)))).set i (some (.dat d))) n'
theorem ds_popTo {i j : Nat} {x : Str} {o e : Expr} {t : DTE} {pos pos' apos cpos : Pos} (hN : X.N.Nodup) (hi : X.N[i]? = some x) (hx : Loc X.env.scope x) (ho : PE X o (tVar j)) (he : WE Y X e t)
    (hbase : attributeBase o "pop" X.env (eval o X.env) = eval o X.env := by rfl)
    (hfew : ((backTo cpos (starEach [e] X.env)).all (fun x => !x.1) && (backToKw cpos (keywordEach [] X.env)).all (fun x => x.1.isSome)
      && decide (([e] : List Expr).length + ([] : List Keyword).length + (if ([] : List Keyword).isEmpty then 0 else 1) < 30)) = true := by rfl)
    (hline : (apos.endLine == cpos.line) = true := by rfl) (hst : starEach [e] X.env = (false, eval e X.env) :: starEach [] X.env := by rfl) (hplain : (backTo cpos (starEach [] X.env)).any (·.1) = false := by rfl)
    (hs : swapsWith (.Call (.Attribute o "pop" apos) [e] [] cpos) (some (.Name x pos')) pos.line X.env = pure false := by rfl)
    (hf : X.fn x = true ∨ X.env.scope.names.lookup x = some .local := by first | exact .inl rfl | exact .inr rfl | assumption) :
    DS Y X (.Assign [.Name x pos'] (.Call (.Attribute o "pop" apos) [e] [] cpos) pos) (dPopTo i j t) :=
  ps_imp (ps_set hN hi hx (pe_bm PySem.F.plainAttrs_list PySem.F.slot_list_pop PySem.F.type_list_pop mt_popAt ho (pa_cons he pa_nil hst) hbase hfew hline hst hplain) hs hf) fun D σ H ⟨Z, F, ρ, n, E, r, ⟨ds, e2, ht⟩, k⟩ => by
    obtain ⟨a, vs, q2, q3, q4⟩ := r.own e2
    refine ⟨_, q2, .inl ⟨rfl, vs, SqL.of q3⟩, Z, F, ρ, n, _, r, ht, fun x n1 F1 H1 u hx g1 s1 d1 wx => ?_⟩
    obtain ⟨z, kk, d, rfl, hz, hk, hd, hx⟩ := hx
    have r1 := r.step g1 s1 d1
    obtain ⟨a', vs', q5, q6, q7⟩ := r1.own e2
    rw [q2] at q5; cases q5
    obtain ⟨y, hy, ry⟩ := q7.get hd
    simp only [VR, Rp] at wx
    subst wx
    exact ⟨a, vs', z, kk, y, rfl, rfl, q6, hz.1, hz.2, by rw [← q7.length]; exact hk, hy, k.nx _ _ _ _ _ hx ((r1.mut e2 q2 (q7.erase kk)).setD i ry)⟩
end DL
set_option maxHeartbeats 4000000
namespace DL
open PySem PySem.Spec PyProof.Rows L2
/-! ### sorted(set(a list of ints)) -/
/-- a set just made -/
abbrev nsO (w : World) : Obj := { cls := .type "set", dict := none, data := .set #[] 0 (.fresh 0 0 (!w.params.followText "set-order")) }
section
variable {P : Program} {w : World} {A : Around} {E : Value → Shared → Prop} {s : Shared}
/-- what its start leaves -/
def Made (w : World) (s : Shared) (xs : List Int) (r : Value) (s2 : Shared) : Prop :=
  r = .none ∧ ∃ g k m, s2 = { s with heap := g, toks := k } ∧ SetR w g s.heap.objs.size (fun j => decide (j ∈ xs)) m ∧ m ≤ xs.length ∧ ∀ b o, s.heap.get? b = some o → g.get? b = some o
theorem made_from {l : Addr} {it : Array Value} (xs : List Int) (h0 : A.handled = none) (hl : s.heap.IsList l it) (hx : IntsAre it.toList xs) (hb : xs.length + 1 < scanBound) :
    codeAny (model P w) A (.call (.builtin "set.__init__") ⟨[.ref s.heap.objs.size, .ref l], []⟩) (wants (Made w s xs) E) { s with heap := s.heap.push (nsO w) } := by
  have top : (s.heap.push (nsO w)).get? s.heap.objs.size = some (nsO w) := Heap.get?_push_size _ rfl
  have ty : Shared.TypeIs { s with heap := s.heap.push (nsO w) } (.ref s.heap.objs.size) "set" := ⟨_, top, rfl⟩
  have len : it.size = xs.length := by have q := hx.length; rwa [Array.length_toList] at q
  refine codeAny_call_builtin F.called_set.init.plain F.entry_set_init (check_set_init_1 ty ?_)
  obtain ⟨⟨c, d, dt, sl⟩, at1, c1, z, d1⟩ := hl
  simp only at c1 d1
  subst c1; subst d1
  have lt : l < s.heap.objs.size := Heap.lt_size at1
  have at2 := Heap.get?_push_of_some (nsO w) at1
  have list2 : (s.heap.push (nsO w)).IsList l it := ⟨_, at2, rfl, z, rfl⟩
  have no1 := F.sub_list_set
  have no2 := F.sub_list_frozenset
  have no3 : (Value.type "list" == Value.type "dict") = false := by decide
  have quiet : A.in1.in1.handled = none := by simp [h0]
  have n1 : (s.heap.push (nsO w)).objs.size = s.heap.objs.size + 1 := Heap.size_push ..
  have apart : l ≠ (s.heap.push (nsO w)).objs.size := by rw [n1]; exact Nat.ne_of_lt (Nat.lt_succ_of_lt lt)
  unfold Builtin.«set.__init__» noKeywords Builtin.Frozenset.updateFrom
  generalize hit : pyIter = go
  wp_walk
  subst hit
  refine wpAny_pyIter_list list2 (wpAny_bind (wpAny_runValue ?_))
  refine set_update_ints ((Walks.list quiet _ l apart it).toS) s.heap.objs.size ?nin xs len hb ?vals (it.size - 0) 0 _ (by omega) (Nat.zero_le _) ?st ?one ?fin
  case st => exact ⟨⟨_, Heap.get?_push_size _ rfl, rfl, rfl⟩, list2.push _⟩
  case one => exact ⟨0, Nat.le_refl 0, setR_new_at (Heap.get?_push_of_some _ top)⟩
  case nin =>
    intro q
    rcases List.mem_cons.mp q with q | q
    · rw [n1] at q; exact absurd q (Nat.ne_of_lt (Nat.lt_succ_self _))
    · exact absurd (List.mem_singleton.mp q) (Nat.ne_of_gt lt)
  case vals =>
    intro i v e
    have lt2 : i < xs.length := by rw [← len]; exact (Array.getElem?_eq_some_iff.mp e).1
    obtain ⟨t, e2⟩ := hx.int_at i v (by rw [Array.getElem?_toList]; exact e)
    rw [List.getD_eq_getElem?_getD, List.getElem?_eq_getElem lt2] at e2
    exact ⟨_, t, List.getElem?_eq_getElem lt2, e2⟩
  case fin =>
    rintro ⟨g, gs, dr, tk, os⟩ m mv le R
    obtain rfl : gs = s.gens := mv.gens
    obtain rfl : dr = s.drawn := mv.drawn
    obtain rfl : os = s.os := mv.os
    refine wpAny_pure ?_
    refine wpAny_pure ⟨rfl, g, tk, m, rfl, R, by omega, fun b o e => mv.heap b o (fun q => ?_) (Heap.get?_push_of_some _ (Heap.get?_push_of_some _ e))⟩
    have lt3 : b < s.heap.objs.size := Heap.lt_size e
    rcases List.mem_cons.mp q with q | q
    · exact absurd q (Nat.ne_of_lt lt3)
    · have q := List.mem_singleton.mp q
      rw [n1] at q
      exact absurd q (Nat.ne_of_lt (Nat.lt_succ_of_lt lt3))
theorem call_setL {l : Addr} {it : Array Value} (xs : List Int) {Q : Value → Shared → Prop} (h0 : A.handled = none) (hl : s.heap.IsList l it) (hx : IntsAre it.toList xs) (hb : xs.length + 1 < scanBound)
    (hQ : ∀ g k m, SetR w g s.heap.objs.size (fun j => decide (j ∈ xs)) m → m ≤ xs.length → (∀ b o, s.heap.get? b = some o → g.get? b = some o) → Q (.ref s.heap.objs.size) { s with heap := g, toks := k }) :
    wpAny (model P w) A (call (.type "set") [.ref l]) Q E s := by
  obtain ⟨_, _, order⟩ := F.called_set.mro
  have e1 := F.called_set.made
  have e2 := F.called_set.sub
  refine wpAny_call (codeAny_of_tree ?_)
  show wpAny _ _ (callAny (.type "set") _) _ _ _
  refine wpAny_pure ⟨Code.quiet_builtin _ (by decide +kernel), codeAny_builtin F.entry_type_call ?_⟩
  rw [Around.under_plain (weight_type_call_type "set" [.ref l] []) rfl]
  have e3 := F.called_set.notType
  have e4 := F.called_set.canCreate
  have e5 := F.typeCall_set_1 (.ref l)
  repeat (any_goals (first | assumption | wp_step))
  refine codeAny_mono (code_set_led1 (.ref l) (E := E) (Q₁ := fun v z => v = .ref s.heap.objs.size ∧ z = { s with heap := s.heap.push (nsO w) }) ⟨rfl, rfl⟩) fun r z hr => ?_
  match r, hr with
  | .error e, hr => exact hr
  | .ok (.ret v), hr =>
    obtain ⟨rfl, rfl⟩ := hr
    have ty : Shared.TypeIs { s with heap := s.heap.push (nsO w) } (.ref s.heap.objs.size) "set" := ⟨_, Heap.get?_push_size _ rfl, rfl⟩
    have e6 := F.called_set.init.lookup
    have e7 := F.called_set.init.bind (.ref s.heap.objs.size)
    repeat (any_goals (first | assumption | wp_step))
    refine codeAny_mono (made_from (E := E) xs h0 hl hx hb) fun r z hr => ?_
    match r, hr with
    | .error e, hr => exact hr
    | .ok (.ret v), hr =>
      obtain ⟨rfl, g, k, m, rfl, R, le, keep⟩ := hr
      repeat (any_goals (first | assumption | wp_step))
      exact hQ _ _ _ R le keep
end
theorem fewOf : ∀ {ms l : List Int}, ms.Nodup → (∀ x ∈ ms, x ∈ l) → ms.length ≤ l.length
  | [], _, _, _ => Nat.zero_le _
  | x :: ms, l, h, hs => by
    obtain ⟨h1, h2⟩ := List.nodup_cons.mp h
    have hx := hs x (by simp)
    have ih := fewOf (l := l.erase x) h2 fun y hy => (List.mem_erase_of_ne (fun e => h1 (by rw [← e]; exact hy))).mpr (hs y (by simp [hy]))
    rw [List.length_erase_of_mem hx] at ih
    have := List.length_pos_of_mem hx
    rw [List.length_cons]
    omega
section
variable {X : Cx} {Y : Fx}
def rSetLi (K : PySem.W.Frag) (w : World) : List V → Hp → VK → Prop := fun vs H Q => ∃ (a : Addr) (ns ks : List Int), vs = [.ref a] ∧ SqL K H a (ns.map V.int) ∧ ns.length ≤ 4000 ∧ (∀ k ∈ ns, k ∈ ks) ∧ ∀ p n, H p = none → n ≤ ks.length → Q (.ref p) (upd H p (SetO w p (fun j => decide (j ∈ ns)) n))
theorem cr_setLi (hc : X.calm = true) : CallR X (.type "set") (rSetLi X.K X.w) := by
  intro pins s σ H vs us Q I r h
  obtain ⟨a, ns, ks, rfl, hs, hl, hk, q⟩ := h
  obtain ⟨its, rv, p, hz⟩ := I.list hs
  rw [Vals.ref1 r]
  refine call_setL ns (I.ok.hd hc) p.isList (by simpa using intsAre_of rv) (Nat.lt_of_le_of_lt (Nat.succ_le_succ hl) (by decide)) fun g k m R le keep => ?_
  have few : m ≤ ks.length := by
    obtain ⟨o, es, ep, t, _, _, _, _, nd, hm, _, _, hn, _⟩ := R
    have := fewOf nd fun x hx => hk x (of_decide_eq_true ((hm x).mpr hx))
    rw [List.length_map, Array.length_toList, hn] at this
    exact this
  exact ⟨.ref _, upd H s.heap.objs.size (SetO X.w s.heap.objs.size (fun j => decide (j ∈ ns)) m), I.laid (t' := k) keep (Nat.le_refl _) (setO_new R), rfl, q _ m (I.hok.fresh (Nat.le_refl _)) few⟩
def mSortSetL (t : DTE) : DTM := fun ρ n R => t ρ n fun x n' => ∃ ns ks : List Int, x = .dat (.list (ns.map .int)) ∧ ns.length ≤ 4000 ∧ (∀ k ∈ ns, k ∈ ks) ∧ ks.length ≤ 63 ∧ ∀ ms : List Int, ms.Pairwise (· < ·) → (∀ k, k ∈ ms ↔ k ∈ ns) → R (ms.map .int) n'
theorem me_sortedSetL {e : Expr} {t : DTE} {p p2 pos pos2 : Pos} (hc : X.calm = true) (hg : Gl X "sorted") (hm : X.mg "sorted" = none) (hg2 : Gl X "set") (hm2 : X.mg "set" = none) (he : WE Y X e t)
    (h1 : starEach [e] X.env = (false, eval e X.env) :: starEach [] X.env := by rfl) (h2 : (backTo pos2 (starEach [] X.env)).any (·.1) = false := by rfl)
    (h3 : starEach [.Call (.Name "set" p2) [e] [] pos2] X.env = (false, eval (.Call (.Name "set" p2) [e] [] pos2) X.env) :: starEach [] X.env := by rfl) (h4 : (backTo pos (starEach [] X.env)).any (·.1) = false := by rfl) :
    ME Y X (.Call (.Name "sorted" p) [.Call (.Name "set" p2) [e] [] pos2] [] pos) (mSortSetL t) :=
  pe_imp (pe_callB (cr_sortedSet hc) hg hm PyProof.Rows.boot_sorted (pa_cons (pe_callTy (cr_setLi hc) hg2 hm2 (by rfl) (pa_cons he pa_nil h1) (by decide) (by decide) h1 h2) pa_nil h3) (by decide) (by decide) h3 h4) fun σ H Q ⟨Z, F, ρ, n, R, r, ht, k⟩ =>
    ⟨Z, F, ρ, n, _, r, ht, fun x n1 F1 H1 v hx g1 s1 d1 w1 => by
      obtain ⟨ns, ks, rfl, hl, hks, hkl, hx⟩ := hx
      simp only [VR, Rp] at w1
      obtain ⟨a, us, rfl, e1, e2⟩ := w1
      rw [e2.ints] at e1
      have r1 := r.step g1 s1 d1
      refine ⟨a, ns, ks, rfl, SqL.of (s1 _ _ e1), by omega, hks, fun p c hp hcn => ⟨p, _, c, rfl, upd_same, by omega, fun ms q m1 m2 _ hq => ?_⟩⟩
      obtain ⟨g2, s2⟩ := Gp.newM (o := SetO X.w p (fun j => decide (j ∈ ns)) c) hp s1
      have r2 := r1.step g2.gr s2 (g2.dk r1.b)
      obtain ⟨g3, s3⟩ := Gp.newM (o := .lst (ms.map V.int)) hq s2
      have hq0 : H q = none := by
        cases e : H q with
        | none => rfl
        | some o => exact absurd hq ((g1.trans g2.gr).dH q (by rw [e]; nofun))
      exact k (ms.map .int) n1 F1 _ q _ (hx ms m1 fun k => (m2 k).trans (by simp)) ((g1.trans g2.gr).trans g3.gr) s3 (g3.dk r2.b) hq0 (s2.free hq) upd_same (rps_ints ms)⟩
end
end DL
namespace DL
open PySem PySem.Spec PyProof.Rows L2
variable {X : Cx} {Y : Fx}
/-! ### texts: a + b, str(n), sep.join(list), f"..", a or b; a text of the program's top -/
def oAddS : D2 := fun x y R => ∃ a b : Str, x = .dat (.str a) ∧ y = .dat (.str b) ∧ a.length + b.length ≤ sizeLine ∧ R (.str (a ++ b))
abbrev rAddS : R2 := fun x y H Q => ∃ i j, x = .str i ∧ y = .str j ∧ i.length + j.length ≤ sizeLine ∧ Q (.str (i ++ j)) H
theorem bi_addS {K : PySem.W.Frag} : BinOk K rAddS oAddS := fun δ F H x y v u R Q hs hx hy ⟨a, b, e1, e2, hl, hr⟩ bk => by
  subst e1 e2
  simp only [VR, Rp] at hx hy
  exact ⟨a, b, hx, hy, hl, bk.here hs hr (by simp [Rp])⟩
def oStr : DC := fun xs R => ∃ i : Int, xs = [.dat (.int i)] ∧ i.natAbs.log2 < 1920 ∧ R (.str (toString i))
theorem cr_str {K : PySem.W.Frag} : CallOk K (fun xs H Q => ∃ i, xs = [.int i] ∧ i.natAbs.log2 < 1920 ∧ Q (.str (toString i)) H) oStr := fun δ F H xs vs R Q hs hv ⟨i, e, hl, hr⟩ bk => by
  subst e
  obtain ⟨v, rfl, h⟩ := vr1 hv
  simp only [VR, Rp] at h
  subst h
  exact ⟨i, rfl, hl, bk.here hs hr (by simp [Rp])⟩
theorem we_gstr {x : Str} {i : Str} {t : Tok} {pos : Pos} (hg : Gl X x) (hm : X.mg x = some (.str i t)) (hd : (x == ("__debug__" : Str)) = false := by decide) : WE Y X (.Name x pos) (dC (.str i)) :=
  we_c (pe_glob (v := .str i) hg hm ⟨_, rfl⟩ hd) fun _ => by simp [Rp]
def dJoin (t u : DTE) : DTE := fun ρ n R => t ρ n fun x n1 => ∃ a : Str, x = .dat (.str a) ∧ u ρ n1 fun y n2 => ∃ ys : List Str, y = .dat (.list (ys.map .str)) ∧ (ys.map (·.length)).sum + ys.length * a.length ≤ 16777216 ∧ R (.dat (.str (Txt.join a ys))) n2
theorem we_join {o e : Expr} {t u : DTE} {apos pos : Pos} (ho : WE Y X o t) (he : WE Y X e u) (h1 : starEach [e] X.env = [(false, eval e X.env)] := by rfl)
    (h2 : attributeBase o "join" X.env (eval o X.env) = eval o X.env := by rfl) (h3 : (apos.endLine == pos.line) = true := by rfl) : WE Y X (.Call (.Attribute o "join" apos) [e] [] pos) (dJoin t u) :=
  pe_imp (pe_join ho he h1 h2 h3) fun σ H Q ⟨Z, F, ρ, n, R, r, ht, k⟩ => ⟨Z, F, ρ, n, _, r, ht, fun x n1 F1 H1 v ⟨a, e1, hx⟩ g1 s1 d1 w1 => by
    subst e1
    simp only [VR, Rp] at w1
    subst w1
    refine ⟨⟨a, rfl⟩, Z, F1, ρ, n1, _, r.step g1 s1 d1, hx, fun y n2 F2 H2 u2 ⟨ys, e2, hb, hy⟩ g2 s2 d2 w2 => ?_⟩
    subst e2
    simp only [VR, Rp] at w2
    obtain ⟨p, vs, rfl, p1, p2⟩ := w2
    rw [p2.strs] at p1
    exact ⟨a, p, ys, rfl, rfl, .inl (SqL.of (s2 _ _ p1)), hb, k _ _ _ _ _ hy (g1.trans g2) s2 d2 (by simp [VR, Rp])⟩⟩
def dFmt (t : DTE) : DTE := fun ρ n R => t ρ n fun x n1 => ∃ y : Str, x = .dat (.str y) ∧ y.length ≤ sizeLine ∧ R (.dat (.str y)) n1
theorem we_fmt {e : Expr} {t : DTE} {pos : Pos} (h : WE Y X e t) : WE Y X (.FormattedValue e (-1) none pos) (dFmt t) :=
  pe_imp (pe_fmt h) fun σ H Q ⟨Z, F, ρ, n, R, r, ht, k⟩ => ⟨Z, F, ρ, n, _, r, ht, fun x n1 F1 H1 v ⟨a, e1, hl, hx⟩ g1 s1 d1 w1 => by
    subst e1
    simp only [VR, Rp] at w1
    subst w1
    exact .inl ⟨a, rfl, hl, k _ _ _ _ _ hx g1 s1 d1 (by simp [VR, Rp])⟩⟩
def dJs : List DTE → Str → List (Option Dv) → Wo → (Str → Wo → Prop) → Prop
  | [], acc, _, n, R => R acc n
  | t :: ts, acc, ρ, n, R => t ρ n fun x n1 => ∃ y : Str, x = .dat (.str y) ∧ (acc ++ y).length ≤ sizeLine ∧ dJs ts (acc ++ y) ρ n1 R
inductive WJ Y (X : Cx) : List Expr → List DTE → Prop
  | nil : WJ Y X [] []
  | cons {e : Expr} {t : DTE} {es : List Expr} {ts : List DTE} (h : WE Y X e t) (hs : WJ Y X es ts) : WJ Y X (e :: es) (t :: ts)
theorem WJ.pj {es : List Expr} {ts : List DTE} (h : WJ Y X es ts) : PJ X es (ts.map (up Y X.K)) := by
  induction h with
  | nil => exact .nil
  | cons h _ ih => exact .cons h ih
theorem js_up {K : PySem.W.Frag} {Q : Str → Hp → Prop} : ∀ (ts : List DTE) (acc : Str) {Z F H σ ρ n} {R : Str → Wo → Prop}, SR Y K Z F H σ ρ n → dJs ts acc ρ n R →
    (∀ out n' F' H', R out n' → Gr Z.δ F H F' H' → Same F' H' → Z.δ.at_ K F' H' n' → Q out H') → tJs (ts.map (up Y K)) acc σ H Q
  | [], acc, Z, F, H, σ, ρ, n, R, r, h, k => k _ _ _ _ h Gr.refl r.b.sub r.b.dk
  | t :: ts, acc, Z, F, H, σ, ρ, n, R, r, h, k =>
    ⟨Z, F, ρ, n, _, r, h, fun x n1 F1 H1 v ⟨y, e, hl, hx⟩ g1 s1 d1 w1 => by
      subst e
      simp only [VR, Rp] at w1
      subst w1
      exact ⟨y, rfl, hl, js_up ts (acc ++ y) (r.step g1 s1 d1) hx fun out n' F' H' hr g2 s2 d2 => k out n' F' H' hr (g1.trans g2) s2 d2⟩⟩
def dFs (ts : List DTE) : DTE := fun ρ n R => dJs ts Str.empty ρ n fun out n1 => R (.dat (.str out)) n1
theorem we_fstr {v1 v2 : Expr} {rest : List Expr} {ts : List DTE} {pos : Pos} (h : WJ Y X (v1 :: v2 :: rest) ts) : WE Y X (.JoinedStr (v1 :: v2 :: rest) pos) (dFs ts) :=
  pe_imp (pe_joined h.pj) fun σ H Q ⟨Z, F, ρ, n, R, r, ht, k⟩ => js_up ts Str.empty r ht fun out n' F' H' hr g s d => k _ _ _ _ _ hr g s d (by simp [VR, Rp])
def dOrS (t u : DTE) : DTE := fun ρ n R => t ρ n fun x n1 => ∃ s : Str, x = .dat (.str s) ∧ s.length ≤ sizeLine ∧ if s.length = 0 then u ρ n1 R else R (.dat (.str s)) n1
theorem we_orS {a b : Expr} {rest : List Expr} {t u : DTE} {pos : Pos} (ha : WE Y X a t) (hb : WE Y X (.BoolOp .Or (b :: rest) pos) u) : WE Y X (.BoolOp .Or (a :: b :: rest) pos) (dOrS t u) :=
  pe_imp (pe_orT ha hb) fun σ H Q ⟨Z, F, ρ, n, R, r, ht, k⟩ => ⟨Z, F, ρ, n, _, r, ht, fun x n1 F1 H1 v ⟨s, e, hl, hx⟩ g1 s1 d1 w1 => by
    subst e
    simp only [VR, Rp] at w1
    subst w1
    refine ⟨((s.length : Int) != 0), ⟨hl, rfl⟩, ?_⟩
    by_cases h0 : s.length = 0
    · rw [if_pos h0] at hx
      rw [if_neg (by simp [h0])]
      exact ⟨Z, F1, ρ, n1, _, r.step g1 s1 d1, hx, fun y n2 F2 H2 v2 hy g2 s2 d2 w2 => k _ _ _ _ _ hy (g1.trans g2) s2 d2 w2⟩
    · rw [if_neg h0] at hx
      rw [if_pos (by simp; omega)]
      exact k _ _ _ _ _ hx g1 s1 d1 (by simp [VR, Rp])⟩
/-! ### an own list, from here on only read -/
def dThaw (i : Nat) (t : DTS) : DTS := fun E ρ n => ∃ ds, ρ[i]? = some (some (.mt ds)) ∧ t E (ρ.set i (some (.dat (.list ds)))) n
theorem dss_thaw {i : Nat} {sts : List Stmt} {t : DTS} (h : DSs Y X sts t) : DSs Y X sts (dThaw i t) :=
  pss_imp h fun D σ H ⟨Z, F, ρ, n, E, r, ⟨ds, e, hx⟩, k⟩ => by
    obtain ⟨F', a, e1, r', _⟩ := r.freeze e
    exact ⟨Z, F', _, n, E, r', hx, k⟩
end DL
namespace DL
open PySem PySem.Spec PyProof.Rows L2
variable {X : Cx} {Y : Fx}
/-! ### a, b = {k: v}, e -/
theorem pe_negc {i : Int} {j : Nat} {p pos : Pos} : PE X (.UnaryOp .USub (.Constant (.int i) j p) pos) (tC (.int (-i))) :=
  pe_imp (pe_un un_neg pe_int) fun σ H Q h => ⟨i, rfl, h⟩
def dPar2D (i j : Nat) (a b : Int) (t : DTE) : DTS := fun E ρ n => t ρ n fun x n' => needD x fun d => ∀ p : Addr, E.nx ((ρ.set j (some (.dat d))).set i (some (.md p [(.inl a, .int b)]))) n'
theorem ds_par2D {i j : Nat} {a b : Int} {x y : Str} {e ke ve : Expr} {t : DTE} {px py pt pos pd : Pos} {kt k2 pt2} (hc : X.calm = true) (hij : i ≠ j) (hp : PGs X [.Name x px, .Name y py] (gCons (gName i) (gCons (gName j) gNil))) (hk : PE X ke (tC (.int a))) (hv : PE X ve (tC (.int b))) (he : WE Y X e t)
    (hw : swappedStores [.Tuple [.Name x px, .Name y py] kt pt] (.Tuple [.Dict [some ke] [ve] pd, e] k2 pt2) X.env = pure none)
    (hs : swapsWithSole [.Tuple [.Name x px, .Name y py] kt pt] (.Tuple [.Dict [some ke] [ve] pd, e] k2 pt2) pos.line X.env = pure false := by rfl)
    (hn : (assignEach [.Name x px, .Name y py] X.env).length = 2 := by rfl) (hst : (assignEach [.Name x px, .Name y py] X.env).findIdx? (·.1) = none := by rfl)
    (h0 : (assignEach [.Tuple [.Name x px, .Name y py] kt pt] X.env).map (·.2) = [assign (.Tuple [.Name x px, .Name y py] kt pt) X.env] := by rfl)
    (h1 : starEach [.Dict [some ke] [ve] pd, e] X.env = (false, eval (.Dict [some ke] [ve] pd) X.env) :: starEach [e] X.env := by rfl) (h2 : starEach [e] X.env = (false, eval e X.env) :: starEach [] X.env := by rfl) :
    DS Y X (.Assign [.Tuple [.Name x px, .Name y py] kt pt] (.Tuple [.Dict [some ke] [ve] pd, e] k2 pt2) pos) (dPar2D i j a b t) :=
  ps_imp (ps_asg (pe_tup (pa_cons (pe_disp (pps_cons hk hv pps_nil) rfl rfl (by simp) (by decide : 1 ≤ 15)) (pa_cons he pa_nil h2) h1)) (pg_tup hc hp hn hst) hs hw h0) fun D σ H ⟨Z, F, ρ, n, E, r, ht, k⟩ => fun p hp0 => by
    refine ⟨upd_same, [(.inl a, .int b)], rfl, (by decide : 1 ≤ 15), ?_⟩
    rw [show upd (upd H p (.dK [])) p (.dK (mergeK [] [((.inl a : Key), V.int b)])) = upd H p (.dK [(.inl a, .int b)]) from upd_upd]
    obtain ⟨g2, s2⟩ := Gp.newM (o := .dK [(.inl a, .int b)]) hp0 r.b.sub
    have r2 := r.step g2.gr s2 (g2.dk r.b)
    refine ⟨Z, F, ρ, n, _, r2, ht, fun x1 n1 F1 H1 v hx g1 s1 d1 w1 => ?_⟩
    obtain ⟨d, rfl, hx⟩ := needD_is hx
    refine ⟨by show 2 ≤ sizeLine; decide, fun q hq => ⟨q, _, rfl, SqT.of upd_same, rfl, .ref p, _, rfl, v, _, rfl, rfl, ?_⟩⟩
    have r3 := r2.step g1 s1 d1
    obtain ⟨g4, s4⟩ := Gp.newM (o := .tup [.ref p, v]) hq s1
    have r4 := r3.step g4.gr s4 (g4.dk r3.b)
    have fp : F p = none := r.b.sub.free hp0
    have np : p ∉ Z.δ.own := fun h => (r.b.dkF p h).2 hp0
    have hp1 : H1 p = some (.dK [(.inl a, .int b)]) := g1.kH p _ np upd_same rfl
    have fp1 : F1 p = none := g1.nF p (by rw [upd_same]; nofun) fp
    have r5 := r4.setD j w1
    have r6 := r5.set (Hs := H) i (x := .md p [(.inl a, .int b)]) (v := .ref p) ⟨rfl, hp0, fp1, g4.sH _ _ hp1⟩ (fun q hq => r.fresh hq) fun q hq m y hml hm hy e2 => by
      by_cases z : j = m
      · subst z
        by_cases hj : j < ρ.length
        · rw [List.getElem?_set_self hj] at hm; cases hm; simp [Dv.isL] at hy
        · rw [List.getElem?_eq_none (by simpa using hj)] at hm; cases hm
      · rw [List.getElem?_set_ne z] at hm e2
        exact r.inH hm hy e2 hq
    have es : (σ.set j (some v)).set i (some (.ref p)) = (σ.set i (some (.ref p))).set j (some v) := List.set_comm _ _ (Ne.symm hij)
    rw [es] at r6
    exact k.nx _ _ _ _ _ (hx p) r6
end DL
namespace DL
open PySem PySem.Spec PyProof.Rows L2
variable {X : Cx} {Y : Fx}
/-! ### repr of data with dicts in it -/
theorem isInt_of {k : Int} {v : Value} (h : Value.isInt k v = true) : ∃ t, v = .int k t := by
  unfold Value.isInt at h
  split at h
  · have := of_decide_eq_true h
    subst this
    exact ⟨_, rfl⟩
  · cases h
theorem isStr_of {k : Str} {v : Value} (h : Value.isStrOf k v = true) : ∃ t, v = .str k t := by
  unfold Value.isStrOf at h
  split at h
  · have := eq_of_beq h
    subst this
    exact ⟨_, rfl⟩
  · cases h
theorem dict_entries {prog : Program} {w : World} : ∀ {ps : List (Key × Int)} {es : List DictEntry} {vs : List (Key × Value)}, Pairs (mixKind prog w) es vs → KV (ps.map fun p => (p.1, V.int p.2)) vs →
    ∀ h : Heap, ReadsAll h (es.map (·.key)) (ps.map fun p => keyD p.1) [] ∧ ReadsAll h (es.map (·.val)) (ps.map fun p => PyData.int p.2) []
  | [], es, vs, hp, hk, h => by
    cases hk
    cases hp
    exact ⟨.nil, .nil⟩
  | p :: ps, es, vs, hp, hk, h => by
    cases hk with
    | cons a b =>
      cases hp with
      | cons c d e =>
        obtain ⟨i1, i2⟩ := dict_entries e b h
        obtain ⟨a1, a2⟩ := a
        obtain ⟨t, a2⟩ := a2
        rw [← a1] at c
        refine ⟨?_, ?_⟩
        · cases hk1 : p.1 with
          | inl i =>
            rw [hk1] at c
            obtain ⟨t, ht⟩ := isInt_of c
            rw [List.map_cons, List.map_cons, hk1, ht]
            exact .cons (as := []) (.int i t) i1
          | inr x =>
            rw [hk1] at c
            obtain ⟨t, ht⟩ := isStr_of c
            rw [List.map_cons, List.map_cons, hk1, ht]
            exact .cons (as := []) (.str x t) i1
        · rw [List.map_cons, List.map_cons, d, a2]
          exact .cons (as := []) (.int p.2 t) i2
section
variable {pins : List (Addr × Obj)} {σ : L2.St} {H : Hp} {s : Shared}
theorem ref_hidden (a : Addr) : (refD a).showable = false := by
  show PyData.showable (.dict [(.none, .int (((2 : Nat) ^ 2000 + a : Nat) : Int))]) = false
  simp only [PyData.showable, PyData.showableKv, Bool.true_and, Bool.and_true]
  refine decide_eq_false fun h => ?_
  have e : ((((2 : Nat) ^ 2000 + a : Nat) : Int)).natAbs = 2 ^ 2000 + a := Int.natAbs_natCast _
  rw [e] at h
  have h2 : 2000 ≤ (2 ^ 2000 + a).log2 := (Nat.le_log2 (by have := Nat.two_pow_pos 2000; omega)).mpr (Nat.le_add_right _ _)
  omega
theorem ref_unshown {kvs : List (PyData × PyData)} {v : V} (hs : (PyData.dict kvs).showable = true) : ¬ ∃ a : Addr, PyData.dict kvs = refD a ∧ v = .ref a := fun ⟨a, e, _⟩ => by
  rw [e, ref_hidden] at hs
  cases hs
mutual
theorem Rp.readsE (I : Inv X pins σ H s) : ∀ (d : PyData) (v : V) (u : Value), Rp X.K H d v → L2.RelV v u → d.showable = true → ∃ as, Reads s.heap u d as
  | .none, v, u, h, r, _ => by simp only [Rp] at h; subst h; cases r; exact ⟨[], .none⟩
  | .bool b, v, u, h, r, _ => by simp only [Rp] at h; subst h; cases r; exact ⟨[], .bool b⟩
  | .int i, v, u, h, r, _ => by simp only [Rp] at h; subst h; obtain ⟨t, rfl⟩ := r; exact ⟨[], .int i t⟩
  | .str x, v, u, h, r, _ => by simp only [Rp] at h; subst h; obtain ⟨t, rfl⟩ := r; exact ⟨[], .str x t⟩
  | .list ds, v, u, h, r, hs => by
    simp only [Rp] at h
    obtain ⟨a, xs, rfl, h1, h2⟩ := h
    cases r
    obtain ⟨_, its, n, hv, hg⟩ := I.hok a _ h1
    obtain ⟨as, hr⟩ := Rps.readsE I ds xs its h2 hv (by simpa only [PyData.showable] using hs)
    exact ⟨a :: as, .list hg rfl rfl hr⟩
  | .tuple ds, v, u, h, r, hs => by
    simp only [Rp] at h
    obtain ⟨a, xs, rfl, h1, h2⟩ := h
    cases r
    obtain ⟨_, its, hv, o, hg, hc, n, hd⟩ := I.hok a _ h1
    obtain ⟨as, hr⟩ := Rps.readsE I ds xs its h2 hv (by simpa only [PyData.showable] using hs)
    exact ⟨as, .tuple hg hc hd hr⟩
  | .dict kvs, v, u, h, r, hs => by
    simp only [Rp] at h
    obtain ⟨a, ks, rfl, h1, ps, rfl, rfl⟩ := h.resolve_right (ref_unshown hs)
    cases r
    obtain ⟨_, _, vs, hk, o, es, ep, hg, hx, hd, _, hp, _⟩ := dk_of I.hok h1
    obtain ⟨r1, r2⟩ := dict_entries hp hk s.heap
    refine ⟨_, .dict hg hx.1 hd (as := []) (bs := []) ?_ ?_⟩
    · rw [List.map_map]; exact r1
    · rw [List.map_map]; exact r2
theorem Rps.readsE (I : Inv X pins σ H s) : ∀ (ds : List PyData) (vs : List V) (us : List Value), Rps X.K H ds vs → Vals vs us → PyData.showableAll ds = true → ∃ as, ReadsAll s.heap us ds as
  | [], vs, us, h, r, _ => by simp only [Rps] at h; subst h; cases r; exact ⟨[], .nil⟩
  | d :: ds, vs, us, h, r, hs => by
    simp only [Rps] at h
    obtain ⟨v, vs', rfl, h1, h2⟩ := h
    simp only [PyData.showableAll, Bool.and_eq_true] at hs
    cases r with
    | cons r1 r2 =>
      obtain ⟨as, a1⟩ := Rp.readsE I d v _ h1 r1 hs.1
      obtain ⟨bs, a2⟩ := Rps.readsE I ds vs' _ h2 r2 hs.2
      exact ⟨as ++ bs, .cons a1 a2⟩
end
theorem leafK {h : Heap} {u : Value} {d : PyData} {as : List Addr} {P : Program} {w : World} (r : Reads h u d as) (hs : d.showable = true) (hd : d.hasDict = false) (hl : d.shown.length ≤ sizeLine) : ∃ bs, ReadAtMost h d.depth bs ∧ ReprK P w bs h d.depth u d.shown :=
  ReprK.of_reads r hs (fun q => by rw [hd] at q; cases q) hl
theorem dictE (I : Inv X pins σ H s) {a : Addr} {ps : List (Key × Int)} {as : List Addr} (h1 : H a = some (.dK (ps.map fun p => (p.1, V.int p.2)))) (q : Reads s.heap (.ref a) (.dict (ps.map fun p => (keyD p.1, PyData.int p.2))) as)
    (hs : (PyData.dict (ps.map fun p => (keyD p.1, PyData.int p.2))).showable = true) (hl : (PyData.dict (ps.map fun p => (keyD p.1, PyData.int p.2))).shown.length ≤ sizeLine) :
    ∃ o es ep bs, s.heap.get? a = some o ∧ o.cls = .type "dict" ∧ o.data = .dict es ep ∧ (a == sysModules) = false ∧ ReadAtMost s.heap (PyData.depthKv (ps.map fun p => (keyD p.1, PyData.int p.2))) bs ∧ a ∉ bs ∧
      ReprEntriesK X.prog X.w bs s.heap (PyData.depthKv (ps.map fun p => (keyD p.1, PyData.int p.2))) es.toList (PyData.shownKv (ps.map fun p => (keyD p.1, PyData.int p.2))) := by
  obtain ⟨_, low, vs, hk, o, es, ep, hg, hx, hd, _, hp, _⟩ := dk_of I.hok h1
  obtain ⟨r1, r2⟩ := dict_entries hp hk s.heap
  generalize hkv : (ps.map fun p => (keyD p.1, PyData.int p.2)) = kvs at q hs hl ⊢
  have r1' : ReadsAll s.heap (es.toList.map (·.key)) (kvs.map (·.1)) [] := by rw [← hkv, List.map_map]; exact r1
  have r2' : ReadsAll s.heap (es.toList.map (·.val)) (kvs.map (·.2)) [] := by rw [← hkv, List.map_map]; exact r2
  obtain ⟨sk, sv⟩ := PyData.showableKv_split kvs (by simpa only [PyData.showable] using hs)
  have hl : (dictText (PyData.shownKv kvs)).length ≤ sizeLine := by rw [← PyData.shown.eq_7]; exact hl
  obtain ⟨b1, m1, k1⟩ := ReprAllK.of_readsAll (prog := X.prog) (w := X.w) r1' sk (fun _ h => (nomatch h)) fun t ht => by
    obtain ⟨p, hp, hle⟩ := PyData.shownKv_key_le _ t ht
    exact Nat.le_trans hle (Nat.le_trans (dictText_mem_le hp) hl)
  obtain ⟨b2, m2, k2⟩ := ReprAllK.of_readsAll (prog := X.prog) (w := X.w) r2' sv (fun _ h => (nomatch h)) fun t ht => by
    obtain ⟨p, hp, hle⟩ := PyData.shownKv_val_le _ t ht
    exact Nat.le_trans hle (Nat.le_trans (dictText_mem_le hp) hl)
  have hdp : (PyData.dict kvs).depth = PyData.depthKv kvs + 1 := by simp only [PyData.depth]
  have d1 := PyData.depthAll_keys_le kvs
  have d2 := PyData.depthAll_vals_le kvs
  have m3 : ReadAtMost s.heap (PyData.depthKv kvs) (b1 ++ b2) := ReadAtMost.append (m1.mono d1) (m2.mono d2)
  have nin : a ∉ b1 ++ b2 := not_mem_of_deeper q (by rw [hdp]; exact Nat.lt_succ_self _) m3
  refine ⟨o, es, ep, b1 ++ b2, hg, hx.1, hd, low, m3, nin, ?_⟩
  rw [PyData.shownKv_eq]
  exact ReprEntriesK.of_two es.toList _ _ (k1.more_le (fun b hb => List.mem_append_left _ hb) d1) (k2.more_le (fun b hb => List.mem_append_right _ hb) d2)
mutual
theorem Rp.reprE (I : Inv X pins σ H s) : ∀ (d : PyData) (v : V) (u : Value), Rp X.K H d v → L2.RelV v u → d.showable = true → d.shown.length ≤ sizeLine → ∃ bs, ReadAtMost s.heap d.depth bs ∧ ReprK X.prog X.w bs s.heap d.depth u d.shown
  | .none, v, u, h, r, hs, hl => by obtain ⟨as, q⟩ := Rp.readsE I _ v u h r hs; exact leafK q hs rfl hl
  | .bool b, v, u, h, r, hs, hl => by obtain ⟨as, q⟩ := Rp.readsE I _ v u h r hs; exact leafK q hs rfl hl
  | .int i, v, u, h, r, hs, hl => by obtain ⟨as, q⟩ := Rp.readsE I _ v u h r hs; exact leafK q hs rfl hl
  | .str x, v, u, h, r, hs, hl => by obtain ⟨as, q⟩ := Rp.readsE I _ v u h r hs; exact leafK q hs rfl hl
  | .list ds, v, u, h, r, hs, hl => by
    obtain ⟨as, q⟩ := Rp.readsE I _ v u h r hs
    simp only [Rp] at h
    obtain ⟨a, xs, rfl, h1, h2⟩ := h
    cases r
    obtain ⟨_, its, n, hv, hg⟩ := I.hok a _ h1
    have hl2 : ∀ t ∈ PyData.shownAll ds, t.length ≤ sizeLine := fun t ht => Nat.le_trans (listText_mem_le ht) hl
    obtain ⟨bs, b1, b2⟩ := Rps.reprE I ds xs its h2 hv (by simpa only [PyData.showable] using hs) hl2
    have hdp : (PyData.list ds).depth = PyData.depthAll ds + 1 := by simp only [PyData.depth]
    have nin : a ∉ bs := not_mem_of_deeper q (by rw [hdp]; exact Nat.lt_succ_self _) b1
    refine ⟨a :: bs, fun b hb => ?_, ?_⟩
    · rcases List.mem_cons.mp hb with rfl | hb
      · exact ⟨_, _, q, Nat.le_refl _⟩
      · obtain ⟨e, es, x1, x2⟩ := b1 b hb
        exact ⟨e, es, x1, by rw [hdp]; omega⟩
    · rw [hdp]
      show ReprK X.prog X.w (a :: bs) s.heap (PyData.depthAll ds + 1) (.ref a) (listText (PyData.shownAll ds))
      cases its with
      | nil =>
        have hn : PyData.shownAll ds = [] := List.eq_nil_of_length_eq_zero b2.length_eq
        rw [hn]
        exact ReprK.listEmpty hg rfl rfl
      | cons x l => exact ReprK.list hg rfl rfl nin (by rw [b2.length_eq]; simp) fun i y hy => b2.item i y (by simpa using hy)
  | .tuple ds, v, u, h, r, hs, hl => by
    obtain ⟨as, q⟩ := Rp.readsE I _ v u h r hs
    simp only [Rp] at h
    obtain ⟨a, xs, rfl, h1, h2⟩ := h
    cases r
    obtain ⟨_, its, hv, o, hg, hc, n, hd⟩ := I.hok a _ h1
    have hl2 : ∀ t ∈ PyData.shownAll ds, t.length ≤ sizeLine := fun t ht => Nat.le_trans (tupleText_mem_le ht) hl
    obtain ⟨bs, b1, b2⟩ := Rps.reprE I ds xs its h2 hv (by simpa only [PyData.showable] using hs) hl2
    have hdp : (PyData.tuple ds).depth = PyData.depthAll ds + 1 := by simp only [PyData.depth]
    have nin : a ∉ bs := not_mem_of_deeper q (by rw [hdp]; exact Nat.lt_succ_self _) b1
    refine ⟨a :: bs, fun b hb => ?_, ?_⟩
    · rcases List.mem_cons.mp hb with rfl | hb
      · exact ⟨_, _, q, Nat.le_refl _⟩
      · obtain ⟨e, es, x1, x2⟩ := b1 b hb
        exact ⟨e, es, x1, by rw [hdp]; omega⟩
    · rw [hdp]
      exact ReprK.tuple hg hc hd nin (by simpa using b2)
  | .dict kvs, v, u, h, r, hs, hl => by
    obtain ⟨as, q⟩ := Rp.readsE I _ v u h r hs
    simp only [Rp] at h
    obtain ⟨a, ks, rfl, h1, ps, rfl, rfl⟩ := h.resolve_right (ref_unshown hs)
    cases r
    have hdp : (PyData.dict (ps.map fun p => (keyD p.1, PyData.int p.2))).depth = PyData.depthKv (ps.map fun p => (keyD p.1, PyData.int p.2)) + 1 := by simp only [PyData.depth]
    obtain ⟨o, es, ep, bs, hg, hc, hd, low, m3, nin, k⟩ := dictE I h1 q hs hl
    refine ⟨a :: bs, fun b hb => ?_, ?_⟩
    · rcases List.mem_cons.mp hb with rfl | hb
      · exact ⟨_, _, q, Nat.le_refl _⟩
      · obtain ⟨e, es, x1, x2⟩ := m3 b hb
        exact ⟨e, es, x1, by rw [hdp]; omega⟩
    · rw [hdp, PyData.shown.eq_7]
      exact ReprK.dict hg hc hd low nin k
theorem Rps.reprE (I : Inv X pins σ H s) : ∀ (ds : List PyData) (vs : List V) (us : List Value), Rps X.K H ds vs → Vals vs us → PyData.showableAll ds = true → (∀ t ∈ PyData.shownAll ds, t.length ≤ sizeLine) → ∃ bs, ReadAtMost s.heap (PyData.depthAll ds) bs ∧ ReprAllK X.prog X.w bs s.heap (PyData.depthAll ds) us (PyData.shownAll ds)
  | [], vs, us, h, r, _, _ => by simp only [Rps] at h; subst h; cases r; exact ⟨[], fun _ h => (nomatch h), .nil⟩
  | d :: ds, vs, us, h, r, hs, hl => by
    simp only [Rps] at h
    obtain ⟨v, vs', rfl, h1, h2⟩ := h
    simp only [PyData.showableAll, Bool.and_eq_true] at hs
    cases r with
    | cons r1 r2 =>
      obtain ⟨as, a1, a2⟩ := Rp.reprE I d v _ h1 r1 hs.1 (hl _ (by simp only [PyData.shownAll]; exact List.mem_cons_self))
      obtain ⟨bs, b1, b2⟩ := Rps.reprE I ds vs' _ h2 r2 hs.2 fun t ht => hl t (by simp only [PyData.shownAll]; exact List.mem_cons_of_mem _ ht)
      have e : PyData.depthAll (d :: ds) = max d.depth (PyData.depthAll ds) := by simp only [PyData.depthAll]
      refine ⟨as ++ bs, ReadAtMost.append (a1.mono (by rw [e]; omega)) (b1.mono (by rw [e]; omega)), ?_⟩
      simp only [PyData.shownAll]
      exact .cons ((a2.more fun b hb => List.mem_append_left _ hb).level_le (by rw [e]; omega)) (b2.more_le (fun b hb => List.mem_append_right _ hb) (by rw [e]; omega))
end
end
/-- what may be shown, with dicts -/
structure TameE (m k : Nat) (d : PyData) : Prop where
  sh : d.showable = true
  dp : d.depth ≤ k
  le : d.shown.length ≤ m
theorem TameE.mono {m k m' k' : Nat} {d : PyData} (h : TameE m k d) (h1 : m ≤ m') (h2 : k ≤ k') : TameE m' k' d := ⟨h.sh, Nat.le_trans h.dp h2, Nat.le_trans h.le h1⟩
theorem Tame.e {m k : Nat} {d : PyData} (h : Tame m k d) : TameE m k d := ⟨h.sh, h.dp, Nat.le_trans (shown_le d h.cl) h.le⟩
theorem texts_le {m : Nat} : ∀ {ds : List PyData}, (∀ d ∈ ds, d.shown.length ≤ m) → ((PyData.shownAll ds).map fun t => t.length + 2).sum ≤ ds.length * (m + 2)
  | [], _ => by simp [PyData.shownAll]
  | d :: ds, h => by
    have h1 := h d (by simp)
    have h2 := texts_le (ds := ds) fun e he => h e (by simp [he])
    simp only [PyData.shownAll, List.map_cons, List.sum_cons, List.length_cons, Nat.add_mul]
    omega
theorem tameE_tuple {m k l : Nat} {ds : List PyData} (h : ∀ d ∈ ds, TameE m k d) (hl : ds.length ≤ l) : TameE (l * (m + 2) + 3) (k + 1) (.tuple ds) :=
  ⟨by simp only [PyData.showable]; exact showAll fun d hd => (h d hd).sh, by simp only [PyData.depth]; exact Nat.succ_le_succ (depthAll_le fun d hd => (h d hd).dp), by
    simp only [PyData.shown]
    have := texts_le fun d hd => (h d hd).le
    have := Nat.mul_le_mul_right (m + 2) hl
    have := tupleText_le (PyData.shownAll ds)
    omega⟩
theorem tameE_list {m k l : Nat} {ds : List PyData} (h : ∀ d ∈ ds, TameE m k d) (hl : ds.length ≤ l) : TameE (l * (m + 2) + 3) (k + 1) (.list ds) :=
  ⟨by simp only [PyData.showable]; exact showAll fun d hd => (h d hd).sh, by simp only [PyData.depth]; exact Nat.succ_le_succ (depthAll_le fun d hd => (h d hd).dp), by
    simp only [PyData.shown]
    have := texts_le fun d hd => (h d hd).le
    have := Nat.mul_le_mul_right (m + 2) hl
    have := listText_le (PyData.shownAll ds)
    omega⟩
def rReprE (K : PySem.W.Frag) : List V → Hp → VK → Prop := fun xs H Q => ∃ v d, xs = [v] ∧ Rp K H d v ∧ TameE 1000000 60 d ∧ Q (.str d.shown) H
theorem call_reprE (hg : X.A.guards = some []) (hu : X.A.units + 64 < cLine) : CallR X (.builtin "repr") (rReprE X.K) := by
  intro pins s σ H xs us Q I r h
  obtain ⟨v, d, rfl, hr, ht, q⟩ := h
  obtain ⟨u, rfl, ru⟩ := vals1 r
  have hz : d.shown.length ≤ sizeLine := Nat.le_trans ht.le (by decide)
  have hu1 : X.A.units + 1 < cLine := by omega
  have hdp := ht.dp
  cases d with
  | none =>
    simp only [Rp] at hr; subst hr; cases ru
    exact PySem.P.repr_of_none ⟨.str _, H, I.tok _, ⟨_, rfl⟩, q⟩
  | bool b =>
    simp only [Rp] at hr; subst hr; cases ru
    refine PySem.P.repr_of_bool ⟨.str (PyData.shown (.bool b)), H, I.tok _, ⟨s.toks, ?_⟩, q⟩
    cases b <;> rfl
  | int i =>
    simp only [Rp] at hr; subst hr; obtain ⟨t, rfl⟩ := ru
    have := ht.sh
    simp only [PyData.showable, decide_eq_true_eq] at this
    exact PySem.P.repr_of_int this ⟨.str _, H, I.tok _, ⟨_, rfl⟩, q⟩
  | str z =>
    simp only [Rp] at hr; subst hr; obtain ⟨t, rfl⟩ := ru
    exact PySem.P.repr_of_str ⟨.str _, H, I.tok _, ⟨_, rfl⟩, q⟩ hz
  | list ds =>
    obtain ⟨as, hq⟩ := Rp.readsE I _ v u hr ru ht.sh
    simp only [Rp] at hr
    obtain ⟨a, xs, rfl, h1, h2⟩ := hr
    cases ru
    obtain ⟨_, its, n, hv, hget⟩ := I.hok a _ h1
    have hl2 : ∀ t ∈ PyData.shownAll ds, t.length ≤ sizeLine := fun t h => Nat.le_trans (listText_mem_le h) hz
    obtain ⟨bs, b1, b2⟩ := Rps.reprE I ds xs its h2 hv (by simpa only [PyData.showable] using ht.sh) hl2
    have hd1 : (PyData.list ds).depth = PyData.depthAll ds + 1 := by simp only [PyData.depth]
    have nin : a ∉ bs := not_mem_of_deeper hq (by rw [hd1]; exact Nat.lt_succ_self _) b1
    have ty : s.TypeIs (.ref a) "list" := ⟨_, hget, rfl⟩
    refine call_repr_slot hu1 ty (Slot.toG PySem.F.slot_list_repr) ?_
    cases its with
    | nil =>
      have hn : PyData.shownAll ds = [] := List.eq_nil_of_length_eq_zero b2.length_eq
      refine call_list_repr_empty ty hget rfl ⟨_, _, rfl, .str (PyData.list ds).shown, H, I.tok _, ⟨s.toks, ?_⟩, q⟩
      simp only [PyData.shown, hn]
      rfl
    | cons x l =>
      refine call_list_reprK hget rfl rfl nin (by rw [b2.length_eq]; simp) (fun i y hy => b2.item i y (by simpa using hy)) (A := X.A.in1) (g := []) hg (fun b _ => Clear.nil b) (by show X.A.units + 1 + (PyData.depthAll ds + 1) < cLine; omega) (fun _ _ e => e) (fun h' u tk hk => ⟨_, _, rfl, .str (PyData.list ds).shown, H, I.kept (t' := tk) hk, ⟨u, ?_⟩, q⟩) (by simpa only [PyData.shown] using hz)
      simp only [PyData.shown]
  | tuple ds =>
    obtain ⟨as, hq⟩ := Rp.readsE I _ v u hr ru ht.sh
    simp only [Rp] at hr
    obtain ⟨a, xs, rfl, h1, h2⟩ := hr
    cases ru
    obtain ⟨_, its, hv, o, hget, hc, n, hd⟩ := I.hok a _ h1
    have hl2 : ∀ t ∈ PyData.shownAll ds, t.length ≤ sizeLine := fun t h => Nat.le_trans (tupleText_mem_le h) hz
    obtain ⟨bs, b1, b2⟩ := Rps.reprE I ds xs its h2 hv (by simpa only [PyData.showable] using ht.sh) hl2
    have hd1 : (PyData.tuple ds).depth = PyData.depthAll ds + 1 := by simp only [PyData.depth]
    have nin : a ∉ bs := not_mem_of_deeper hq (by rw [hd1]; exact Nat.lt_succ_self _) b1
    have ty : s.TypeIs (.ref a) "tuple" := ⟨_, hget, hc⟩
    refine call_repr_slot hu1 ty PySem.F.slot_tuple_repr ?_
    refine call_tuple_reprK hget hc hd nin (by simpa using b2) (A := X.A.in1) (g := []) hg (fun b _ => Clear.nil b) (by show X.A.units + 1 + (PyData.depthAll ds + 1) < cLine; omega) (fun _ _ e => e) (fun h' u tk hk => ⟨_, _, rfl, .str (PyData.tuple ds).shown, H, I.kept (t' := tk) hk, ⟨u, ?_⟩, q⟩) (by simpa only [PyData.shown] using hz)
    simp only [PyData.shown]
  | dict kvs =>
    obtain ⟨as, hq⟩ := Rp.readsE I _ v u hr ru ht.sh
    simp only [Rp] at hr
    obtain ⟨a, ks, rfl, h1, ps, rfl, rfl⟩ := hr.resolve_right (ref_unshown ht.sh)
    cases ru
    have hd1 : (PyData.dict (ps.map fun p => (keyD p.1, PyData.int p.2))).depth = PyData.depthKv (ps.map fun p => (keyD p.1, PyData.int p.2)) + 1 := by simp only [PyData.depth]
    obtain ⟨o, es, ep, bs, hget, hc, hd, low, m3, nin, k⟩ := dictE I h1 hq ht.sh hz
    have ty : s.TypeIs (.ref a) "dict" := ⟨_, hget, hc⟩
    have hz2 := hz
    rw [PyData.shown.eq_7] at hz2
    refine call_repr_slot hu1 ty PySem.F.slot_dict_repr ?_
    refine call_dict_reprK hget hc hd low nin k (A := X.A.in1) (g := []) hg (fun b _ => Clear.nil b) (by show X.A.units + 1 + (_ + 1) < cLine; omega) (fun _ _ e => e) (fun h' u tk hk => ⟨_, _, rfl, .str _, H, I.kept (t' := tk) hk, ⟨u, ?_⟩, q⟩) hz2
    rw [PyData.shown.eq_7]
def oReprE : DC := fun xs R => ∃ x, xs = [x] ∧ x.isDk = false ∧ TameE 1000000 60 x.toD ∧ R (.str x.toD.shown)
end DL
namespace DL
open PySem PySem.Spec PyProof.Rows L2
variable {X : Cx} {Y : Fx}
theorem ck_reprE {K : PySem.W.Frag} : CallOk K (rReprE K) oReprE := fun δ F H xs vs R Q hs hv ⟨x, e, hd, ht, hr⟩ b => by
  subst e
  obtain ⟨v, rfl, h1⟩ := vr1 hv
  exact ⟨v, x.toD, rfl, h1.rp hs hd, ht, b.here hs hr (by simp [Rp])⟩
/-! ### {} and {'a': 1} as data -/
theorem we_dict0 {pos : Pos} : WE Y X (.Dict [] [] pos) (dC (.dict [])) :=
  pe_imp pe_dnewK fun σ H Q ⟨Z, F, ρ, n, R, r, ht, k⟩ => fun p hp => by
    obtain ⟨g2, s2⟩ := Gp.new (o := .dK []) hp r.b.sub
    exact k _ _ _ _ _ ht g2.gr s2 (g2.dk r.b) (by simp only [VR, Rp]; exact .inl ⟨p, [], rfl, upd_same, [], rfl, rfl⟩)
theorem we_dict1 {a : Str} {b : Int} {j1 j2 : Nat} {p1 p2 pos : Pos} : WE Y X (.Dict [some (.Constant (.str a) j1 p1)] [.Constant (.int b) j2 p2] pos) (dC (.dict [(.str a, .int b)])) :=
  pe_imp (pe_disp (pps_cons pe_str pe_int pps_nil) rfl rfl (by simp) (by decide : 1 ≤ 15)) fun σ H Q ⟨Z, F, ρ, n, R, r, ht, k⟩ => fun p hp => by
    refine ⟨upd_same, [(.inr a, .int b)], rfl, (by decide : 1 ≤ 15), ?_⟩
    rw [show upd (upd H p (.dK [])) p (.dK (mergeK [] [((.inr a : Key), V.int b)])) = upd H p (.dK [(.inr a, .int b)]) from upd_upd]
    obtain ⟨g2, s2⟩ := Gp.new (o := .dK [(.inr a, .int b)]) hp r.b.sub
    exact k _ _ _ _ _ ht g2.gr s2 (g2.dk r.b) (by simp only [VR, Rp]; exact .inl ⟨p, _, rfl, upd_same, [(.inr a, b)], rfl, rfl⟩)
/-! ### a, b, c = three data -/
def dPar3W (i j l : Nat) (t u w : DTE) : DTS := fun E ρ n => t ρ n fun x n1 => needD x fun d1 => u ρ n1 fun y n2 => needD y fun d2 => w ρ n2 fun z n3 => needD z fun d3 => E.nx (((ρ.set i (some (.dat d1))).set j (some (.dat d2))).set l (some (.dat d3))) n3
theorem ds_par3W {i j l : Nat} {x y z : Str} {a b c : Expr} {t u w : DTE} {px py pz pt pos : Pos} {kt k2 pt2} (hc : X.calm = true) (hN : X.N.Nodup) (hi : X.N[i]? = some x) (hj : X.N[j]? = some y) (hl : X.N[l]? = some z) (hij : i ≠ j) (hil : i ≠ l) (hjl : j ≠ l)
    (hx : X.env.scope.names.lookup x = some .local) (hy : X.env.scope.names.lookup y = some .local) (hz : X.env.scope.names.lookup z = some .local) (ha : WE Y X a t) (hb : WE Y X b u) (he : WE Y X c w)
    (hw : swappedStores [.Tuple [.Name x px, .Name y py, .Name z pz] kt pt] (.Tuple [a, b, c] k2 pt2) X.env = pure (some [x, y, z]))
    (hs : swapsWithSole [.Tuple [.Name x px, .Name y py, .Name z pz] kt pt] (.Tuple [a, b, c] k2 pt2) pos.line X.env = pure false := by rfl)
    (h1 : starEach [a, b, c] X.env = (false, eval a X.env) :: starEach [b, c] X.env := by rfl) (h2 : starEach [b, c] X.env = (false, eval b X.env) :: starEach [c] X.env := by rfl) (h3 : starEach [c] X.env = (false, eval c X.env) :: starEach [] X.env := by rfl) :
    DS Y X (.Assign [.Tuple [.Name x px, .Name y py, .Name z pz] kt pt] (.Tuple [a, b, c] k2 pt2) pos) (dPar3W i j l t u w) :=
  ps_imp (ps_par3 hc hN hi hj hl hij hil hjl hx hy hz (pa_cons ha (pa_cons hb (pa_cons he pa_nil h3) h2) h1) hw hs) fun D σ H ⟨Z, F, ρ, n, E, r, ht, k⟩ =>
    ⟨Z, F, ρ, n, _, r, ht, fun x1 n1 F1 H1 v1 hx1 g1 s1 d1 w1 => by
      obtain ⟨e1, rfl, hx1⟩ := needD_is hx1
      exact ⟨Z, F1, ρ, n1, _, r.step g1 s1 d1, hx1, fun x2 n2 F2 H2 v2 hx2 g2 s2 d2 w2 => by
        obtain ⟨e2, rfl, hx2⟩ := needD_is hx2
        exact ⟨Z, F2, ρ, n2, _, (r.step g1 s1 d1).step g2 s2 d2, hx2, fun x3 n3 F3 H3 v3 hx3 g3 s3 d3 w3 => by
          obtain ⟨e3, rfl, hx3⟩ := needD_is hx3
          have r3 := ((r.step g1 s1 d1).step g2 s2 d2).step g3 s3 d3
          exact ⟨v1, v2, v3, rfl, k.nx _ _ _ _ _ hx3 (((r3.setD i (Rp.mono g3.sF _ _ (Rp.mono g2.sF _ _ w1))).setD j (Rp.mono g3.sF _ _ w2)).setD l w3)⟩⟩⟩⟩
end DL
set_option maxHeartbeats 4000000
namespace DL
open PySem PySem.Spec PyProof.Rows L2
/-! ### tuple(zip(a list, a list)) -/
/-- the pairs' own addresses, one behind the other -/
def zAcc (S i : Nat) : Array Value := ((List.range i).map fun j => Value.ref (S + 1 + j)).toArray
theorem zAcc_size {S i : Nat} : (zAcc S i).size = i := by simp [zAcc]
theorem zAcc_push {S i : Nat} : (zAcc S i).push (.ref (S + 1 + i)) = zAcc S (i + 1) := by simp [zAcc, List.range_succ]
/-- the pairs that were given out -/
def ZPairs (S : Nat) (xs ys : Array Value) (i : Nat) (h : Heap) : Prop := ∀ j, j < i → ∃ x y, xs[j]? = some x ∧ ys[j]? = some y ∧ IsPair h (S + 1 + j) x y
/-- while the zip is walked into the list at S -/
structure ZC (z TI TO i1 i2 l1 l2 S : Addr) (xs ys : Array Value) (h0 : Heap) (i : Nat) (h : Heap) : Prop where
  tI : IsPair h TI (.ref i1) (.ref i2)
  j1 : h.IsListIter i1 l1 i
  j2 : h.IsListIter i2 l2 i
  m1 : h.IsList l1 xs
  m2 : h.IsList l2 ys
  zz : (IsZip h z TI TO .none ∧ ∃ a b, IsPair h TO a b) ∨ ∃ T f oT, IsZipHeld h z TI TO T f ∧ h.get? T = some oT ∧ T ≠ z ∧ T ≠ i1 ∧ T ≠ i2 ∧ T ≠ S
  li : ∃ c, h.get? S = some { cls := .type "list", dict := none, data := .seq (zAcc S i) c, slots := #[] }
  ps : ZPairs S xs ys i h
  old : ∀ b o, b ≠ z → b ≠ TO → b ≠ i1 → b ≠ i2 → (b : Nat) < S → h0.get? b = some o → h.get? b = some o
  sz : h.objs.size = S + 1 + i
theorem nl {a b : Addr} (h : (a : Nat) < b) : a ≠ b := Nat.ne_of_lt h
theorem ng {a b : Addr} (h : (b : Nat) < a) : a ≠ b := Nat.ne_of_gt h
theorem nfar {a S j m : Nat} (e : m = S + 1 + j) (h : a < S) : m ≠ a := by omega
theorem nfarS {S j m : Nat} (e : m = S + 1 + j) : m ≠ S := by omega
theorem nfarJ {S i j : Nat} (h : j < i) : S + 1 + j ≠ S + 1 + i := by omega
/-- the others lie before S -/
structure ZLt (z TI TO i1 i2 l1 l2 S : Addr) : Prop where
  z : (z : Nat) < S
  TI : (TI : Nat) < S
  TO : (TO : Nat) < S
  i1 : (i1 : Nat) < S
  i2 : (i2 : Nat) < S
  l1 : (l1 : Nat) < S
  l2 : (l2 : Nat) < S
theorem ZPairs.keep {S i : Nat} {xs ys : Array Value} {h h' : Heap} (p : ZPairs S xs ys i h) (k : ∀ b o, S < b → h.get? b = some o → h'.get? b = some o) : ZPairs S xs ys i h' := fun j hj => by
  obtain ⟨x, y, e1, e2, e3⟩ := p j hj
  exact ⟨x, y, e1, e2, k _ _ (by omega) e3⟩
section
variable {P : Program} {w : World} {A : Around} {z TI TO i1 i2 l1 l2 S : Addr} {xs ys : Array Value} {h0 : Heap}
/-- after the last pair -/
structure ZEnd (z TO i1 i2 S : Addr) (xs ys : Array Value) (h0 : Heap) (n : Nat) (h : Heap) : Prop where
  li : ∃ c, h.get? S = some { cls := .type "list", dict := none, data := .seq (zAcc S n) c, slots := #[] }
  ps : ZPairs S xs ys n h
  old : ∀ b o, b ≠ z → b ≠ TO → b ≠ i1 → b ≠ i2 → (b : Nat) < S → h0.get? b = some o → h.get? b = some o
/-- one pair more -/
theorem zc_item {i : Nat} {s : Shared} {Q : Option Value → Shared → Prop} {E : Value → Shared → Prop} (D : ZipApart z TI TO i1 i2 l1 l2) (L : ZLt z TI TO i1 i2 l1 l2 S) (C : ZC z TI TO i1 i2 l1 l2 S xs ys h0 i s.heap) (hx : i < xs.size) (hy : i < ys.size)
    (hQ : ∀ h', (∀ c, s.heap.get? S = some { cls := .type "list", dict := none, data := .seq (zAcc S i) c, slots := #[] } → h'.get? S = some { cls := .type "list", dict := none, data := .seq (zAcc S i) c, slots := #[] }) →
      (∀ h2, (∀ b o, b ≠ S → h'.get? b = some o → h2.get? b = some o) → h2.objs.size = h'.objs.size → (∃ c, h2.get? S = some { cls := .type "list", dict := none, data := .seq (zAcc S (i + 1)) c, slots := #[] }) → ZC z TI TO i1 i2 l1 l2 S xs ys h0 (i + 1) h2) →
      Q (some (.ref (S + 1 + i))) { s with heap := h' }) : wpAny (model P w) A (pyNext (.ref z)) Q E s := by
  have ex := Array.getElem?_eq_getElem hx
  have ey := Array.getElem?_eq_getElem hy
  have dz : (z : Nat) < S := L.z
  have dI : (TI : Nat) < S := L.TI
  have dO : (TO : Nat) < S := L.TO
  have d1 : (i1 : Nat) < S := L.i1
  have d2 : (i2 : Nat) < S := L.i2
  have e1 : (l1 : Nat) < S := L.l1
  have e2 : (l2 : Nat) < S := L.l2
  have fin : ∀ h', (∀ c o, c ≠ z → c ≠ TO → c ≠ i1 → c ≠ i2 → s.heap.get? c = some o → h'.get? c = some o) → h'.objs.size = s.heap.objs.size + 1 → IsPair h' s.heap.objs.size xs[i] ys[i] →
      h'.IsListIter i1 l1 (i + 1) → h'.IsListIter i2 l2 (i + 1) →
      (∃ T f oT, IsZipHeld h' z TI TO T f ∧ h'.get? T = some oT ∧ T ≠ z ∧ T ≠ i1 ∧ T ≠ i2 ∧ T ≠ S) → Q (some (.ref s.heap.objs.size)) { s with heap := h' } := fun h' hk hsz hp k1 k2 hT => by
    rw [C.sz] at hp hsz ⊢
    refine hQ h' (fun c q => hk _ _ (ng dz) (ng dO) (ng d1) (ng d2) q) fun h2 g sz2 li => ?_
    obtain ⟨T, f, oT, t1, t2, t3, t4, t5, t6⟩ := hT
    have g' : ∀ b o, b ≠ z → b ≠ TO → b ≠ i1 → b ≠ i2 → b ≠ S → s.heap.get? b = some o → h2.get? b = some o := fun b o q1 q2 q3 q4 q5 q => g b o q5 (hk b o q1 q2 q3 q4 q)
    exact {
      tI := g' _ _ D.TIz D.TITO D.TIi1 D.TIi2 (nl dI) C.tI
      j1 := k1.at fun o => g _ o (nl d1)
      j2 := k2.at fun o => g _ o (nl d2)
      m1 := C.m1.at fun o => g' _ o D.l1z D.l1TO D.l1i1 D.l1i2 (nl e1)
      m2 := C.m2.at fun o => g' _ o D.l2z D.l2TO D.l2i1 D.l2i2 (nl e2)
      zz := .inr ⟨T, f, oT, g _ _ (nl dz) t1, g _ _ t6 t2, t3, t4, t5, t6⟩
      li := li
      ps := fun j hj => by
        rcases Nat.lt_succ_iff_lt_or_eq.mp hj with q | q
        · obtain ⟨x, y, p1, p2, p3⟩ := C.ps j q
          exact ⟨x, y, p1, p2, g' _ _ (nfar rfl dz) (nfar rfl dO) (nfar rfl d1) (nfar rfl d2) (nfarS rfl) p3⟩
        · subst q
          exact ⟨_, _, ex, ey, g _ _ (nfarS rfl) hp⟩
      old := fun b o q1 q2 q3 q4 q5 q => g' b o q1 q2 q3 q4 (Nat.ne_of_lt q5) (C.old b o q1 q2 q3 q4 q5 q)
      sz := by rw [sz2, hsz]; omega }
  have n1 : s.heap.objs.size = S + 1 + i := C.sz
  rcases C.zz with ⟨hz, a, b, hTO⟩ | ⟨T, f, oT, hz, hT, r1, r2, r3, r4⟩
  · refine wpAny_pyNext_zip_item D hz C.tI hTO C.j1 C.j2 C.m1 C.m2 ex ey fun h' a1 a2 a3 a4 a5 a6 hk => ?_
    exact n1 ▸ fin h' hk a6 a5 a3 a4 ⟨s.heap.objs.size, false, _, a1, a5, nfar n1 dz, nfar n1 d1, nfar n1 d2, nfarS n1⟩
  · refine wpAny_pyNext_zip_item_held D hz hT C.tI C.j1 C.j2 C.m1 C.m2 ex ey fun h' a1 a3 a4 a5 a6 hk => ?_
    exact n1 ▸ fin h' (fun c o q1 _ q3 q4 q => hk c o q1 q3 q4 q) a6 a5 a3 a4 ⟨T, true, oT, a1, hk _ _ r1 r2 r3 hT, r1, r2, r3, r4⟩
/-- the end of the walk -/
theorem zc_done {n : Nat} {s : Shared} {Q : Option Value → Shared → Prop} {E : Value → Shared → Prop} (hh : A.handled = none) (D : ZipApart z TI TO i1 i2 l1 l2) (L : ZLt z TI TO i1 i2 l1 l2 S) (C : ZC z TI TO i1 i2 l1 l2 S xs ys h0 n s.heap) (hn : n = min xs.size ys.size)
    (hQ : ∀ h', ZEnd z TO i1 i2 S xs ys h0 n h' → Q none { s with heap := h' }) : wpAny (model P w) A (pyNext (.ref z)) Q E s := by
  have dz : (z : Nat) < S := L.z
  have dO : (TO : Nat) < S := L.TO
  have d1 : (i1 : Nat) < S := L.i1
  have d2 : (i2 : Nat) < S := L.i2
  have stop : xs[n]? = none ∨ ys[n]? = none := by
    rcases Nat.le_total xs.size ys.size with q | q
    · exact .inl (Array.getElem?_eq_none (by omega))
    · exact .inr (Array.getElem?_eq_none (by omega))
  have fin : ∀ h', (∀ c o, c ≠ z → c ≠ TO → c ≠ i1 → c ≠ i2 → s.heap.get? c = some o → h'.get? c = some o) → Q none { s with heap := h' } := fun h' hk => by
    obtain ⟨c, li⟩ := C.li
    exact hQ h' {
      li := ⟨c, hk _ _ (ng dz) (ng dO) (ng d1) (ng d2) li⟩
      ps := fun j hj => by
        obtain ⟨x, y, p1, p2, p3⟩ := C.ps j hj
        exact ⟨x, y, p1, p2, hk _ _ (nfar rfl dz) (nfar rfl dO) (nfar rfl d1) (nfar rfl d2) p3⟩
      old := fun b o q1 q2 q3 q4 q5 q => hk b o q1 q2 q3 q4 (C.old b o q1 q2 q3 q4 q5 q) }
  rcases C.zz with ⟨hz, a, b, hTO⟩ | ⟨T, f, oT, hz, hT, r1, r2, r3, r4⟩
  · exact wpAny_pyNext_zip_end hh D hz C.tI hTO C.j1 C.j2 C.m1 C.m2 stop fun h' hk => fin h' hk
  · exact wpAny_pyNext_zip_end_held hh D hz hT C.tI C.j1 C.j2 C.m1 C.m2 stop fun h' hk => fin h' fun c o q1 _ q3 q4 q => hk c o q1 q3 q4 q
theorem zc_loop {R : Result → Shared → Prop} {n : Nat} {res : Value} (hh : A.in1.handled = none) (D : ZipApart z TI TO i1 i2 l1 l2) (L : ZLt z TI TO i1 i2 l1 l2 S) (hn : n = min xs.size ys.size) (hl : n ≤ sizeLine) :
    ∀ (m i : Nat) (s : Shared), i + m = n → ZC z TI TO i1 i2 l1 l2 S xs ys h0 i s.heap → (∀ h', ZEnd z TO i1 i2 S xs ys h0 n h' → R (.ok (.ret res)) { s with heap := h' }) →
      codeAny (model P w) A (.builtin "list.extend.loop" ⟨[.ref S, .ref z, res], []⟩) R s := by
  intro m
  induction m with
  | zero =>
    intro i s e C hR
    obtain rfl : i = n := e
    refine codeAny_builtin F.entry_extend_loop ?_
    rw [Around.under_plainId F.plain_extend_loop _]
    exact wpAny_bind (m := pyNext (.ref z)) (zc_done hh D L C hn fun h' q => wpAny_pure (hR h' q))
  | succ m ih =>
    intro i s e C hR
    refine codeAny_builtin F.entry_extend_loop ?_
    rw [Around.under_plainId F.plain_extend_loop _]
    refine wpAny_bind (m := pyNext (.ref z)) (zc_item D L C (by omega) (by omega) fun h' keep next => ?_)
    obtain ⟨c, li⟩ := C.li
    have li' := keep c li
    refine wpAny_bind (m := updateSeq S (·.push (.ref (S + 1 + i)))) (wpAny_updateSeq li' rfl (wpAny_pure ⟨plainId_quiet F.plain_extend_loop _, ih (i + 1) _ (by omega) (next _ (fun b o hb q => (Heap.get?_update_other _ _ (Ne.symm hb)).trans q) ?_ ?_) hR⟩) ?_ ?_)
    · exact Heap.size_update ..
    · have q := Heap.get?_update_self (Obj.mapSeq (·.push (Value.ref (S + 1 + i)))) li' rfl
      rw [← zAcc_push]
      exact ⟨_, q⟩
    · rw [zAcc_size]; omega
    · show ((zAcc S i).push _).size ≤ sizeLine + 1
      rw [Array.size_push, zAcc_size]; omega
theorem zip_no_len : typeLookup (.type "zip") "__len__" = pure none := by rw [typeLookup_type, builtinLookup_eq_fast]; kernel_rfl
theorem zip_no_hint : typeLookup (.type "zip") "__length_hint__" = pure none := by rw [typeLookup_type, builtinLookup_eq_fast]; kernel_rfl
/-- a zip just made of two lists -/
structure ZNew (z TI TO i1 i2 l1 l2 : Addr) (xs ys : Array Value) (h : Heap) : Prop where
  hz : IsZip h z TI TO .none
  tI : IsPair h TI (.ref i1) (.ref i2)
  tO : ∃ a b, IsPair h TO a b
  j1 : h.IsListIter i1 l1 0
  j2 : h.IsListIter i2 l2 0
  m1 : h.IsList l1 xs
  m2 : h.IsList l2 ys
theorem ZNew.lt {h : Heap} (Z : ZNew z TI TO i1 i2 l1 l2 xs ys h) : ZLt z TI TO i1 i2 l1 l2 h.objs.size := by
  obtain ⟨a, b, tO⟩ := Z.tO
  obtain ⟨_, q1, _⟩ := Z.j1
  obtain ⟨_, q2, _⟩ := Z.j2
  obtain ⟨_, q3, _⟩ := Z.m1
  obtain ⟨_, q4, _⟩ := Z.m2
  exact ⟨Heap.lt_size Z.hz, Heap.lt_size Z.tI, Heap.lt_size tO, Heap.lt_size q1, Heap.lt_size q2, Heap.lt_size q3, Heap.lt_size q4⟩
theorem zc_collect {n : Nat} {s : Shared} {Q : List Value → Shared → Prop} {E : Value → Shared → Prop} (hh : A.handled = none) (D : ZipApart z TI TO i1 i2 l1 l2) (Z : ZNew z TI TO i1 i2 l1 l2 xs ys s.heap) (hn : n = min xs.size ys.size) (hl : n ≤ sizeLine)
    (hQ : ∀ h', ZEnd z TO i1 i2 s.heap.objs.size xs ys s.heap n h' → Q (zAcc s.heap.objs.size n).toList { s with heap := h' }) : wpAny (model P w) A (collect (.ref z)) Q E s := by
  have L := Z.lt
  have hA : A.in1.in1.handled = none := by simp [hh]
  have dz : (z : Nat) < s.heap.objs.size := L.z
  generalize hp : s.heap.push { cls := .type "list", data := .seq ([] : List Value).toArray } = hp1
  have top : hp1.get? s.heap.objs.size = some { cls := .type "list", data := .seq ([] : List Value).toArray } := by rw [← hp]; exact Heap.get?_push_size _ rfl
  have kp : ∀ b o, s.heap.get? b = some o → hp1.get? b = some o := fun b o q => by rw [← hp]; exact Heap.get?_push_of_some _ q
  have sz1 : hp1.objs.size = s.heap.objs.size + 1 := by rw [← hp]; exact Heap.size_push ..
  have ty : ∀ tk, ({ s with heap := hp1, toks := tk } : Shared).TypeIs (.ref z) "zip" := fun tk => ⟨_, kp _ _ Z.hz, rfl⟩
  unfold collect
  refine wpAny_bind (wpAny_runValue (codeAny_builtin F.entry_proto_collect ?_))
  rw [Around.under_plainId F.plain_proto_collect _]
  refine wpAny_bind (m := newList []) (wpAny_newObj_type ?_)
  rw [hp]
  refine wpAny_pure ⟨plainId_quiet F.plain_list_iadd _, codeAny_builtin F.entry_list_iadd ?_⟩
  rw [Around.under_plainId F.plain_list_iadd _]
  show wpAny _ _ (Builtin.List.listExtendWith (.ref s.heap.objs.size) (.ref z) _) _ _ _
  unfold Builtin.List.listExtendWith
  refine wpAny_bind (wpAny_typeOf (ty s.toks) ?_)
  have o1 : Builtin.List.listSameRef (.ref s.heap.objs.size) (.ref z) = false := by simp [Builtin.List.listSameRef]; exact ng dz
  have o2 : (Value.type "zip" == Value.type "list") = false := by decide
  have o3 : (Value.type "zip" == Value.type "tuple") = false := by decide
  rw [o1, o2, o3]
  simp only [Bool.or_false, Bool.false_eq_true, if_false]
  refine wpAny_bind (wpAny_pyIter_zip (kp _ _ Z.hz) (wpAny_bind (wpAny_holding ?_)))
  unfold Builtin.List.listLengthHint
  refine wpAny_bind (wpAny_specialOf (ty s.toks) zip_no_len (wpAny_bind (m := specialOf (Value.ref z) (Str.ofString "__length_hint__")) (wpAny_specialOf (ty s.toks) zip_no_hint (wpAny_pure ?_))))
  refine wpAny_bind (m := rule "list.extend.makes-room") (wpAny_rule ?_)
  refine wpAny_bind (m := Builtin.List.listTouch (.ref s.heap.objs.size)) ?_
  refine wpAny_bind (m := updateSeq s.heap.objs.size (·.push .none)) (wpAny_updateSeq top rfl ?_)
  have top2 := Heap.get?_update_self (Obj.mapSeq (·.push Value.none)) top rfl
  refine wpAny_updateSeq top2 rfl ?_
  have top3 := Heap.get?_update_self (Obj.mapSeq (·.pop)) top2 rfl
  have kq : ∀ b o, b ≠ s.heap.objs.size → hp1.get? b = some o → ((hp1.update s.heap.objs.size (Obj.mapSeq (·.push Value.none))).update s.heap.objs.size (Obj.mapSeq (·.pop))).get? b = some o := fun b o hb q =>
    (Heap.get?_update_other _ _ (Ne.symm hb)).trans ((Heap.get?_update_other _ _ (Ne.symm hb)).trans q)
  have sz3 : ((hp1.update s.heap.objs.size (Obj.mapSeq (·.push Value.none))).update s.heap.objs.size (Obj.mapSeq (·.pop))).objs.size = s.heap.objs.size + 1 := by rw [Heap.size_update, Heap.size_update, sz1]
  generalize (hp1.update s.heap.objs.size (Obj.mapSeq (·.push Value.none))).update s.heap.objs.size (Obj.mapSeq (·.pop)) = hp3 at top3 kq sz3 ⊢
  have kr : ∀ b o, (b : Nat) < s.heap.objs.size → s.heap.get? b = some o → hp3.get? b = some o := fun b o lt q => kq b o (nl lt) (kp b o q)
  obtain ⟨a, b, tO⟩ := Z.tO
  have C : ZC z TI TO i1 i2 l1 l2 s.heap.objs.size xs ys s.heap 0 hp3 := {
    tI := kr _ _ L.TI Z.tI
    j1 := Z.j1.at fun o => kr _ o L.i1
    j2 := Z.j2.at fun o => kr _ o L.i2
    m1 := Z.m1.at fun o => kr _ o L.l1
    m2 := Z.m2.at fun o => kr _ o L.l2
    zz := .inl ⟨kr _ _ L.z Z.hz, a, b, kr _ _ L.TO tO⟩
    li := ⟨_, top3⟩
    ps := fun j hj => absurd hj (Nat.not_lt_zero _)
    old := fun b o _ _ _ _ lt q => kr b o lt q
    sz := sz3 }
  refine wpAny_pure ⟨plainId_quiet F.plain_extend_loop _, zc_loop (by simp [hh]) D L hn hl n 0 { s with heap := hp3 } (Nat.zero_add _) C fun h' e => ?_⟩
  obtain ⟨c, li⟩ := e.li
  exact wpAny_bind (m := load s.heap.objs.size) (wpAny_load li (wpAny_pure (hQ h' e)))
/-- what is there after tuple(zip(..)) -/
structure ZTup (z TO i1 i2 S t : Addr) (xs ys : Array Value) (h0 : Heap) (n : Nat) (h : Heap) : Prop where
  old : ∀ b o, b ≠ z → b ≠ TO → b ≠ i1 → b ≠ i2 → (b : Nat) < S → h0.get? b = some o → h.get? b = some o
  ps : ZPairs S xs ys n h
  tp : IsTup h t (zAcc S n)
  far : S + 1 + n ≤ t
theorem ZEnd.far {n : Nat} {h : Heap} (e : ZEnd z TO i1 i2 S xs ys h0 n h) : S + 1 + n ≤ h.objs.size := by
  cases n with
  | zero => obtain ⟨c, li⟩ := e.li; exact Heap.lt_size li
  | succ n =>
    obtain ⟨x, y, _, _, q⟩ := e.ps n (Nat.lt_succ_self _)
    exact Heap.lt_size q
theorem zc_tuple_new {n : Nat} {s : Shared} {Q : Value → Shared → Prop} {E : Value → Shared → Prop} (hh : A.handled = none) (D : ZipApart z TI TO i1 i2 l1 l2) (Z : ZNew z TI TO i1 i2 l1 l2 xs ys s.heap) (hn : n = min xs.size ys.size) (hl : n ≤ sizeLine)
    (hQ : ∀ h' t, ZTup z TO i1 i2 s.heap.objs.size t xs ys s.heap n h' → ({ s with heap := h' } : Shared).TypeIs (.ref t) "tuple" → Q (.ref t) { s with heap := h' }) :
    codeAny (model P w) A (.call (.builtin "tuple.__new__") ⟨[.type "tuple", .ref z], []⟩) (wants Q E) s := by
  refine codeAny_of_tree (wpAny_bind (m := checkBuiltinCall "tuple.__new__" ⟨[.type "tuple", .ref z], []⟩) ?_)
  refine wpAny_of_eq (F.newCall_tuple_1 _) (wpAny_pure ⟨plainId_quiet F.plain_tuple_new _, codeAny_builtin F.entry_tuple_new ?_⟩)
  rw [Around.under_plainId F.plain_tuple_new _]
  have b1 := sub_tuple_self
  have b2 := init_tuple_lookup
  have b3 := madeHere_tuple
  have ty : s.TypeIs (.ref z) "zip" := ⟨_, Z.hz, rfl⟩
  wp_walk using wpAny_typeOf ty, zc_collect (by simp [hh]) D Z hn hl
  intro h' e
  refine wpAny_bind (m := Builtin.Tuple.tupleExact _) ?_
  unfold Builtin.Tuple.tupleExact
  have ar : (zAcc s.heap.objs.size n).toList.toArray = zAcc s.heap.objs.size n := by simp
  rw [ar]
  refine wpAny_newObj_type ?_ ?_
  rotate_left
  · show (zAcc s.heap.objs.size n).size ≤ sizeLine
    rw [zAcc_size]; exact hl
  have new : (h'.push { cls := .type "tuple", data := .seq (zAcc s.heap.objs.size n) }).get? h'.objs.size = some { cls := .type "tuple", data := .seq (zAcc s.heap.objs.size n) } := Heap.get?_push_size _ rfl
  refine wpAny_pure (hQ _ h'.objs.size { old := fun b o q1 q2 q3 q4 q5 q => Heap.get?_push_of_some _ (e.old b o q1 q2 q3 q4 q5 q), ps := e.ps.keep fun b o _ q => Heap.get?_push_of_some _ q, tp := ⟨_, new, rfl, _, rfl⟩, far := e.far } ⟨_, new, rfl⟩)
theorem call_tuple_zip {n : Nat} {s : Shared} {Q : Value → Shared → Prop} {E : Value → Shared → Prop} (hh : A.handled = none) (D : ZipApart z TI TO i1 i2 l1 l2) (Z : ZNew z TI TO i1 i2 l1 l2 xs ys s.heap) (hn : n = min xs.size ys.size) (hl : n ≤ sizeLine)
    (hQ : ∀ h' t, ZTup z TO i1 i2 s.heap.objs.size t xs ys s.heap n h' → Q (.ref t) { s with heap := h' }) : wpAny (model P w) A (call (.type "tuple") [.ref z]) Q E s := by
  refine callType_codes (Q₁ := fun v s1 => s1.TypeIs v "tuple" ∧ Q v s1) F.called_tuple (F.typeCall_tuple_1 _) F.entry_object_init (zc_tuple_new (by simp [hh]) D Z hn hl fun h' t q ty => ⟨ty, hQ h' t q⟩) fun v s1 q => ⟨q.1, F.args_object_init_2 v _, ?_⟩
  exact object_init_meets F.called_tuple.init.lookup F.called_tuple.made (by decide) P w _ _ s1 ⟨q.1, rfl, q.2⟩
end
/-- the pairs' tuples tracked, from N on -/
def layZ (H : Hp) (N : Nat) (ps : List (V × V)) : Hp := fun c => if N ≤ c then (match ps[c - N]? with | some p => some (.tup [p.1, p.2]) | none => H c) else H c
theorem layZ_old {H : Hp} {N : Nat} {ps : List (V × V)} {c : Addr} (h : (c : Nat) < N) : layZ H N ps c = H c := if_neg (Nat.not_le_of_lt h)
theorem layZ_at {H : Hp} {N j : Nat} {ps : List (V × V)} {p : V × V} (h : ps[j]? = some p) : layZ H N ps (N + j) = some (.tup [p.1, p.2]) := by
  unfold layZ
  rw [if_pos (Nat.le_add_right _ _), Nat.add_sub_cancel_left, h]
theorem layZ_cases {H : Hp} {N : Nat} {ps : List (V × V)} {c : Addr} {o : HO} (h : layZ H N ps c = some o) : (∃ j p, c = N + j ∧ ps[j]? = some p ∧ o = .tup [p.1, p.2]) ∨ H c = some o := by
  unfold layZ at h
  split at h
  · rename_i le
    cases e : ps[c - N]? with
    | none => rw [e] at h; exact .inr h
    | some p =>
      rw [e] at h
      cases h
      exact .inl ⟨c - N, p, (Nat.add_sub_of_le le).symm, e, rfl⟩
  · exact .inr h
def refsV (N n : Nat) : List V := (List.range n).map fun j => V.ref (N + j)
theorem vals_refs {N : Nat} : ∀ {l : List Nat}, Vals (l.map fun j => V.ref (N + j)) (l.map fun j => Value.ref (N + j))
  | [] => .nil
  | _ :: _ => .cons rfl vals_refs
section
variable {X : Cx} {Y : Fx}
def tTupZip (K : PySem.W.Frag) (ta : TA) : TE := fun σ H Q => ta σ H fun vs H1 => ∃ (a b : Addr) (xs ys : List V), vs = [.ref a, .ref b] ∧ SqL K H1 a xs ∧ SqL K H1 b ys ∧
  ∀ N t : Nat, (∀ c : Addr, N ≤ c → H1 c = none) → N + (xs.zip ys).length ≤ t → Q (.ref t) (upd (layZ H1 N (xs.zip ys)) t (.tup (refsV N (xs.zip ys).length)))
theorem pe_tupZip {e e2 : Expr} {ta : TA} {p p2 pos pos2 : Pos} (hc : X.calm = true) (hgT : Gl X "tuple") (hmT : X.mg "tuple" = none) (hg : Gl X "zip") (hm : X.mg "zip" = none) (ha : PA X [e, e2] ta)
    (h1 : starEach [e, e2] X.env = (false, eval e X.env) :: starEach [e2] X.env := by rfl) (h2 : (backTo pos2 (starEach [e2] X.env)).any (·.1) = false := by rfl)
    (h3 : starEach [.Call (.Name "zip" p2) [e, e2] [] pos2] X.env = (false, eval (.Call (.Name "zip" p2) [e, e2] [] pos2) X.env) :: starEach [] X.env := by rfl) (h4 : (backTo pos (starEach [] X.env)).any (·.1) = false := by rfl) :
    PE X (.Call (.Name "tuple" p) [.Call (.Name "zip" p2) [e, e2] [] pos2] [] pos) (tTupZip X.K ta) := ⟨fun pins s σ H Q I h => by
  refine wpAny_Call_Name_kw (ld_blt I hgT hmT (by rfl) (PyProof.Rows.callWith_type1 ?_ h3 h4))
  rw [h3]
  refine Calls.spliced_cons (wpAny_Call_Name_kw (ld_blt I hg hm PyProof.Rows.boot_zip (PyProof.Rows.callWith_type1 (thn (ha.run pos2 pins s σ H _ I h) fun us s1 ⟨vs, H1, I1, r1, a, b, xs, ys, ex, hqx, hqy, q⟩ => ?_) h1 h2)))
  subst ex
  obtain ⟨va, vb, rfl, ra, rb⟩ := Vals.two r1
  cases ra
  cases rb
  obtain ⟨us, ru, p1, lu⟩ := I1.list hqx
  obtain ⟨ws, rw', p2, lw⟩ := I1.list hqy
  refine call_zip_2 p1.isList p2.isList fun h' hz hTI hTO j1 j2 hsz hk => Calls.spliced_nil ?_
  have D := PySem.W.ktu_apart s1.heap.objs.size a b p1.lt p2.lt
  have Z : ZNew (s1.heap.objs.size + 4) (s1.heap.objs.size + 2) (s1.heap.objs.size + 3) s1.heap.objs.size (s1.heap.objs.size + 1) a b us.toArray ws.toArray h' :=
    ⟨hz, hTI, ⟨_, _, hTO⟩, j1, j2, p1.isList.at fun o => hk _ o, p2.isList.at fun o => hk _ o⟩
  have lxy : (xs.zip ys).length = min us.toArray.size ws.toArray.size := by simp [ru.length, rw'.length]
  refine call_tuple_zip (s := { s1 with heap := h' }) (I1.ok.hd hc) D Z lxy (by rw [List.length_zip]; omega) fun g t T => ?_
  have sz : s1.heap.objs.size < h'.objs.size := by rw [hsz]; omega
  have keep : ∀ c o, s1.heap.get? c = some o → g.get? c = some o := fun c o e => by
    have lt : (c : Nat) < s1.heap.objs.size := Heap.lt_size e
    exact T.old c o (nl (Nat.lt_add_right 4 lt)) (nl (Nat.lt_add_right 3 lt)) (nl lt) (nl (Nat.lt_succ_of_lt lt)) (Nat.lt_trans lt sz) (hk c o e)
  have lt1 : ∀ c o, H1 c = some o → (c : Nat) < s1.heap.objs.size := fun c o e => I1.hok.lt e
  have far := T.far
  have same : ∀ c : Addr, (c : Nat) < s1.heap.objs.size → upd (layZ H1 (h'.objs.size + 1) (xs.zip ys)) t (.tup (refsV (h'.objs.size + 1) (xs.zip ys).length)) c = H1 c := fun c lt => by
    have n1 : c ≠ t := by
      intro e
      rw [e] at lt
      exact absurd (Nat.lt_trans lt sz) (Nat.not_lt_of_le (Nat.le_trans (Nat.le_trans (Nat.le_succ _) (Nat.le_add_right _ _)) far))
    rw [upd_ne n1, layZ_old]
    exact Nat.lt_trans lt (Nat.lt_succ_of_lt sz)
  have ok : HOk X.prog X.w (upd (layZ H1 (h'.objs.size + 1) (xs.zip ys)) t (.tup (refsV (h'.objs.size + 1) (xs.zip ys).length))) g := fun c o e => by
    by_cases ct : c = t
    · subst ct
      rw [upd_same] at e
      cases e
      refine ⟨by simp [refsV]; omega, _, vals_refs, ?_⟩
      exact T.tp
    · rw [upd_ne ct] at e
      rcases layZ_cases e with ⟨j, pr, rfl, e2, rfl⟩ | e2
      · obtain ⟨x, y, g1, g2, g3⟩ := T.ps j (List.getElem?_eq_some_iff.mp e2).1
        obtain ⟨k1, k2⟩ := List.getElem?_zip_eq_some.mp e2
        obtain ⟨u, m1, m2⟩ := ru.get k1
        obtain ⟨v, m3, m4⟩ := rw'.get k2
        rw [List.getElem?_toArray, m1] at g1
        rw [List.getElem?_toArray, m3] at g2
        cases g1
        cases g2
        exact ⟨(by decide : 2 ≤ sizeLine), [x, y], .cons m2 (.cons m4 .nil), _, g3, rfl, _, rfl⟩
      · refine (I1.hok c o e2).stay (fun d u _ w' => keep d u w') (fun d w' => ?_) fun d ws' w' => ?_
        · rw [same d (lt1 _ _ w')]; exact w'
        · rw [same d (lt1 _ _ w')]; exact w'
  have I2 : Inv X pins σ _ { s1 with heap := g, toks := s1.toks } := I1.un (t' := s1.toks) ⟨fun c o e _ _ _ => keep c o e, fun c o e _ _ _ => ⟨o.slots, keep c o e⟩, fun c o e n _ => by rw [same c (Heap.lt_size e)]; exact n, fun c o e _ => ⟨o, keep c o e⟩,
    fun c ws' w' => by rw [same c (lt1 _ _ w')]; exact w', fun c o u w' => by rw [same c (lt1 _ _ w')]; exact w', fun c ps w' => ⟨#[], by rw [same c (lt1 _ _ w')]; simpa using w'⟩⟩ ok
  exact ⟨.ref t, _, I2, rfl, q _ _ (fun c le => I1.hok.fresh (Nat.le_trans (Nat.le_of_lt (Nat.lt_succ_of_lt sz)) le)) far⟩⟩
theorem rps_at {K : PySem.W.Frag} {F : Hp} : ∀ {ds : List PyData} {vs : List V}, ds.length = vs.length → (∀ (i : Nat) d v, ds[i]? = some d → vs[i]? = some v → Rp K F d v) → Rps K F ds vs
  | [], [], _, _ => rps_nil
  | [], _ :: _, e, _ => nomatch e
  | _ :: _, [], e, _ => nomatch e
  | d :: ds, v :: vs, e, h => rps_cons (h 0 d v rfl rfl) (rps_at (Nat.succ.inj e) fun i d v e1 e2 => h (i + 1) d v e1 e2)
def dTupZip (t : DTA) : DTE := fun ρ n R => t ρ n fun xs n' => ∃ ds es, xs = [.dat (.list ds), .dat (.list es)] ∧ R (.dat (.tuple (zipD ds es))) n'
theorem we_tupZip {e e2 : Expr} {t : DTA} {p p2 pos pos2 : Pos} (hc : X.calm = true) (hgT : Gl X "tuple") (hmT : X.mg "tuple" = none) (hg : Gl X "zip") (hm : X.mg "zip" = none) (ha : WA Y X [e, e2] t)
    (h1 : starEach [e, e2] X.env = (false, eval e X.env) :: starEach [e2] X.env := by rfl) (h2 : (backTo pos2 (starEach [e2] X.env)).any (·.1) = false := by rfl)
    (h3 : starEach [.Call (.Name "zip" p2) [e, e2] [] pos2] X.env = (false, eval (.Call (.Name "zip" p2) [e, e2] [] pos2) X.env) :: starEach [] X.env := by rfl) (h4 : (backTo pos (starEach [] X.env)).any (·.1) = false := by rfl) :
    WE Y X (.Call (.Name "tuple" p) [.Call (.Name "zip" p2) [e, e2] [] pos2] [] pos) (dTupZip t) :=
  pe_imp (pe_tupZip hc hgT hmT hg hm ha h1 h2 h3 h4) fun σ H Q ⟨Z, F, ρ, n, R, r, ht, k⟩ => ⟨Z, F, ρ, n, _, r, ht, fun xs n1 F1 H1 vs ⟨ds, es, ex, hx⟩ g1 s1 d1 w1 => by
    subst ex
    obtain ⟨v1, v2, rfl, w1, w2⟩ := vr2 w1
    simp only [VR, Rp] at w1 w2
    obtain ⟨a, us, rfl, e1, q1⟩ := w1
    obtain ⟨b, ws, rfl, e2, q2⟩ := w2
    refine ⟨a, b, us, ws, rfl, SqL.of (s1 _ _ e1), SqL.of (s1 _ _ e2), fun N t free far => ?_⟩
    have ltH : ∀ c o, H1 c = some o → (c : Nat) < N := fun c o e => Nat.lt_of_not_le fun le => by rw [free c le] at e; cases e
    have ltT : ∀ c : Addr, (c : Nat) < N → c ≠ t := fun c lt e => absurd (Nat.le_trans (Nat.le_add_right _ _) far) (Nat.not_le_of_lt (e ▸ lt))
    have oldH : ∀ (G : Hp) (c : Addr), (c : Nat) < N → upd (layZ G N (us.zip ws)) t (.tup (refsV N (us.zip ws).length)) c = G c := fun G c lt => by rw [upd_ne (ltT c lt), layZ_old lt]
    have s2 : Same (upd (layZ F1 N (us.zip ws)) t (.tup (refsV N (us.zip ws).length))) (upd (layZ H1 N (us.zip ws)) t (.tup (refsV N (us.zip ws).length))) := fun c o e => by
      by_cases ct : c = t
      · subst ct; rw [upd_same] at e ⊢; exact e
      · rw [upd_ne ct] at e ⊢
        rcases layZ_cases e with ⟨j, pr, rfl, q, rfl⟩ | q
        · exact layZ_at q
        · rw [layZ_old (ltH _ _ (s1 _ _ q))]; exact s1 _ _ q
    have g2 : Gp F1 H1 (upd (layZ F1 N (us.zip ws)) t (.tup (refsV N (us.zip ws).length))) (upd (layZ H1 N (us.zip ws)) t (.tup (refsV N (us.zip ws).length))) :=
      ⟨fun c o e => by rw [oldH F1 c (ltH _ _ (s1 _ _ e))]; exact e, fun c ne e => by
        obtain ⟨o, q⟩ := some_of_ne ne
        rw [oldH F1 c (ltH _ _ q)]; exact e, fun c o e => by rw [oldH H1 c (ltH _ _ e)]; exact e⟩
    refine k _ _ _ _ _ hx (g1.trans g2.gr) s2 (g2.dk ((r.step g1 s1 d1).b)) ?_
    simp only [VR, Rp]
    have lz : (zipD ds es).length = (us.zip ws).length := by rw [zipD_length, List.length_zip, q1.length, q2.length]
    refine ⟨t, _, rfl, upd_same, rps_at (by rw [lz]; simp [refsV]) fun i d v e1 e2 => ?_⟩
    have lt : i < (us.zip ws).length := by rw [← lz]; exact (List.getElem?_eq_some_iff.mp e1).1
    simp only [refsV, List.getElem?_map, List.getElem?_range lt, Option.map_some, Option.some.injEq] at e2
    obtain ⟨x, y, x1, x2, rfl⟩ := zipD_get e1
    obtain ⟨u, m1, m2⟩ := q1.get x1
    obtain ⟨w', m3, m4⟩ := q2.get x2
    have zi : (us.zip ws)[i]? = some (u, w') := List.getElem?_zip_eq_some.mpr ⟨m1, m3⟩
    subst e2
    simp only [Rp]
    refine ⟨N + i, [u, w'], rfl, ?_, rps_cons (Rp.mono g2.sF _ _ m2) (rps_cons (Rp.mono g2.sF _ _ m4) rps_nil)⟩
    rw [upd_ne (show (N + i : Nat) ≠ t by
      have : N + i < t := Nat.lt_of_lt_of_le (Nat.add_lt_add_left lt N) far
      exact Nat.ne_of_lt this)]
    exact layZ_at zi⟩
end
end DL
set_option maxHeartbeats 4000000
namespace DL
open PySem PySem.Spec PyProof.Rows L2
/-! ### sorted of a set of ints, however many -/
section
variable {P : Program} {w : World} {A : Around} {E : Value → Shared → Prop} {s : Shared} {a : Addr}
theorem call_sortedBig {S : Int → Bool} {n : Nat} {Q : Value → Shared → Prop} (R : SetR w s.heap a S n) (h0 : A.handled = none) (hb : n ≤ 4000)
    (hQ : ∀ s' p (out : Array Value) (c : Nat) (ns : List Int), (∀ b o, s.heap.get? b = some o → s'.heap.get? b = some o) → s'.gens = s.gens → s'.os = s.os → s.heap.objs.size ≤ p →
      s'.heap.get? p = some (seqObj "list" out c) → IntsAre out.toList ns → ns.Pairwise (· < ·) → (∀ k, k ∈ ns ↔ S k = true) → ns.length = n → Q (.ref p) s') : wpAny (model P w) A (call (.builtin "sorted") [.ref a]) Q E s := by
  obtain ⟨ob, es, ep, t, at1, ex, dt, each, nodup, mem, sb, sf, cnt, rr, ll⟩ := R
  refine Calls.call_function_entry kind_sorted plain_sorted entry_sorted (args_sorted1 _) ?_
  show wpAny _ _ (Builtin.«sorted» _) _ _ _
  unfold Builtin.«sorted»
  refine wpAny_bind (m := checkCount "sorted" 1 1 _) (wpAny_pure (wpAny_bind (collect_set (A := A.in1) h0 ⟨ob, at1, ex.1, dt⟩ sf sb rr ll fun s1 vs keep size gens os perm => ?_)))
  have many : vs.length = n := (perm.length_eq.trans (by rw [List.length_map, Array.length_toList])).trans cnt
  have hI2 : IntsAre vs (vs.map Builtin.Re.reRawOf) := ints_of vs fun v hv => by
    obtain ⟨e, he, q⟩ := List.mem_map.mp (perm.mem_iff.mp hv)
    obtain ⟨k, tk, q2, _⟩ := each e he
    exact ⟨k, tk, q ▸ q2⟩
  have hKs : (vs.map Builtin.Re.reRawOf).Perm (es.toList.map keyOf) := by
    have q := perm.map Builtin.Re.reRawOf
    rwa [List.map_map] at q
  have room : vs.length ≤ sizeLine := by rw [many, sizeLine_eq]; omega
  refine wpAny_bind (wpAny_newList ?_ room)
  have top : (s1.heap.push (seqObj "list" vs.toArray 0)).get? s1.heap.objs.size = some (seqObj "list" vs.toArray 0) := Heap.get?_push_size _ rfl
  refine wpAny_bind (wpAny_holding (wpAny_call_entry slot_list_sort ⟨_, top, rfl⟩ entry_list_sort (SrtO.list_sort_ord SrtO.swo_int top room (fun h2 => SrtO.ints_sortable hI2 h2) fun out o1 o2 => ⟨_, rfl, ?_⟩) (args_list_sort _)))
  obtain ⟨k1, k2, k3⟩ := SrtO.ints_out hI2 o1 o2
  obtain ⟨c, hc⟩ := sortedHeap_at (vs := vs) (out := out.toArray) top
  have pn : (out.map SrtO.iv).Perm (es.toList.map keyOf) := k2.trans hKs
  refine wpAny_pure ⟨_, rfl, hQ _ s1.heap.objs.size out.toArray c (out.map SrtO.iv) (fun b u e => ?_) gens os size hc k1 (lt_of_le_nodup _ k3 (pn.nodup_iff.mpr nodup)) (fun k => by rw [pn.mem_iff, ← mem k]) ?_⟩
  · have q := keep b u e
    have lt := Heap.lt_size q
    show (sortedHeap (s1.heap.push (seqObj "list" vs.toArray 0)) s1.heap.objs.size vs out.toArray).get? b = some u
    rw [sortedHeap_old (Nat.ne_of_lt lt) (by rw [size_push']; exact Nat.lt_succ_of_lt lt)]
    exact Heap.get?_push_of_some _ q
  · exact (pn.length_eq.trans (by rw [List.length_map, Array.length_toList])).trans cnt
end
section
variable {X : Cx} {Y : Fx}
def rSortedBig (w : World) : List V → Hp → VK → Prop := fun vs H Q => ∃ (a : Addr) (S : Int → Bool) (n : Nat), vs = [V.ref a] ∧ H a = some (SetO w a S n) ∧ n ≤ 4000 ∧
  ∀ (ns : List Int) (p : Addr), ns.Pairwise (· < ·) → (∀ k : Int, k ∈ ns ↔ S k = true) → ns.length = n → H p = none → Q (.ref p) (upd H p (.lst (ns.map V.int)))
theorem cr_sortedBig (hc : X.calm = true) : CallR X (.builtin "sorted") (rSortedBig X.w) := by
  intro pins s σ H vs us Q I r h
  obtain ⟨a, S, n, rfl, ha, hb, q⟩ := h
  rw [Vals.ref1 r]
  refine call_sortedBig (setO_get I ha) (I.ok.hd hc) hb fun s' p out c ns k g o hp hg hi hs hm hl => ?_
  have room : (ns.map V.int).length ≤ sizeLine := by rw [List.length_map, hl, sizeLine_eq]; omega
  have hn : H p = none := I.hok.fresh hp
  have J : Inv X pins σ (upd H p (.lst (ns.map V.int))) { s with heap := s'.heap, gens := s'.gens, drawn := s'.drawn, toks := s'.toks } :=
    I.call (ch := []) (Un.laid k hp hn) (I.hok.laid k hp ⟨room, out.toList, c, vals_of_ints hi, hg⟩) (g ▸ I.bare) (fun _ z => nomatch z)
  have e : s' = { s with heap := s'.heap, gens := s'.gens, drawn := s'.drawn, toks := s'.toks } := by
    cases s'; cases s; cases o; rfl
  rw [e]
  exact ⟨.ref p, _, J, rfl, q ns p hs hm hl hn⟩
def mSortSetG (t : DTE) : DTM := fun ρ n R => t ρ n fun x n' => ∃ ns : List Int, x = .dat (.list (ns.map .int)) ∧ ns.length ≤ 4000 ∧ ∀ ms : List Int, ms.Pairwise (· < ·) → (∀ k, k ∈ ms ↔ k ∈ ns) → R (ms.map .int) n'
theorem me_sortedSetG {e : Expr} {t : DTE} {p p2 pos pos2 : Pos} (hc : X.calm = true) (hg : Gl X "sorted") (hm : X.mg "sorted" = none) (hg2 : Gl X "set") (hm2 : X.mg "set" = none) (he : WE Y X e t)
    (h1 : starEach [e] X.env = (false, eval e X.env) :: starEach [] X.env := by rfl) (h2 : (backTo pos2 (starEach [] X.env)).any (·.1) = false := by rfl)
    (h3 : starEach [.Call (.Name "set" p2) [e] [] pos2] X.env = (false, eval (.Call (.Name "set" p2) [e] [] pos2) X.env) :: starEach [] X.env := by rfl) (h4 : (backTo pos (starEach [] X.env)).any (·.1) = false := by rfl) :
    ME Y X (.Call (.Name "sorted" p) [.Call (.Name "set" p2) [e] [] pos2] [] pos) (mSortSetG t) :=
  pe_imp (pe_callB (cr_sortedBig hc) hg hm PyProof.Rows.boot_sorted (pa_cons (pe_callTy (cr_setLi hc) hg2 hm2 (by rfl) (pa_cons he pa_nil h1) (by decide) (by decide) h1 h2) pa_nil h3) (by decide) (by decide) h3 h4) fun σ H Q ⟨Z, F, ρ, n, R, r, ht, k⟩ =>
    ⟨Z, F, ρ, n, _, r, ht, fun x n1 F1 H1 v hx g1 s1 d1 w1 => by
      obtain ⟨ns, rfl, hl, hx⟩ := hx
      simp only [VR, Rp] at w1
      obtain ⟨a, us, rfl, e1, e2⟩ := w1
      rw [e2.ints] at e1
      have r1 := r.step g1 s1 d1
      refine ⟨a, ns, ns, rfl, SqL.of (s1 _ _ e1), hl, fun _ h => h, fun p c hp hcn => ⟨p, _, c, rfl, upd_same, Nat.le_trans hcn hl, fun ms q m1 m2 _ hq => ?_⟩⟩
      obtain ⟨g2, s2⟩ := Gp.newM (o := SetO X.w p (fun j => decide (j ∈ ns)) c) hp s1
      have r2 := r1.step g2.gr s2 (g2.dk r1.b)
      obtain ⟨g3, s3⟩ := Gp.newM (o := .lst (ms.map V.int)) hq s2
      have hq0 : H q = none := by
        cases e : H q with
        | none => rfl
        | some o => exact absurd hq ((g1.trans g2.gr).dH q (by rw [e]; nofun))
      exact k (ms.map .int) n1 F1 _ q _ (hx ms m1 fun k => (m2 k).trans (by simp)) ((g1.trans g2.gr).trans g3.gr) s3 (g3.dk r2.b) hq0 (s2.free hq) upd_same (rps_ints ms)⟩
end
end DL
set_option maxHeartbeats 4000000
namespace DL
open PySem PySem.Spec PyProof.Rows L2
/-! ### a dict beside a text -/
section
variable {P : Program} {w : World} {A : Around} {E : Value → Shared → Prop} {s : Shared} {a : Addr}
theorem dict_beside {o : Obj} {t : Str} {u : Tok} {Q : Value → Shared → Prop} (ho : s.heap.get? a = some o) (hc : o.cls = .type "dict") (h : Q .notImplemented s) : wpAny (model P w) A (call (.builtin "dict.__eq__") [.ref a, .str t u]) Q E s := by
  have ty : s.TypeIs (.ref a) "dict" := ⟨o, ho, hc⟩
  refine wpAny_call_entry PySem.F.slot_dict_eq ty PySem.F.entry_dict_eq ?_ (PySem.F.args_dict_eq_2 _ _)
  refine wpAny_bind (m := Builtin.Dict.dictSlotArgs "__eq__" ⟨[.ref a, .str t u], []⟩) ?_
  unfold Builtin.Dict.dictSlotArgs
  refine wpAny_bind (wpAny_notOrdered_dict ty ?_)
  refine wpAny_pure (wpAny_bind (wpAny_isInstance (T := "str") (typeIs_str s t u) PySem.F.sub_str_dict ?_))
  simp only [Bool.not_false, if_true]
  exact wpAny_bind (m := rule _) (wpAny_rule (wpAny_bind (m := ret .notImplemented) (wpAny_pure (wpAny_pure ⟨_, rfl, h⟩))))
theorem dict_besideN {o : Obj} {t : Str} {u : Tok} {Q : Value → Shared → Prop} (ho : s.heap.get? a = some o) (hc : o.cls = .type "dict") (h : Q .notImplemented s) : wpAny (model P w) A (call (.builtin "dict.__ne__") [.ref a, .str t u]) Q E s := by
  have ty : s.TypeIs (.ref a) "dict" := ⟨o, ho, hc⟩
  refine wpAny_call_entry PySem.F.slot_dict_ne ty PySem.F.entry_dict_ne ?_ (PySem.F.args_dict_ne_2 _ _)
  refine wpAny_bind (m := Builtin.Dict.dictSlotArgs "__ne__" ⟨[.ref a, .str t u], []⟩) ?_
  unfold Builtin.Dict.dictSlotArgs
  refine wpAny_bind (wpAny_notOrdered_dict ty ?_)
  refine wpAny_pure (wpAny_bind (wpAny_isInstance (T := "str") (typeIs_str s t u) PySem.F.sub_str_dict ?_))
  simp only [Bool.not_false, if_true]
  exact wpAny_bind (m := rule _) (wpAny_rule (wpAny_bind (m := ret .notImplemented) (wpAny_pure (wpAny_pure ⟨_, rfl, h⟩))))
theorem text_beside (t : Str) (u : Tok) (a : Addr) (c : Value) (dd : Option Addr) (es : Array DictEntry) (ep : Nat) (sl : Array (Option Value)) : Meets (Builtin.«str.__eq__» ⟨[.str t u, .ref a], []⟩) (fun _ R s => s.heap.get? a = some { cls := c, dict := dd, data := .dict es ep, slots := sl } ∧ R (.ok (.ret .notImplemented)) s) :=
  .of_wp fun prog w A R s h => by
    obtain ⟨hp, g, d, tk, os⟩ := s
    obtain ⟨hl, h⟩ := h
    wp_walk using wpAny_load hl
    exact ⟨_, rfl, h⟩
theorem text_besideN (t : Str) (u : Tok) (a : Addr) (c : Value) (dd : Option Addr) (es : Array DictEntry) (ep : Nat) (sl : Array (Option Value)) : Meets (Builtin.«str.__ne__» ⟨[.str t u, .ref a], []⟩) (fun _ R s => s.heap.get? a = some { cls := c, dict := dd, data := .dict es ep, slots := sl } ∧ R (.ok (.ret .notImplemented)) s) :=
  .of_wp fun prog w A R s h => by
    obtain ⟨hp, g, d, tk, os⟩ := s
    obtain ⟨hl, h⟩ := h
    wp_walk using wpAny_load hl
    exact ⟨_, rfl, h⟩
theorem eq_beside {t : Str} {u : Tok} {c : Option Addr} {es : Array DictEntry} {ep : Nat} {sl : Array (Option Value)} {Q : Value → Shared → Prop} (ho : s.heap.get? a = some { cls := .type "dict", dict := c, data := .dict es ep, slots := sl }) (hu : A.units < cLine) (h : Q (.bool false) s) : wpAny (model P w) A (richCompare .Eq (.ref a) (.str t u)) Q E s :=
  SeqAt.rc_eq_decline_or (k := false) ⟨_, ho, rfl⟩ (typeIs_str s t u) (by decide) PySem.F.sub_str_dict PySem.F.slot_dict_eq PySem.F.slot_str_eq_refl (fun _ q => dict_beside ho rfl q)
    (fun _ q => call_meets PySem.F.slot_str_eq_refl (typeIs_str s t u) PySem.F.entry_str_eq (PySem.F.args_str_eq_2 _ _) (text_beside t u a _ c es ep sl) ⟨ho, q⟩) (fun _ q => wpAny_of_eq (rfl : isSame (.ref a) (.str t u) = pure false) q) (.inr hu) h
theorem ne_beside {t : Str} {u : Tok} {c : Option Addr} {es : Array DictEntry} {ep : Nat} {sl : Array (Option Value)} {Q : Value → Shared → Prop} (ho : s.heap.get? a = some { cls := .type "dict", dict := c, data := .dict es ep, slots := sl }) (hu : A.units < cLine) (h : Q (.bool true) s) : wpAny (model P w) A (richCompare .NotEq (.ref a) (.str t u)) Q E s :=
  SeqAt.rc_ne_decline_or (k := false) ⟨_, ho, rfl⟩ (typeIs_str s t u) (by decide) PySem.F.sub_str_dict PySem.F.slot_dict_ne PySem.F.slot_str_ne_refl (fun _ q => dict_besideN ho rfl q)
    (fun _ q => call_meets PySem.F.slot_str_ne_refl (typeIs_str s t u) PySem.F.entry_str_ne (PySem.F.args_str_ne_2 _ _) (text_besideN t u a _ c es ep sl) ⟨ho, q⟩) (fun _ q => wpAny_of_eq (rfl : isSame (.ref a) (.str t u) = pure false) q) (.inr hu) h
end
/-- whether it is this text -/
def isT (d : PyData) (t : Str) : Bool := match d with | .str s => decide (s = t) | _ => false
section
variable {X : Cx} {Y : Fx}
theorem dK_at {P : Program} {w : World} {H : Hp} {h : Heap} {a : Addr} {ks : List (Key × V)} (o : ObjOk P w H h a (.dK ks)) : ∃ c es ep sl, h.get? a = some { cls := .type "dict", dict := c, data := .dict es ep, slots := sl } := by
  obtain ⟨_, _, vs, _, ⟨cls, dct, dat, sl⟩, es, ep, at1, ex, dt, _⟩ := o
  have e := ex.1
  simp only at e dt
  subst e dt
  exact ⟨_, _, _, _, at1⟩
def rEqTx (K : PySem.W.Frag) : R2 := fun x y H Q => ∃ (d : PyData) (t : Str), y = .str t ∧ (Rp K H d x ∧ isRefD d = false) ∧ Q (.bl (isT d t)) H
def rNeTx (K : PySem.W.Frag) : R2 := fun x y H Q => ∃ (d : PyData) (t : Str), y = .str t ∧ (Rp K H d x ∧ isRefD d = false) ∧ Q (.bl (!isT d t)) H
theorem or_eqTx (hu : X.A.units + 64 < cLine) : OpR X (compareOp .Eq) (rEqTx X.K) := by
  intro pins s σ H x y v u Q I rx ry h
  obtain ⟨d, t, rfl, ⟨hd, hnr⟩, q⟩ := h
  obtain ⟨tk, rfl⟩ := ry
  have hu' : X.A.units < cLine := by omega
  cases d with
  | none => simp only [Rp] at hd; subst hd; cases rx; exact SeqAt.RcAt.none_str t tk _ _ _ _ ⟨.bl _, H, I, rfl, q⟩
  | bool b => simp only [Rp] at hd; subst hd; cases rx; exact SeqAt.RcAt.bool_str b t tk _ _ _ _ ⟨.bl _, H, I, rfl, q⟩
  | int i => simp only [Rp] at hd; subst hd; obtain ⟨tj, rfl⟩ := rx; exact SeqAt.RcAt.int_str i tj t tk _ _ _ _ ⟨.bl _, H, I, rfl, q⟩
  | str z =>
    simp only [Rp] at hd; subst hd; obtain ⟨tj, rfl⟩ := rx
    have e : (z == t) = isT (.str z) t := by by_cases h : z = t <;> simp [isT, h]
    exact SeqAt.RcAt.str_str z tj t tk _ _ _ _ ⟨.bl _, H, I, rfl, e ▸ q⟩
  | list ds =>
    simp only [Rp] at hd
    obtain ⟨a, xs, rfl, ha, _⟩ := hd
    cases rx
    obtain ⟨us, _, p1, _⟩ := I.list (SqL.of ha)
    exact SeqAt.RcAt.list_str t tk p1.isList hu' _ _ _ _ ⟨.bl _, H, I, rfl, q⟩
  | tuple ds =>
    simp only [Rp] at hd
    obtain ⟨a, xs, rfl, ha, _⟩ := hd
    cases rx
    obtain ⟨us, _, p1, _⟩ := I.tuple (SqT.of ha)
    exact SeqAt.RcAt.tuple_str t tk p1 hu' _ _ _ _ ⟨.bl _, H, I, rfl, q⟩
  | dict kvs =>
    simp only [Rp] at hd
    obtain ⟨a, ks, rfl, ha, _⟩ := hd.resolve_right (fun ⟨a, e, _⟩ => by rw [e] at hnr; cases hnr)
    cases rx
    obtain ⟨c, es, ep, sl, at1⟩ := dK_at (I.hok a _ ha)
    exact eq_beside at1 hu' ⟨.bl _, H, I, rfl, q⟩
theorem or_neTx (hu : X.A.units + 64 < cLine) : OpR X (compareOp .NotEq) (rNeTx X.K) := by
  intro pins s σ H x y v u Q I rx ry h
  obtain ⟨d, t, rfl, ⟨hd, hnr⟩, q⟩ := h
  obtain ⟨tk, rfl⟩ := ry
  have hu' : X.A.units < cLine := by omega
  cases d with
  | none => simp only [Rp] at hd; subst hd; cases rx; exact SeqAt.RcNeAt.none_str t tk _ _ _ _ ⟨.bl _, H, I, rfl, q⟩
  | bool b => simp only [Rp] at hd; subst hd; cases rx; exact SeqAt.RcNeAt.bool_str b t tk _ _ _ _ ⟨.bl _, H, I, rfl, q⟩
  | int i => simp only [Rp] at hd; subst hd; obtain ⟨tj, rfl⟩ := rx; exact SeqAt.RcNeAt.int_str i tj t tk _ _ _ _ ⟨.bl _, H, I, rfl, q⟩
  | str z =>
    simp only [Rp] at hd; subst hd; obtain ⟨tj, rfl⟩ := rx
    have e : (z == t) = isT (.str z) t := by by_cases h : z = t <;> simp [isT, h]
    exact SeqAt.RcNeAt.str_str z tj t tk _ _ _ _ ⟨.bl _, H, I, rfl, e ▸ q⟩
  | list ds =>
    simp only [Rp] at hd
    obtain ⟨a, xs, rfl, ha, _⟩ := hd
    cases rx
    obtain ⟨us, _, p1, _⟩ := I.list (SqL.of ha)
    exact SeqAt.RcNeAt.list_str t tk p1.isList hu' _ _ _ _ ⟨.bl _, H, I, rfl, q⟩
  | tuple ds =>
    simp only [Rp] at hd
    obtain ⟨a, xs, rfl, ha, _⟩ := hd
    cases rx
    obtain ⟨us, _, p1, _⟩ := I.tuple (SqT.of ha)
    exact SeqAt.RcNeAt.tuple_str t tk p1 hu' _ _ _ _ ⟨.bl _, H, I, rfl, q⟩
  | dict kvs =>
    simp only [Rp] at hd
    obtain ⟨a, ks, rfl, ha, _⟩ := hd.resolve_right (fun ⟨a, e, _⟩ => by rw [e] at hnr; cases hnr)
    cases rx
    obtain ⟨c, es, ep, sl, at1⟩ := dK_at (I.hok a _ ha)
    exact ne_beside at1 hu' ⟨.bl _, H, I, rfl, q⟩
/-- any value == a text -/
def oEqT (neg : Bool) : D2 := fun x y R => ∃ (d : PyData) (t : Str), x = .dat d ∧ y = .dat (.str t) ∧ isRefD d = false ∧ R (.bool (if neg then !isT d t else isT d t))
theorem bi_eqT {K : PySem.W.Frag} : BinOk K (rEqTx K) (oEqT false) := fun δ F H x y v u R Q hs hx hy ⟨d, t, e1, e2, hn, hr⟩ b => by
  subst e1 e2
  simp only [VR] at hx hy
  simp only [Rp] at hy
  exact ⟨d, t, hy, ⟨Rp.mono hs d v hx, hn⟩, b.bl hs hr⟩
theorem bi_neT {K : PySem.W.Frag} : BinOk K (rNeTx K) (oEqT true) := fun δ F H x y v u R Q hs hx hy ⟨d, t, e1, e2, hn, hr⟩ b => by
  subst e1 e2
  simp only [VR] at hx hy
  simp only [Rp] at hy
  exact ⟨d, t, hy, ⟨Rp.mono hs d v hx, hn⟩, b.bl hs hr⟩
/-- a list != [], whatever its items -/
def rNeNil (K : PySem.W.Frag) : R2 := fun x y H Q => ∃ (a b : Addr) (xs : List V), x = .ref a ∧ y = .ref b ∧ SqL K H a xs ∧ SqL K H b [] ∧ Q (.bl (!xs.isEmpty)) H
theorem or_neNil (hu : X.A.units + 64 < cLine) : OpR X (compareOp .NotEq) (rNeNil X.K) := by
  intro pins s σ H x y v u Q I rx ry h
  obtain ⟨a, b, xs, rfl, rfl, ha, hb, q⟩ := h
  cases rx
  cases ry
  obtain ⟨us, r1, p1, _⟩ := I.list ha
  obtain ⟨ws, r2, p2, _⟩ := I.list hb
  cases r2
  have hu' : X.A.units < cLine := by omega
  cases xs with
  | nil =>
    cases r1
    exact SeqAt.RcNeAt.lists (e := fun _ => true) p1.isList p2.isList rfl hu' (fun j h1 _ => absurd h1 (Nat.not_lt_zero j)) _ _ _ _ ⟨.bl _, H, I, rfl, q⟩
  | cons x xs =>
    cases r1 with
    | cons r1 rs => exact SeqAt.RcNeAt.lists_lengths p1.isList p2.isList (by simp) hu' _ _ _ _ ⟨.bl _, H, I, rfl, q⟩
def oNeNil : D2 := fun x y R => ∃ ds, x.toD = .list ds ∧ x.isDk = false ∧ y = .dat (.list []) ∧ R (.bool (!ds.isEmpty))
theorem bi_neNil {K : PySem.W.Frag} : BinOk K (rNeNil K) oNeNil := fun δ F H x y v u R Q hs hx hy ⟨ds, e1, e2, e3, hr⟩ b => by
  subst e3
  have rx := hx.rp hs e2
  rw [e1] at rx
  simp only [Rp] at rx
  simp only [VR, Rp] at hy
  obtain ⟨a, xs, rfl, ha, rr⟩ := rx
  obtain ⟨c, ys, rfl, hc, rfl⟩ := hy
  exact ⟨a, c, xs, rfl, rfl, SqL.of ha, SqL.of (hs _ _ hc), b.bl hs (rr.isEmpty ▸ hr)⟩
end
end DL
set_option maxHeartbeats 4000000
namespace DL
open PySem PySem.Spec PyProof.Rows L2
/-! ### a list + a list, as a list of one's own -/
theorem VR.lstF {K : PySem.W.Frag} {δ : DkS} {F H : Hp} {x : Dv} {v : V} {ds : List PyData} (h : VR K δ F H x v) (hs : Same F H) (e : x.toD = .list ds) : ∃ a xs, v = .ref a ∧ H a = some (.lst xs) ∧ Rps K F ds xs := by
  cases x with
  | dat d =>
    simp only [Dv.toD] at e
    subst e
    simp only [VR, Rp] at h
    obtain ⟨a, xs, rfl, h1, h2⟩ := h
    exact ⟨a, xs, rfl, hs _ _ h1, h2⟩
  | vw es =>
    simp only [Dv.toD] at e
    injection e with e
    subst e
    obtain ⟨a, xs, rfl, h1, h2, _⟩ := h
    exact ⟨a, xs, rfl, h1, h2⟩
  | mt es => exact h.elim
  | deck k => cases e
  | md a ks => exact h.elim
section
variable {X : Cx} {Y : Fx}
def mCat (t u : DTE) : DTM := fun ρ n R => t ρ n fun x n1 => u ρ n1 fun y n2 => ∃ ds es, x.toD = .list ds ∧ y.toD = .list es ∧ ds.length + es.length ≤ sizeLine ∧ R (ds ++ es) n2
theorem me_cat {a b : Expr} {t u : DTE} {pos : Pos} (ha : WE Y X a t) (hb : WE Y X b u) : ME Y X (.BinOp a .Add b pos) (mCat t u) :=
  pe_imp (pe_op op_cat ha hb) fun σ H Q ⟨Z, F, ρ, n, R, r, ht, k⟩ => ⟨Z, F, ρ, n, _, r, ht, fun x n1 F1 H1 v hx g1 s1 d1 w1 => ⟨Z, F1, ρ, n1, _, r.step g1 s1 d1, hx, fun y n2 F2 H2 v2 hy g2 s2 d2 w2 => by
    obtain ⟨ds, es, e1, e2, hl, hR⟩ := hy
    obtain ⟨p1, xs, rfl, h1, r1⟩ := (w1.step g2).lstF s2 e1
    obtain ⟨p2, ys, rfl, h2, r2⟩ := w2.lstF s2 e2
    refine ⟨p1, p2, xs, ys, rfl, rfl, h1, h2, by rw [← r1.length, ← r2.length]; exact hl, fun p hp => ?_⟩
    obtain ⟨g3, s3⟩ := Gp.newM (o := .lst (xs ++ ys)) hp s2
    have g12 := g1.trans g2
    have hp0 : H p = none := by
      cases e : H p with
      | none => rfl
      | some o => exact absurd hp (g12.dH p (by rw [e]; nofun))
    exact k _ _ _ _ _ _ hR (g12.trans g3.gr) s3 (g3.dk (((r.step g1 s1 d1).step g2 s2 d2).b)) hp0 (s2.free hp) upd_same (r1.append r2)⟩⟩
end
/-! ### a def that calls itself: the bottom, and more room -/
theorem fng_false {P : Program} {w : World} {K : PySem.W.Frag} {mg : Str → Option Value} {base : Heap} {k m : Nat} {f : Addr} {fd : FuncData} {ps : List Str} : FnG P w K mg base k f fd ps (spD K m fun _ _ _ => False) :=
  ⟨fun _ _ _ _ ⟨_, _, _, _, _, _, _, _, _, _, h, _⟩ => h.elim, fun _ _ _ _ _ _ _ _ _ _ _ _ _ ⟨_, _, _, _, _, _, _, _, _, _, h, _⟩ => h.elim⟩
theorem Has.mono {P : Program} {w : World} {K : PySem.W.Frag} {mg : Str → Option Value} {base : Heap} {x : Str} {j k : Nat} {ps : List Str} {c : DSpec} (h : Has P w K mg base x j ps c) (hj : j ≤ k) : Has P w K mg base x k ps c := by
  obtain ⟨f, fd, h1, h2, h3, h4⟩ := h
  exact ⟨f, fd, h1, h2, h3, h4.mono hj⟩
/-- from a step to every depth -/
theorem has_rec {P : Program} {w : World} {K : PySem.W.Frag} {mg : Str → Option Value} {base : Heap} {x : Str} {L : Nat} {ps : List Str} {c : Nat → DSpec} {f : Addr} {fd : FuncData} (h0 : c 0 = fun _ _ _ => False) (h1 : mg x = some (.ref f)) (h2 : PySem.W.keepIn K (.ref f) = true) (h3 : Binds K fd ps [])
    (step : ∀ j, Has P w K mg base x (L + j) ps (c j) → FnG P w K mg base (L + j + 1) f fd ps (spD K ps.length (c (j + 1)))) : ∀ j, Has P w K mg base x (L + j) ps (c j)
  | 0 => ⟨f, fd, h1, h2, h3, by rw [h0]; exact fng_false⟩
  | j + 1 => ⟨f, fd, h1, h2, h3, step j (has_rec h0 h1 h2 h3 step j)⟩
end DL
set_option maxHeartbeats 4000000
namespace DL
open PySem PySem.Spec PyProof.Rows L2
/-! ### defs that may raise, where nothing is being shown -/
structure FnGX (P : Program) (w : World) (K : PySem.W.Frag) (mg : Str → Option Value) (base : Heap) (k : Nat) (f : Addr) (fd : FuncData) (ps : List Str) (sp : Sp) : Prop where
  len : ∀ vs H Q E, sp vs H Q E → vs.length = ps.length
  run : ∀ (A : Around) (outer : List Env) (s : Shared) (H : Hp) (args : Args) (us : List Value) (vs : List V) (Q : VK) (E : XK), A.guards = some [] → Room k A → Env0 P w K mg base A outer s H →
    BindsTo s fd args (ps.zip us) → Vals vs us → sp vs H Q E → codeAny (model P w) A (.call (.ref f) args) (CR (L2.CX P w) outer P w H s Q E) s
section
variable {P : Program} {w : World} {K : PySem.W.Frag} {mg : Str → Option Value} {base : Heap} {j k : Nat} {f : Addr} {fd : FuncData} {ps : List Str} {sp : Sp}
theorem FnGX.mono (F : FnGX P w K mg base j f fd ps sp) (h : j ≤ k) : FnGX P w K mg base k f fd ps sp :=
  ⟨F.len, fun A outer s H args us vs Q E hg hr => F.run A outer s H args us vs Q E hg (hr.mono h)⟩
theorem FnG.x (F : FnG P w K mg base k f fd ps sp) : FnGX P w K mg base k f fd ps (fun vs H Q _ => sp vs H Q E0) :=
  ⟨fun vs H Q _ h => F.len vs H Q E0 h, fun A outer s H args us vs Q E hg hr e0 hb rv h => codeAny_mono (F.run A outer s H args us vs Q hg hr e0 hb rv h) fun q s' hq => by
    cases q with
    | error e => exact hq.elim
    | ok fl =>
      cases fl with
      | ret u => exact hq
      | next => exact hq
      | brk => exact hq
      | cont => exact hq⟩
theorem fngx_of {x qual : Str} {st : Stmt} {N : List Str} (F : Fun K x qual st f fd) (S : FnScope N ps (defScope st)) (len : ∀ vs H Q E, sp vs H Q E → vs.length = ps.length)
    (hb : ∀ (cdv : Value) (A : Around) (outer : List Env) (s : Shared) (H : Hp) (vs : List V) (Q : VK) (E : XK), A.guards = some [] → Room k (A.deeper (envOfC qual (defScope st) s.heap.objs.size f cdv)) → sp vs H Q E →
      ∃ t, PSs (cxOf (L2.CX P w) P w K mg base N qual (defScope st) f cdv A outer s H E) (defBody st) t ∧ t { nx := fun _ H' => Q .non H', rt := Q } (start N vs) H) : FnGX P w K mg base (k + 1) f fd ps sp := by
  refine ⟨len, fun A outer s H args us vs Q E hgd hr e0 hbi rv hsp => ?_⟩
  obtain ⟨oc, od, kV, doc, pm, an, cdv, ct, osl, rfl, lk, hcd⟩ := F.ex
  have hl := len _ _ _ _ hsp
  have kin : K.In s.heap := e0.mod.kin.keeps fun b o e => (e0.bs b o e).1
  have lim : s.heap.NoLimit := e0.mod.nolimit.keeps fun b o e => (e0.bs b o e).1
  refine Att.call_fn kin lim lk hcd hr.depth hbi (List.all_eq_true.mpr fun ⟨y, u⟩ hy => ?_) (fun s1 x => ?_) S.co S.gen S.kind
  · rcases S.par y (List.of_mem_zip hy).1 with q | q <;> simp [q]
  · obtain ⟨t, ht, hq⟩ := hb cdv A outer s H vs Q E hgd (hr.deeper _) hsp
    have I := inv_start (CX := L2.CX P w) (P := P) (w := w) (E := E) S hr.hd e0 hl rv x
    refine wpAny_mono (ht.run [] s1 (start N vs) H _ I hq) (fun fl s' hs => ?_) fun e s' hs => hs
    have fin : ∀ {σ' : L2.St} {H' : Hp} {v : V} {u : Value}, Inv (cxOf (L2.CX P w) P w K mg base N qual (defScope st) f cdv A outer s H E) [] σ' H' s' → RelV v u → Q v H' → CE outer P w H s Q u s' :=
      fun J r q => ⟨_, _, J.os, J.bare, J.base, J.hok, r, q⟩
    cases fl with
    | ret u =>
      obtain ⟨v, σ', H', J, r, q⟩ := hs
      exact fin J r q
    | next =>
      obtain ⟨σ', H', J, q⟩ := hs
      exact fin (v := V.non) (u := Value.none) J rfl q
    | brk => obtain ⟨_, _, _, q⟩ := hs; exact q.elim
    | cont => obtain ⟨_, _, _, q⟩ := hs; exact q.elim
end
section
variable {X : Cx} {k : Nat} {f : Addr} {fd : FuncData} {ps : List Str} {sp : Sp}
theorem runx {pins : List (Addr × Obj)} {σ : L2.St} {H : Hp} {s : Shared} {Q : VK} {E : XK} {us : List Value} {vs : List V} (F : FnGX X.prog X.w X.K X.mg X.base k f fd ps sp) (hgd : X.A.guards = some []) (hr : Room k X.A) (hb : Binds X.K fd ps [])
    (hx : PassesAt (L2.CX X.prog X.w) X σ E) (I : Inv X pins σ H s) (r : Vals vs us) (h : sp vs H Q E) : wpAny (model X.prog X.w) X.A (call (.ref f) us) (EP X pins σ Q) X.xe s := by
  have hl : (us ++ []).length = ps.length := by rw [List.append_nil, ← r.length]; exact F.len _ _ _ _ h
  have hbi := hb s us I.kIn hl
  rw [List.append_nil] at hbi
  refine wpAny_call (codeAny_mono (F.run X.A X.stack s H ⟨us, []⟩ us vs Q E hgd hr I.env0 hbi r h) fun q s' hq => ?_)
  cases q with
  | error e => exact hx pins H s e s' I hq
  | ok fl =>
    cases fl with
    | ret u => exact I.after hq
    | next => exact hq.elim
    | brk => exact hq.elim
    | cont => exact hq.elim
theorem runx_make {pins : List (Addr × Obj)} {σ : L2.St} {H : Hp} {s : Shared} {Q : VK} {E : XK} {C : Addr} {us : List Value} {vs : List V} (M : Mk X.K C f) (F : FnGX X.prog X.w X.K X.mg X.base k f fd ps sp) (hgd : X.A.guards = some []) (hr : Room (k + 1) X.A) (hb : Binds X.K fd ps [])
    (hx : PassesAt (L2.CX X.prog X.w) X σ E) (I : Inv X pins σ H s) (r : Vals vs us)
    (h : ∀ x dx, H x = none → H dx = none → dx ≠ x → sp (.ref x :: vs) (upd (upd H dx (.own x)) x (.ins C dx [])) (fun v H2 => v = .non ∧ Q (.ref x) H2) E) :
    wpAny (model X.prog X.w) X.A (call (.ref C) us) (EP X pins σ Q) X.xe s := by
  have hq := h (s.heap.objs.size + 1) s.heap.objs.size (I.hok.fresh (Nat.le_succ _)) (I.hok.fresh (Nat.le_refl _)) (Nat.ne_of_lt (Nat.lt_succ_self _))
  have I2 := Inv.made (C := C) I
  have r2 : Vals (V.ref (s.heap.objs.size + 1) :: vs) (Value.ref (s.heap.objs.size + 1) :: us) := .cons rfl r
  have hl : (Value.ref (s.heap.objs.size + 1) :: us ++ []).length = ps.length := by
    have e := r2.length
    rw [F.len _ _ _ _ hq] at e
    rw [List.append_nil]
    exact e.symm
  have hbi := hb _ (Value.ref (s.heap.objs.size + 1) :: us) I2.kIn hl
  rw [List.append_nil] at hbi
  refine wpAny_call (make_map (f := f) I.kIn M.makes M.init (beq_iff_eq.mp M.fn) (codeAny_mono (F.run _ X.stack _ _ ⟨Value.ref (s.heap.objs.size + 1) :: us, []⟩ (Value.ref (s.heap.objs.size + 1) :: us) _ _ E hgd (hr.make C us [])
    (I2.env0.make C us []) hbi r2 hq) fun r s' hq' => ?_))
  cases r with
  | error e => exact hx pins _ _ e s' I2 hq'
  | ok fl =>
    cases fl with
    | ret u =>
      obtain ⟨v, H', I3, rv, ev, q3⟩ := I2.after hq'
      subst ev
      exact ⟨rv, ⟨V.ref (s.heap.objs.size + 1), H', I3, rfl, q3⟩⟩
    | next => exact False.elim hq'
    | brk => exact False.elim hq'
    | cont => exact False.elim hq'
end

/-! ### contracts with errors -/
structure Ex where
  C : Addr
  fs : List (Str × PyData)
def ExR (K : PySem.W.Frag) (F : Hp) (ex : Ex) (cls : Value) (d : Option Addr) : Prop := cls = .ref ex.C ∧ XoAt K F ⟨cls, d, ex.fs⟩
theorem ExR.mono {K : PySem.W.Frag} {F F' : Hp} {ex : Ex} {cls : Value} {d : Option Addr} (h : ExR K F ex cls d) (e : Same F F') : ExR K F' ex cls d := ⟨h.1, h.2.mono e⟩
abbrev DSpecX := List Dv → Wo → (PyData → Wo → Prop) → (Ex → Wo → Prop) → Prop
def spDX (K : PySem.W.Frag) (m : Nat) (c : DSpecX) : Sp := fun vs H Q Eh => ∃ δ F as n R E, as.length = m ∧ VRs K δ F H as vs ∧ Same F H ∧ δ.at_ K F H n ∧ (∀ a, a ∈ δ.own → F a = none ∧ H a ≠ none) ∧ c as n R E ∧
  (∀ d n' F' H' v, R d n' → Gr δ F H F' H' → Same F' H' → δ.at_ K F' H' n' → Rp K F' d v → Q v H') ∧
  ∀ ex n' F' H' cls d, E ex n' → Gr δ F H F' H' → Same F' H' → δ.at_ K F' H' n' → ExR K F' ex cls d → Eh cls d H'
/-- what is wished of an error, at the slots -/
abbrev DW := Ex → Rho → Wo → Prop
def WOk (Y : Fx) (K : PySem.W.Frag) (dw : DW) (W : WX) : Prop := ∀ ex ρ n F H σ cls d Z, dw ex ρ n → SR Y K Z F H σ ρ n → ExR K F ex cls d → W cls d σ H
def dwN : DW := fun _ _ _ => False
theorem wok0 {Y : Fx} {K : PySem.W.Frag} : WOk Y K dwN (fun _ _ _ _ => False) := fun _ _ _ _ _ _ _ _ _ h _ _ => h
def dFnX (m : Nat) (c : DSpecX) (dw : DW) (t : DTA) : DTE := fun ρ n R => t ρ n fun as n1 => as.length = m ∧ c as n1 (fun d n2 => R (.dat d) n2) fun ex n2 => dw ex ρ n2
section
variable {X : Cx} {Y : Fx}
theorem callX_im {m : Nat} {c : DSpecX} {dw : DW} {W : WX} {t : DTA} (ok : WOk Y X.K dw W) : ∀ σ H Q, up Y X.K (dFnX m c dw t) σ H Q → (upA Y X.K t) σ H fun vs H1 => spDX X.K m c vs H1 Q (L2.WE W σ) :=
  fun σ H Q ⟨Z, F, ρ, n, R, r, ht, k⟩ => ⟨Z, F, ρ, n, _, r, ht, fun as n1 F1 H1 vs ⟨hl, hx⟩ g1 s1 d1 w1 => by
    have r1 := r.step g1 s1 d1
    exact ⟨Z.δ, F1, as, n1, _, _, hl, w1, s1, d1, r1.b.dkF, hx, fun d n2 F2 H2 v h2 g2 s2 d2 w2 => k _ _ _ _ _ h2 (g1.trans g2) s2 d2 w2, fun ex n2 F2 H2 cls d h2 g2 s2 d2 w2 => ok _ _ _ _ _ _ _ _ _ h2 (r1.step g2 s2 d2) w2⟩⟩
theorem we_fnX {k m : Nat} {c : DSpecX} {dw : DW} {W : WX} {f : Addr} {fd : FuncData} {ps : List Str} {x : Str} {p pos : Pos} {e : Expr} {es : List Expr} {t : DTA} (tk : Takes X W) (ok : WOk Y X.K dw W) (F : FnGX X.prog X.w X.K X.mg X.base k f fd ps (spDX X.K m c)) (hgd : X.A.guards = some []) (hr : Room k X.A) (hg : Gl X x) (hm : X.mg x = some (.ref f)) (hk : PySem.W.keepIn X.K (.ref f) = true) (hb : Binds X.K fd ps [])
    (ha : WA Y X (e :: es) t) (hdb : (x == ("__debug__" : Str)) = false := by decide) (he : starEach (e :: es) X.env = (false, eval e X.env) :: starEach es X.env := by rfl) (hpl : (backTo pos (starEach es X.env)).any (·.1) = false := by rfl) :
    WE Y X (.Call (.Name x p) (e :: es) [] pos) (dFnX m c dw t) :=
  ⟨fun pins s σ H Q I h => wpAny_Call_Name_kw (ld_glob I hg hm (PySem.W.callWith_K (h₀ := X.base) I.ok.mod.kin hk (thn (ha.run pos pins s σ H _ I (callX_im ok σ H Q h)) fun us s1 ⟨vs, H1, I1, r, q⟩ => ⟨I1.kIn, runx F hgd hr hb (passAt tk σ) I1 r q⟩) he hpl) hdb)⟩
/-- .. of no arguments -/
theorem we_fnX0 {k : Nat} {c : DSpecX} {dw : DW} {W : WX} {f : Addr} {fd : FuncData} {x : Str} {p pos : Pos} (tk : Takes X W) (ok : WOk Y X.K dw W) (F : FnGX X.prog X.w X.K X.mg X.base k f fd [] (spDX X.K 0 c)) (hgd : X.A.guards = some []) (hr : Room k X.A) (hg : Gl X x) (hm : X.mg x = some (.ref f)) (hk : PySem.W.keepIn X.K (.ref f) = true) (hb : Binds X.K fd [] [])
    (hdb : (x == ("__debug__" : Str)) = false := by decide) : WE Y X (.Call (.Name x p) [] [] pos) (dFnX 0 c dw dNil) :=
  ⟨fun pins s σ H Q I h => wpAny_Call_Name_kw (ld_glob I hg hm (by
    obtain ⟨Z, F1, ρ, n, R, r, ⟨hl, hx⟩, k⟩ := h
    exact PySem.W.callWith_K0 I.kIn hk (runx (us := []) (vs := []) F hgd hr hb (passAt tk σ) I .nil ⟨Z.δ, F1, [], n, _, _, rfl, .nil, r.b.sub, r.b.dk, r.b.dkF, hx, fun d n2 F2 H2 v h2 g2 s2 d2 w2 => k _ _ _ _ _ h2 g2 s2 d2 w2, fun ex n2 F2 H2 cls d h2 g2 s2 d2 w2 => ok _ _ _ _ _ _ _ _ _ h2 (r.step g2 s2 d2) w2⟩)) hdb)⟩
end
/-- THE RULE for a def that may raise: its body over data -/
theorem fndX {P : Program} {w : World} {K : PySem.W.Frag} {mg : Str → Option Value} {base : Heap} {x qual : Str} {st : Stmt} {f : Addr} {fd : FuncData} {N ps : List Str} {k : Nat} (c : DSpecX) (F : Fun K x qual st f fd) (S : FnScope N ps (defScope st))
    (hb : ∀ (cdv : Value) (A : Around) (outer : List Env) (s : Shared) (H : Hp) (Eh : XK), A.guards = some [] → Room k (A.deeper (envOfC qual (defScope st) s.heap.objs.size f cdv)) → ∀ (Y : Fx) (E : Ex → Wo → Prop), WOk Y K (fun ex _ n => E ex n) (fun cls d _ H => Eh cls d H) →
      Takes (cxOf (L2.CX P w) P w K mg base N qual (defScope st) f cdv A outer s H Eh) (fun cls d _ H => Eh cls d H) →
      ∃ t, DSs Y (cxOf (L2.CX P w) P w K mg base N qual (defScope st) f cdv A outer s H Eh) (defBody st) t ∧ ∀ as n R, as.length = ps.length → c as n R E → t { nx := fun _ n' => R .none n', rt := R } (startR N as) n) : FnGX P w K mg base (k + 1) f fd ps (spDX K ps.length c) := by
  refine fngx_of F S (fun vs H Q E ⟨δ, Fz, as, n, R, E', hl, w1, _⟩ => by rw [← Paired.length w1]; exact hl) fun cdv A outer s H vs Q Eh hgd hr ⟨δ, Fz, as, n, R, E, hl, w1, s1, d1, o1, hc, hk, hx⟩ => ?_
  obtain ⟨t, h1, h2⟩ := hb cdv A outer s H Eh hgd hr ⟨Fz, H, δ⟩ E (fun ex ρ n' F' H' σ cls d Z he r hd => hx _ _ _ _ _ _ he r.gr r.b.sub (by have q := r.b.dk; rw [r.de] at q; exact q) hd) (takes_of rfl rfl rfl rfl)
  exact ⟨_, h1, ⟨Fz, H, δ⟩, Fz, startR N as, n, _, sr_start w1 s1 d1 o1, h2 as n R hl hc, ⟨fun F' H' σ' ρ' n' q r' => hk _ _ _ _ _ q (Base.gr o1 r'.b) r'.b.sub r'.b.dk (by simp [Rp]), fun d n' F' H' v q b q2 => hk _ _ _ _ _ q (Base.gr o1 b) b.sub b.dk q2, fun _ _ _ _ _ q _ => q.elim, fun _ _ _ _ _ q _ => q.elim⟩⟩
end DL
set_option maxHeartbeats 4000000
namespace DL
open PySem PySem.Spec PyProof.Rows L2
/-! ### fields, as data -/
def putD (f : Str) (d : PyData) : List (Str × PyData) → List (Str × PyData)
  | [] => [(f, d)]
  | (g, x) :: r => if g = f then (g, d) :: r else (g, x) :: putD f d r
section
variable {K : PySem.W.Frag} {F : Hp}
theorem FsR.lookup {f : Str} {d : PyData} : ∀ {fs : List (Str × PyData)} {vs : List (Str × V)}, FsR K F fs vs → fs.lookup f = some d → ∃ v, vs.lookup f = some v ∧ Rp K F d v
  | [], _, .nil, h => by cases h
  | (g, x) :: fs, _, .cons (b := (g', v)) (l₂ := vs) hr ht, h => by
    obtain ⟨e, hr⟩ := hr
    have e : g = g' := e
    subst e
    by_cases q : f = g
    · subst q
      have h2 : List.lookup f ((f, x) :: fs) = some x := by simp [List.lookup]
      rw [h2] at h
      cases h
      exact ⟨v, by simp [List.lookup], hr⟩
    · have q2 : (f == g) = false := by simpa using q
      have h2 : List.lookup f ((g, x) :: fs) = List.lookup f fs := by simp [List.lookup, q2]
      rw [h2] at h
      obtain ⟨w, e1, e2⟩ := FsR.lookup ht h
      exact ⟨w, by simp only [List.lookup, q2]; exact e1, e2⟩
theorem FsR.lookup_none {f : Str} : ∀ {fs : List (Str × PyData)} {vs : List (Str × V)}, FsR K F fs vs → fs.lookup f = none → vs.lookup f = none
  | [], _, .nil, h => rfl
  | (g, x) :: fs, _, .cons (b := (g', v)) (l₂ := vs) hr ht, h => by
    obtain ⟨e, hr⟩ := hr
    have e : g = g' := e
    subst e
    by_cases q : f = g
    · subst q
      have h2 : List.lookup f ((f, x) :: fs) = some x := by simp [List.lookup]
      rw [h2] at h
      cases h
    · have q2 : (f == g) = false := by simpa using q
      have h2 : List.lookup f ((g, x) :: fs) = List.lookup f fs := by simp [List.lookup, q2]
      rw [h2] at h
      simp only [List.lookup, q2]
      exact FsR.lookup_none ht h
theorem FsR.put {f : Str} {d : PyData} {v : V} (hd : Rp K F d v) : ∀ {fs : List (Str × PyData)} {vs : List (Str × V)}, FsR K F fs vs → FsR K F (putD f d fs) (putF f v vs)
  | [], _, .nil => .cons ⟨rfl, hd⟩ .nil
  | (g, x) :: fs, _, .cons (b := (g', u)) (l₂ := vs) hr ht => by
    obtain ⟨e, hr⟩ := hr
    have e : g = g' := e
    subst e
    unfold putD putF
    by_cases q : g = f
    · rw [if_pos q, if_pos q]; exact .cons ⟨rfl, hd⟩ ht
    · rw [if_neg q, if_neg q]; exact .cons ⟨rfl, hr⟩ (FsR.put hd ht)
theorem VR.ref {δ : DkS} {H : Hp} {a : Addr} {v : V} (h : VR K δ F H (.dat (refD a)) v) : v = .ref a := Rp.ref (K := K) (F := F) h
theorem vr_ref {δ : DkS} {H : Hp} {a : Addr} : VR K δ F H (.dat (refD a)) (.ref a) := rp_ref (K := K) (F := F)
theorem FsR.length {fs : List (Str × PyData)} {vs : List (Str × V)} (h : FsR K F fs vs) : fs.length = vs.length := Paired.length h
end
/-- a class whose instances are plain, and a field of it -/
structure FldC (K : PySem.W.Frag) (C : Addr) (f : Str) : Prop where
  c : Cls K C
  n : NoAttr K C f
section
variable {X : Cx} {Y : Fx}
/-- e.f -/
def dFld (K : PySem.W.Frag) (f : Str) (t : DTE) : DTE := fun ρ n R => t ρ n fun x n1 => ∃ a o d, x = .dat (refD a) ∧ n1.ob a = some o ∧ FldC K o.C f ∧ o.fs.lookup f = some d ∧ R (.dat d) n1
theorem we_fld {e : Expr} {f : Str} {t : DTE} {pos : Pos} (he : WE Y X e t) (hb : attributeBase e f X.env (eval e X.env) = eval e X.env := by rfl) : WE Y X (.Attribute e f pos) (dFld X.K f t) :=
  pe_imp (pe_fld he hb) fun σ H Q ⟨Z, F, ρ, n, R, r, ht, k⟩ => ⟨Z, F, ρ, n, _, r, ht, fun x n1 F1 H1 v ⟨a, o, d, ex, ho, hc, hl, hR⟩ g1 s1 d1 w1 => by
    subst ex
    obtain rfl := VR.ref w1
    obtain ⟨_, dx, vs, h2, h3⟩ := d1.2.1 a o ho
    obtain ⟨u, h4, h5⟩ := h3.lookup hl
    exact ⟨a, o.C, dx, vs, u, rfl, h2, hc.c, hc.n, h4, k _ _ _ _ _ hR g1 s1 d1 h5⟩⟩
/-- e.f, a constant of the class -/
def dCon (K : PySem.W.Frag) (f : Str) (t : DTE) : DTE := fun ρ n R => t ρ n fun x n1 => ∃ a o i u, x = .dat (refD a) ∧ n1.ob a = some o ∧ Cls K o.C ∧ Con K o.C f (.int i) u ∧ o.fs.lookup f = none ∧ R (.dat (.int i)) n1
theorem we_con {e : Expr} {f : Str} {t : DTE} {pos : Pos} (he : WE Y X e t) (hb : attributeBase e f X.env (eval e X.env) = eval e X.env := by rfl) : WE Y X (.Attribute e f pos) (dCon X.K f t) :=
  pe_imp (pe_con he hb) fun σ H Q ⟨Z, F, ρ, n, R, r, ht, k⟩ => ⟨Z, F, ρ, n, _, r, ht, fun x n1 F1 H1 v ⟨a, o, i, u, ex, ho, hc, hk, hl, hR⟩ g1 s1 d1 w1 => by
    subst ex
    obtain rfl := VR.ref w1
    obtain ⟨_, dx, vs, h2, h3⟩ := d1.2.1 a o ho
    exact ⟨a, o.C, dx, vs, .int i, u, rfl, h2, hc, hk, h3.lookup_none hl, k _ _ _ _ _ hR g1 s1 d1 (by simp [VR, Rp])⟩⟩
/-- an object is written -/
theorem at_put {K : PySem.W.Frag} {δ : DkS} {F H : Hp} {n : Wo} {a dx : Addr} {o : Ob} {C : Addr} {vs vs' : List (Str × V)} {fs' : List (Str × PyData)} (h : δ.at_ K F H n) (ho : n.ob a = some o) (hH : H a = some (.ins o.C dx vs)) (hr : FsR K F fs' vs') :
    δ.at_ K F (upd H a (.ins o.C dx vs')) (n.put a ⟨o.C, fs'⟩) :=
  ⟨δ.stay H _ n.n (fun b hb => upd_ne fun q => by
      obtain ⟨xs, e⟩ := δ.lsts H n.n h.1 b hb
      rw [q, hH] at e
      cases e) h.1,
    ⟨fun b ob e => by
      have e : (if b = a then some ⟨o.C, fs'⟩ else n.ob b) = some ob := e
      by_cases q : b = a
      · rw [if_pos q] at e
        cases e
        subst q
        exact ⟨(h.2.1 b o ho).1, dx, vs', upd_same, hr⟩
      · rw [if_neg q] at e
        obtain ⟨h1, dx', us, h2, h3⟩ := h.2.1 b ob e
        exact ⟨h1, dx', us, by rw [upd_ne q]; exact h2, h3⟩, h.2.2⟩⟩
theorem gr_put {δ : DkS} {F H : Hp} {a dx C : Addr} {vs vs' : List (Str × V)} (hH : H a = some (.ins C dx vs)) : Gr δ F H F (upd H a (.ins C dx vs')) where
  sF := Same.refl _
  nF := fun _ _ h => h
  kH := fun b o _ e hi => by
    rw [upd_ne fun q => by rw [q, hH] at e; cases e; cases hi]
    exact e
  iH := fun b C' dx' fs e => by
    by_cases q : b = a
    · subst q
      rw [hH] at e
      cases e
      exact ⟨vs', upd_same⟩
    · exact ⟨fs, by rw [upd_ne q]; exact e⟩
  dH := fun b h => by
    by_cases q : b = a
    · subst q; rw [upd_same]; nofun
    · rw [upd_ne q]; exact h
theorem same_put {F H : Hp} {a : Addr} {u : HO} (hs : Same F H) (hF : F a = none) : Same F (upd H a u) := fun b o e => by
  rw [upd_ne (ne_of_none e hF)]; exact hs _ _ e
/-- o.f = e -/
def dFldS (K : PySem.W.Frag) (f : Str) (to te : DTE) : DTS := fun E ρ n => te ρ n fun y n1 => needD y fun d => to ρ n1 fun x n2 => ∃ a o, x = .dat (refD a) ∧ n2.ob a = some o ∧ FldC K o.C f ∧ o.fs.length < 1000 ∧ E.nx ρ (n2.put a ⟨o.C, putD f d o.fs⟩)
theorem ds_fld {o e : Expr} {f : Str} {to te : DTE} {pos pos' : Pos} (ho : WE Y X o to) (he : WE Y X e te) (hs : swapsWith e (some (.Attribute o f pos')) pos.line X.env = pure false := by rfl) : DS Y X (.Assign [.Attribute o f pos'] e pos) (dFldS X.K f to te) :=
  ps_imp (ps_fld ho he hs) fun D σ H ⟨Z, F, ρ, n, E, r, ht, k⟩ => ⟨Z, F, ρ, n, _, r, ht, fun y n1 F1 H1 v hy g1 s1 d1 w1 => by
    obtain ⟨d, rfl, hy⟩ := needD_is hy
    have r1 := r.step g1 s1 d1
    refine ⟨Z, F1, ρ, n1, _, r1, hy, fun x n2 F2 H2 u ⟨a, o, ex, ho, hc, hl, hx⟩ g2 s2 d2 w2 => ?_⟩
    subst ex
    obtain rfl := VR.ref w2
    obtain ⟨hF, dx, vs, h2, h3⟩ := d2.2.1 a o ho
    have hd : Rp X.K F2 d v := Rp.mono g2.sF d v w1
    refine ⟨a, o.C, dx, vs, rfl, h2, hc.c, hc.n, by rw [← h3.length]; exact hl, ?_⟩
    have r2 := r1.step g2 s2 d2
    exact k.nx _ _ _ _ _ hx (r2.step (gr_put h2) (same_put s2 hF) (at_put (C := o.C) d2 ho h2 (h3.put hd)))⟩
/-- o.f += e, ints -/
def dFldA (K : PySem.W.Frag) (f : Str) (to te : DTE) : DTS := fun E ρ n => to ρ n fun x n1 => ∃ a o i, x = .dat (refD a) ∧ n1.ob a = some o ∧ FldC K o.C f ∧ o.fs.lookup f = some (.int i) ∧
  te ρ n1 fun y n2 => ∃ j o', y = .dat (.int j) ∧ n2.ob a = some o' ∧ o'.C = o.C ∧ o'.fs.length < 1000 ∧ E.nx ρ (n2.put a ⟨o'.C, putD f (.int (i + j)) o'.fs⟩)
theorem ds_fldA {o e : Expr} {f : Str} {to te : DTE} {pos tpos : Pos} (ho : WE Y X o to) (he : WE Y X e te) : DS Y X (.AugAssign (.Attribute o f tpos) .Add e pos) (dFldA X.K f to te) :=
  ps_imp (ps_fldaug ho he in_add) fun D σ H ⟨Z, F, ρ, n, E, r, ht, k⟩ => ⟨Z, F, ρ, n, _, r, ht, fun x n1 F1 H1 v ⟨a, o, i, ex, ho, hc, hl, hy⟩ g1 s1 d1 w1 => by
    subst ex
    obtain rfl := VR.ref w1
    obtain ⟨hF, dx, vs, h2, h3⟩ := d1.2.1 a o ho
    obtain ⟨u, h4, h5⟩ := h3.lookup hl
    simp only [Rp] at h5
    subst h5
    have r1 := r.step g1 s1 d1
    refine ⟨a, o.C, dx, vs, .int i, rfl, h2, hc.c, hc.n, h4, Z, F1, ρ, n1, _, r1, hy, fun y n2 F2 H2 w ⟨j, o', ey, ho', hC, hlt, hx⟩ g2 s2 d2 w2 => ?_⟩
    subst ey
    simp only [VR, Rp] at w2
    subst w2
    obtain ⟨hF2, dx2, vs2, h6, h7⟩ := d2.2.1 a o' ho'
    have r2 := r1.step g2 s2 d2
    refine ⟨i, j, rfl, rfl, dx2, vs2, by rw [h6, hC], by rw [← h7.length]; exact hlt, ?_⟩
    rw [← hC]
    exact k.nx _ _ _ _ _ hx (r2.step (gr_put h6) (same_put s2 hF2) (at_put (C := o'.C) d2 ho' h6 (h7.put (by simp [Rp]))))⟩
/-! ### new objects -/
theorem obN {K : PySem.W.Frag} {δ : DkS} {F H : Hp} {n : Wo} {x : Addr} (h : δ.at_ K F H n) (hx : H x = none) : n.ob x = none := by
  cases e : n.ob x with
  | none => rfl
  | some o =>
    obtain ⟨_, _, _, h2, _⟩ := h.2.1 x o e
    rw [hx] at h2; cases h2
theorem gr_mk {δ : DkS} {F H : Hp} {x dx : Addr} {u w : HO} (hx : H x = none) (hd : H dx = none) : Gr δ F H F (upd (upd H dx w) x u) :=
  (Gr.refl.chg hd).chg hx
theorem same_mk {F H : Hp} {x dx : Addr} {u w : HO} (hs : Same F H) (hx : H x = none) (hd : H dx = none) : Same F (upd (upd H dx w) x u) :=
  same_put (same_put hs (hs.free hd)) (hs.free hx)
theorem at_mk {K : PySem.W.Frag} {δ : DkS} {F H : Hp} {n : Wo} {x dx C : Addr} (hs : Same F H) (h : δ.at_ K F H n) (ho : ∀ a, a ∈ δ.own → F a = none ∧ H a ≠ none) (hx : H x = none) (hd : H dx = none) (hne : dx ≠ x) : δ.at_ K F (upd (upd H dx (.own x)) x (.ins C dx [])) (n.put x ⟨C, []⟩) := by
  have nd : dx ∉ δ.own := fun q => (ho dx q).2 hd
  have nx : x ∉ δ.own := fun q => (ho x q).2 hx
  have h1 := h.lay (u := .own x) nd hd
  have h2 := h1.lay (u := .ins C dx []) nx (by rw [upd_ne (Ne.symm hne)]; exact hx)
  refine ⟨h2.1, fun b ob e => ?_, h2.2.2⟩
  have e : (if b = x then some ⟨C, []⟩ else n.ob b) = some ob := e
  by_cases q : b = x
  · rw [if_pos q] at e
    cases e
    subst q
    exact ⟨hs.free hx, dx, [], upd_same, .nil⟩
  · rw [if_neg q] at e
    exact h2.2.1 b ob e
def dMake (C : Addr) (c : DSpecX) (dw : DW) (t : DTA) : DTE := fun ρ n R => t ρ n fun as n1 => ∀ x, n1.ob x = none → c (.dat (refD x) :: as) (n1.put x ⟨C, []⟩) (fun d n2 => d = .none ∧ R (.dat (refD x)) n2) fun ex n2 => dw ex ρ n2
theorem make_im {m : Nat} {C : Addr} {c : DSpecX} {dw : DW} {W : WX} {t : DTA} (ok : WOk Y X.K dw W) (hm : ∀ as n R E, c as n R E → as.length = m) : ∀ σ H Q, up Y X.K (dMake C c dw t) σ H Q → (upA Y X.K t) σ H fun vs H1 => ∀ x dx, H1 x = none → H1 dx = none → dx ≠ x →
    spDX X.K m c (.ref x :: vs) (upd (upd H1 dx (.own x)) x (.ins C dx [])) (fun v H2 => v = .non ∧ Q (.ref x) H2) (L2.WE W σ) :=
  fun σ H Q ⟨Z, F, ρ, n, R, r, ht, k⟩ => ⟨Z, F, ρ, n, _, r, ht, fun as n1 F1 H1 vs hx g1 s1 d1 w1 => fun x dx nx nd ne => by
    have r1 := r.step g1 s1 d1
    have gm : Gr Z.δ F1 H1 F1 (upd (upd H1 dx (.own x)) x (.ins C dx [])) := gr_mk nx nd
    have sm : Same F1 (upd (upd H1 dx (.own x)) x (.ins C dx [])) := same_mk s1 nx nd
    have dm := at_mk (C := C) s1 d1 r1.b.dkF nx nd ne
    have r2 := r1.step gm sm dm
    have hc := hx x (obN d1 nx)
    refine ⟨Z.δ, F1, _, _, _, _, hm _ _ _ _ hc, .cons vr_ref (Paired.mapP w1 fun a b h => h.step gm), sm, dm, r2.b.dkF, hc, fun d n2 F2 H2 v ⟨e, h2⟩ g2 s2 d2 w2 => ?_, fun ex n2 F2 H2 cls d h2 g2 s2 d2 w2 => ok _ _ _ _ _ _ _ _ _ h2 (r2.step g2 s2 d2) w2⟩
    subst e
    simp only [Rp] at w2
    exact ⟨w2, k _ _ _ _ _ h2 ((g1.trans gm).trans g2) s2 d2 vr_ref⟩⟩
theorem we_make {k : Nat} {C : Addr} {c : DSpecX} {dw : DW} {W : WX} {f : Addr} {fd : FuncData} {ps : List Str} {x : Str} {p pos : Pos} {e : Expr} {es : List Expr} {t : DTA} (tk : Takes X W) (ok : WOk Y X.K dw W) (M : Mk X.K C f) (F : FnGX X.prog X.w X.K X.mg X.base k f fd ps (spDX X.K ps.length c)) (hc : ∀ as n R E, c as n R E → as.length = ps.length) (hgd : X.A.guards = some []) (hr : Room (k + 1) X.A) (hg : Gl X x) (hm : X.mg x = some (.ref C)) (hb : Binds X.K fd ps [])
    (ha : WA Y X (e :: es) t) (hdb : (x == ("__debug__" : Str)) = false := by decide) (he : starEach (e :: es) X.env = (false, eval e X.env) :: starEach es X.env := by rfl) (hpl : (backTo pos (starEach es X.env)).any (·.1) = false := by rfl) :
    WE Y X (.Call (.Name x p) (e :: es) [] pos) (dMake C c dw t) :=
  ⟨fun pins s σ H Q I h => wpAny_Call_Name_kw (ld_glob I hg hm (PySem.W.callWith_K (h₀ := X.base) I.ok.mod.kin M.kp (thn (ha.run pos pins s σ H _ I (make_im (m := ps.length) ok hc σ H Q h)) fun us s1 ⟨vs, H1, I1, r, q⟩ => ⟨I1.kIn, runx_make M F hgd hr hb (passAt tk σ) I1 r q⟩) he hpl) hdb)⟩
/-! ### methods -/
/-- every class of PC has the method m, and it keeps c -/
def HasM (P : Program) (w : World) (K : PySem.W.Frag) (mg : Str → Option Value) (base : Heap) (PC : Addr → Prop) (m : Str) (k : Nat) (ps : List Str) (c : Addr → DSpecX) : Prop :=
  ∀ C, PC C → Cls K C ∧ ∃ g fd, Meth K C m g ∧ Binds K fd ps [] ∧ FnGX P w K mg base k g fd ps (spDX K ps.length (c C))
def dMeth (PC : Addr → Prop) (m : Str) (l : Nat) (c : Addr → DSpecX) (dw : DW) (to : DTE) (t : DTA) : DTE := fun ρ n R => to ρ n fun x n1 => ∃ a o, x = .dat (refD a) ∧ n1.ob a = some o ∧ PC o.C ∧ o.fs.lookup m = none ∧
  t ρ n1 fun as n2 => as.length + 1 = l ∧ c o.C (.dat (refD a) :: as) n2 (fun d n3 => R (.dat d) n3) fun ex n3 => dw ex ρ n3
theorem we_meth {pl : Sem Bool} {k : Nat} {PC : Addr → Prop} {m : Str} {ps : List Str} {c : Addr → DSpecX} {dw : DW} {W : WX} {o e : Expr} {es : List Expr} {to : DTE} {t : DTA} {apos pos : Pos} (tk : Takes X W) (ok : WOk Y X.K dw W) (HM : HasM X.prog X.w X.K X.mg X.base PC m k ps c) (hgd : X.A.guards = some []) (hr : Room k X.A)
    (ho : WE Y X o to) (ha : WA Y X (e :: es) t)
    (hst : starEach (e :: es) X.env = (false, eval e X.env) :: starEach es X.env := by rfl) (hpl : (backTo pos (starEach es X.env)).any (·.1) = false := by rfl)
    (ht : eval (.Call (.Attribute o m apos) (e :: es) [] pos) X.env = (do
      let ov ← eval o X.env
      standAt apos.atName
      let (f, first) ← holding [ov] (getMethod ov m pl)
      callWith pos f first (backTo pos (starEach (e :: es) X.env)) (backToKw pos (keywordEach [] X.env))) := by rfl) :
    WE Y X (.Call (.Attribute o m apos) (e :: es) [] pos) (dMeth PC m ps.length c dw to t) :=
  ⟨fun pins s σ H Q I ⟨Z, F, ρ, n, R, r, hto, kk⟩ => by
    refine PySem.W.methodCall_KW (pl := pl) (thn (ho.run pins s σ H (fun v H1 => ∃ x n1 F1, _ ∧ Gr Z.δ F H F1 H1 ∧ Same F1 H1 ∧ Z.δ.at_ X.K F1 H1 n1 ∧ VR X.K Z.δ F1 H1 x v) I ⟨Z, F, ρ, n, _, r, hto, fun x n1 F1 H1 v hx g1 s1 d1 w1 => ⟨x, n1, F1, hx, g1, s1, d1, w1⟩⟩) fun u s1 ⟨v, H1, I1, rx, x, n1, F1, ⟨a, ob, ex, hob, hPC, hl, hta⟩, g1, s1', d1, w1⟩ => ?_) ht
    subst ex
    obtain rfl := VR.ref w1
    obtain rfl : u = Value.ref a := rx
    obtain ⟨_, dx, vs, h2, h3⟩ := d1.2.1 a ob hob
    obtain ⟨hcl, g, fd, hM, hB, hF⟩ := HM _ hPC
    refine getmeth_ok I1 h2 hcl hM (h3.lookup_none hl) ?_
    have r1 := r.step g1 s1' d1
    refine PySem.W.callWith_K (first := [.ref a]) (h₀ := X.base) I.ok.mod.kin hM.kp (thn (ha.run pos pins s1 σ H1 (fun vs H2 => spDX X.K ps.length (c ob.C) (.ref a :: vs) H2 Q (L2.WE W σ)) I1 ⟨Z, F1, ρ, n1, _, r1, hta, fun as n2 F2 H2 vs2 ⟨hlen, hx⟩ g2 s2 d2 w2 => ?_⟩) fun us s2 ⟨vs, H2, I2, rr, q2⟩ => ⟨I2.kIn, runx (us := .ref a :: us) (vs := .ref a :: vs) hF hgd hr hB (passAt tk σ) I2 (.cons rfl rr) q2⟩) hst hpl
    have r2 := r1.step g2 s2 d2
    exact ⟨Z.δ, F2, .dat (refD a) :: as, n2, _, _, hlen, .cons vr_ref w2, s2, d2, r2.b.dkF, hx, fun d n3 F3 H3 v h4 g3 s3 d3 w3 => kk _ _ _ _ _ h4 ((g1.trans g2).trans g3) s3 d3 w3, fun ex n3 F3 H3 cls d h4 g3 s3 d3 w3 => ok _ _ _ _ _ _ _ _ _ h4 (r2.step g3 s3 d3) w3⟩⟩
theorem we_meth0 {pl : Sem Bool} {k : Nat} {PC : Addr → Prop} {m : Str} {ps : List Str} {c : Addr → DSpecX} {dw : DW} {W : WX} {o : Expr} {to : DTE} {apos pos : Pos} (tk : Takes X W) (ok : WOk Y X.K dw W) (HM : HasM X.prog X.w X.K X.mg X.base PC m k ps c) (hgd : X.A.guards = some []) (hr : Room k X.A)
    (ho : WE Y X o to)
    (ht : eval (.Call (.Attribute o m apos) [] [] pos) X.env = (do
      let ov ← eval o X.env
      standAt apos.atName
      let (f, first) ← holding [ov] (getMethod ov m pl)
      callWith pos f first (backTo pos (starEach [] X.env)) (backToKw pos (keywordEach [] X.env))) := by rfl) :
    WE Y X (.Call (.Attribute o m apos) [] [] pos) (dMeth PC m ps.length c dw to dNil) :=
  ⟨fun pins s σ H Q I ⟨Z, F, ρ, n, R, r, hto, kk⟩ => by
    refine PySem.W.methodCall_KW (pl := pl) (thn (ho.run pins s σ H (fun v H1 => ∃ x n1 F1, _ ∧ Gr Z.δ F H F1 H1 ∧ Same F1 H1 ∧ Z.δ.at_ X.K F1 H1 n1 ∧ VR X.K Z.δ F1 H1 x v) I ⟨Z, F, ρ, n, _, r, hto, fun x n1 F1 H1 v hx g1 s1 d1 w1 => ⟨x, n1, F1, hx, g1, s1, d1, w1⟩⟩) fun u s1 ⟨v, H1, I1, rx, x, n1, F1, ⟨a, ob, ex, hob, hPC, hl, hlen, hx⟩, g1, s1', d1, w1⟩ => ?_) ht
    subst ex
    obtain rfl := VR.ref w1
    obtain rfl : u = Value.ref a := rx
    obtain ⟨_, dx, vs, h2, h3⟩ := d1.2.1 a ob hob
    obtain ⟨hcl, g, fd, hM, hB, hF⟩ := HM _ hPC
    refine getmeth_ok I1 h2 hcl hM (h3.lookup_none hl) ?_
    have r1 := r.step g1 s1' d1
    exact PySem.W.callWith_K0 (first := [.ref a]) I1.kIn hM.kp (runx (us := [.ref a]) (vs := [.ref a]) hF hgd hr hB (passAt tk σ) I1 (.cons rfl .nil) ⟨Z.δ, F1, [.dat (refD a)], n1, _, _, hlen, .cons vr_ref .nil, s1', d1, r1.b.dkF, hx, fun d n3 F3 H3 v h4 g3 s3 d3 w3 => kk _ _ _ _ _ h4 (g1.trans g3) s3 d3 w3, fun ex n3 F3 H3 cls d h4 g3 s3 d3 w3 => ok _ _ _ _ _ _ _ _ _ h4 (r1.step g3 s3 d3) w3⟩)⟩
end
end DL
set_option maxHeartbeats 4000000
namespace DL
open PySem PySem.Spec PyProof.Rows L2
/-! ### errors, raised -/
/-- what the __init__ of an error class with one field keeps -/
def spEI (C : Addr) (f : Str) : Sp := fun vs H Q _ => ∃ a v, vs = [.ref a, v] ∧ H a = some (exo a C none) ∧ ∀ dx, H dx = none → dx ≠ a → Q .non (upd (upd H dx (exd dx [(f, v)])) a (exo a C (some dx)))
theorem heap_back {H : Hp} {a d : Addr} {o u w x : HO} (ha : H a = none) (hne : d ≠ a) : upd (del (upd (upd (upd H a o) d u) a w) a) d x = upd H d x := by
  funext b
  by_cases h1 : b = d
  · subst h1; rw [upd_same, upd_same]
  · rw [upd_ne h1, upd_ne h1]
    by_cases h2 : b = a
    · subst h2; rw [del_same, ha]
    · rw [del_ne h2, upd_ne h2, upd_ne h1, upd_ne h2]
/-- what an error class of one field must have -/
structure ErrC (P : Program) (w : World) (K : PySem.W.Frag) (mg : Str → Option Value) (base : Heap) (x : Str) (C : Addr) (f : Str) : Prop where
  g : mg x = some (.ref C)
  T : OexC K C
  i : ∃ fI fd ps, PySem.W.findIn K (.ref C) "__init__" = some (some (.ref fI)) ∧ PySem.W.typeIn K (.ref fI) = some (.type "function") ∧ FnOk P w K mg base CX0 1 fI fd ps (spEI C f) ∧ Binds K fd ps []
/-- .. of none -/
structure ErrC0 (K : PySem.W.Frag) (mg : Str → Option Value) (x : Str) (C : Addr) : Prop where
  g : mg x = some (.ref C)
  kC : PySem.W.keepIn K (.ref C) = true
  e : PySem.W.excIn K C [.type "ValueError", .type "Exception", .type "BaseException", .type "object"] "ValueError.__new__" = true
  bP : PySem.W.subIn K (.ref C) (.type "BaseException") = some true
  tP : PySem.W.typeIn K (.ref C) = some (.type "type")
section
variable {X : Cx} {Y : Fx} {dw : DW} {W : WX}
def dRaise (C : Addr) (f : Str) (dw : DW) (t : DTE) : DTS := fun _ ρ n => t ρ n fun x n1 => needD x fun d => dw ⟨C, [(f, d)]⟩ ρ n1
theorem ds_raise {C : Addr} {x f : Str} {e : Expr} {t : DTE} {p pos pos2 : Pos} (hc : X.calm = true) (tk : Takes X W) (ok : WOk Y X.K dw W) (T : ErrC X.prog X.w X.K X.mg X.base x C f) (hr : Room 2 X.A) (hg : Gl X x) (ha : WE Y X e t)
    (hdb : (x == ("__debug__" : Str)) = false := by decide) (he : starEach [e] X.env = (false, eval e X.env) :: starEach [] X.env := by rfl) (hpl : (backTo pos (starEach [] X.env)).any (·.1) = false := by rfl) :
    DS Y X (.Raise (some (.Call (.Name x p) [e] [] pos)) none pos2) (dRaise C f dw t) := by
  obtain ⟨fI, fd, ps, i1, i2, i3, i4⟩ := T.i
  refine ps_imp (ps_raise hc tk (pmk_oex (k := 1) (ds := []) (dvs := []) T.T i1 i2 i3 hr i4 .nil pass0 hg T.g (pa_cons ha pa_nil he) hdb he hpl)) fun D σ H ⟨Z, F, ρ, n, E, r, ht, k⟩ => ?_
  refine ⟨Z, F, ρ, n, _, r, ht, fun y n1 F1 H1 v hy g1 s1 d1 w1 => ?_⟩
  obtain ⟨d, rfl, hy⟩ := needD_is hy
  refine ⟨(by decide : 1 ≤ 1000), fun a ha => ⟨a, v, rfl, upd_same, fun dx h1 h2 => ?_⟩⟩
  have hd1 : H1 dx = none := by rw [upd_ne h2] at h1; exact h1
  refine ⟨rfl, dx, [(f, v)], upd_same, by rw [upd_ne h2]; exact upd_same, hd1, ?_⟩
  rw [heap_back ha h2]
  have r1 := r.step g1 s1 d1
  obtain ⟨g2, s2⟩ := Gp.new (o := .xd [(f, v)]) hd1 s1
  exact ok _ _ _ _ _ _ _ _ _ hy (r1.step g2.gr s2 (g2.dk r1.b)) ⟨rfl, .inr ⟨dx, _, rfl, upd_same, .cons ⟨rfl, Rp.mono g2.sF d v w1⟩ .nil⟩⟩
def dRaise0 (C : Addr) (dw : DW) : DTS := fun _ ρ n => dw ⟨C, []⟩ ρ n
theorem pmk_err0 {C : Addr} {x : Str} {p pos : Pos} (T : ErrC0 X.K X.mg x C) (hg : Gl X x) (hdb : (x == ("__debug__" : Str)) = false := by decide) : PMk X (.Call (.Name x p) [] [] pos) (fun _ H Q => Q (.ref C) none H) := by
  intro pins s σ H Q I h
  refine wpAny_Call_Name_kw (ld_glob I hg T.g ?_ hdb)
  refine PySem.W.callWith_K0 I.kIn T.kC ?_
  obtain ⟨bm, N, nm, qn, bs, hdct, sn, sub, ab, col, dd, k0, k1, k2, k3, k5, mN, hC, hN, hni, Tl⟩ := exc_obj I.kIn T.e
  refine wpAny_call_exc_subT F.excBase_ValueError Tl hC hN hni (fun h' e hm => ?_) (Nat.zero_le _)
  exact mk_of I hm (raises_own T.bP T.tP) h (I.hok.gone hm.new)
theorem ds_raise0 {C : Addr} {x : Str} {p pos pos2 : Pos} (hc : X.calm = true) (tk : Takes X W) (ok : WOk Y X.K dw W) (T : ErrC0 X.K X.mg x C) (hg : Gl X x) (hdb : (x == ("__debug__" : Str)) = false := by decide) : DS Y X (.Raise (some (.Call (.Name x p) [] [] pos)) none pos2) (dRaise0 C dw) :=
  ps_imp (ps_raise hc tk (pmk_err0 T hg hdb)) fun D σ H ⟨Z, F, ρ, n, E, r, ht, k⟩ => ok _ _ _ _ _ _ _ _ _ ht r ⟨rfl, .inl ⟨rfl, rfl⟩⟩
/-! ### try: body / except C as e: suite -/
/-- an error is caught -/
def caught (a : Addr) (ex : Ex) (d : Option Addr) (n : Wo) : Wo := n.putX a ⟨.ref ex.C, d, ex.fs⟩
theorem at_caught {K : PySem.W.Frag} {δ : DkS} {F H : Hp} {n : Wo} {a : Addr} {ex : Ex} {d : Option Addr} (h : δ.at_ K F H n) (hx : XoAt K F ⟨.ref ex.C, d, ex.fs⟩) : δ.at_ K F H (caught a ex d n) :=
  ⟨h.1, h.2.1, fun b x e => by
    have e : (if b = a then some ⟨.ref ex.C, d, ex.fs⟩ else n.xs b) = some x := e
    by_cases q : b = a
    · rw [if_pos q] at e; cases e; exact hx
    · rw [if_neg q] at e; exact h.2.2 b x e⟩
/-- the ends of a suite, where slot i is emptied -/
def endsX (i : Nat) (E : DEnds) : DEnds := { nx := fun ρ n => E.nx (ρ.set i none) n, rt := E.rt, bk := fun ρ n => E.bk (ρ.set i none) n, ct := fun ρ n => E.ct (ρ.set i none) n }
def dwAs (K : PySem.W.Frag) (c : Value) (i : Nat) (ts : Addr → Value → Option Addr → DTS) (dwo : DW) (E : DEnds) : DW := fun ex ρ n =>
  ∃ b, PySem.W.exmOne K (.ref ex.C) c = some b ∧ (b = true → ∀ a d, ts a (.ref ex.C) d (endsX i E) (ρ.set i (some (.dat (refD a)))) (caught a ex d n)) ∧ (b = false → dwo ex ρ n)
def dTryAs (K : PySem.W.Frag) (c : Value) (i : Nat) (tb : DW → DTS) (ts : Addr → Value → Option Addr → DTS) (dwo : DW) : DTS := fun E ρ n => tb (dwAs K c i ts dwo E) E ρ n
theorem SR.clear {K : PySem.W.Frag} {Z : Fx} {F H : Hp} {σ : L2.St} {ρ : Rho} {n : Wo} (r : SR Y K Z F H σ ρ n) (i : Nat) : SR Y K Z F H (σ.set i none) (ρ.set i none) n where
  b := r.b
  de := r.de
  he := r.he
  gr := r.gr
  len := by simp [r.len]
  slot := fun j x e => by
    by_cases q : i = j
    · subst q
      by_cases hl : i < ρ.length
      · rw [List.getElem?_set_self hl] at e; cases e
      · rw [List.getElem?_eq_none (by rw [List.length_set]; omega)] at e; cases e
    · rw [List.getElem?_set_ne q] at e
      obtain ⟨v, e1, e2⟩ := r.slot j x e
      exact ⟨v, by rw [List.getElem?_set_ne q]; exact e1, e2⟩
  apart := fun j k a ds y hjk e1 e2 e3 hy e4 => by
    have nz : ∀ {m : Nat} {z : Dv}, (ρ.set i none)[m]? = some (some z) → i ≠ m ∧ ρ[m]? = some (some z) := fun {m z} e => by
      by_cases q : i = m
      · subst q
        by_cases hl : i < ρ.length
        · rw [List.getElem?_set_self hl] at e; cases e
        · rw [List.getElem?_eq_none (by rw [List.length_set]; omega)] at e; cases e
      · rw [List.getElem?_set_ne q] at e; exact ⟨q, e⟩
    obtain ⟨n1, e1⟩ := nz e1
    obtain ⟨n3, e3⟩ := nz e3
    rw [List.getElem?_set_ne n1] at e2
    rw [List.getElem?_set_ne n3] at e4
    exact r.apart j k a ds y hjk e1 e2 e3 hy e4
theorem ends_x {K : PySem.W.Frag} {Z : Fx} {E : DEnds} {D : Ends} {i : Nat} (k : EndsOk Y K Z E D) : EndsOk Y K Z (endsX i E) { nx := fun σ' H' => D.nx (σ'.set i none) H', rt := D.rt, bk := fun σ' H' => D.bk (σ'.set i none) H', ct := fun σ' H' => D.ct (σ'.set i none) H' } :=
  ⟨fun F H σ ρ n h r => k.nx _ _ _ _ _ h (r.clear i), k.rt, fun F H σ ρ n h r => k.bk _ _ _ _ _ h (r.clear i), fun F H σ ρ n h r => k.ct _ _ _ _ _ h (r.clear i)⟩
/-- a def's entry, moved to where F stands -/
def Fx.at_ (Y : Fx) (F : Hp) : Fx := ⟨F, Y.H0, Y.δ⟩
theorem SlotV.re {K : PySem.W.Frag} {Z Z' : Fx} {F H : Hp} {x : Dv} {v : V} (h0 : Z.H0 = Z'.H0) (hd : Z.δ = Z'.δ) (h : SlotV K Z F H x v) : SlotV K Z' F H x v := by
  cases x with
  | mt ds =>
    obtain ⟨a, vs, e, h1, h2, h3, h4, h5⟩ := h
    exact ⟨a, vs, e, by rw [← h0]; exact h1, h2, h3, h4, by rw [← hd]; exact h5⟩
  | md a ks =>
    obtain ⟨e, h1, h2, h3, h4⟩ := h
    exact ⟨e, by rw [← h0]; exact h1, h2, h3, by rw [← hd]; exact h4⟩
  | dat d => exact h
  | vw ds =>
    obtain ⟨a, vs, e, h1, h2, h3⟩ := h
    exact ⟨a, vs, e, h1, h2, by rw [← hd]; exact h3⟩
  | deck k =>
    obtain ⟨a, e, h1⟩ := h
    exact ⟨a, e, by rw [← hd]; exact h1⟩
theorem SR.enter {K : PySem.W.Frag} {Z : Fx} {F H : Hp} {σ : L2.St} {ρ : Rho} {n : Wo} (r : SR Y K Z F H σ ρ n) : SR (Y.at_ F) K (Y.at_ F) F H σ ρ n where
  b := by
    have hd := r.de
    have h0 := r.he
    refine ⟨r.b.sub, ?_, ?_, Same.refl _, fun _ _ h => h, r.gr.kH, r.gr.iH⟩
    · show Y.δ.at_ K F H n
      rw [← hd]; exact r.b.dk
    · intro a ha
      exact r.b.dkF a (by rw [hd]; exact ha)
  de := rfl
  he := rfl
  gr := ⟨Same.refl _, fun _ _ h => h, r.gr.kH, r.gr.iH, r.gr.dH⟩
  len := r.len
  slot := fun i x e => by
    obtain ⟨v, e1, e2⟩ := r.slot i x e
    exact ⟨v, e1, e2.re r.he r.de⟩
  apart := r.apart
theorem Base.exit {K : PySem.W.Frag} {Z Z1 : Fx} {F H F2 H2 : Hp} {σ : L2.St} {ρ : Rho} {n n2 : Wo} (r : SR Y K Z F H σ ρ n) (hd : Z1.δ = Y.δ) (h0 : Z1.H0 = Y.H0) (g : Gr Y.δ F Y.H0 F2 H2) (b : Base K Z1 F2 H2 n2) : Base K Z F2 H2 n2 :=
  ⟨b.sub, by rw [r.de, ← hd]; exact b.dk, fun a ha => b.dkF a (by rw [hd, ← r.de]; exact ha), r.b.gF.trans g.sF, fun a h1 h2 => g.nF a (by rw [← r.he]; exact h1) (r.b.gN a h1 h2), fun a o na e hi => g.kH a o (by rw [← r.de]; exact na) (by rw [← r.he]; exact e) hi, fun a C dx fs e => g.iH a C dx fs (by rw [← r.he]; exact e)⟩
theorem SR.exit {K : PySem.W.Frag} {Z Z1 : Fx} {F H F2 H2 : Hp} {σ σ2 : L2.St} {ρ ρ2 : Rho} {n n2 : Wo} (r : SR Y K Z F H σ ρ n) (q : SR (Y.at_ F) K Z1 F2 H2 σ2 ρ2 n2) : SR Y K Z F2 H2 σ2 ρ2 n2 where
  b := Base.exit r q.de q.he q.gr q.b
  de := r.de
  he := r.he
  gr := ⟨r.gr.sF.trans q.gr.sF, fun a h1 h2 => q.gr.nF a h1 (r.gr.nF a h1 h2), q.gr.kH, q.gr.iH, q.gr.dH⟩
  len := q.len
  slot := fun i x e => by
    obtain ⟨v, e1, e2⟩ := q.slot i x e
    exact ⟨v, e1, e2.re (q.he.trans r.he.symm) (q.de.trans r.de.symm)⟩
  apart := q.apart
theorem ends_in {K : PySem.W.Frag} {Z : Fx} {F H : Hp} {σ : L2.St} {ρ : Rho} {n : Wo} {E : DEnds} {D : Ends} (r : SR Y K Z F H σ ρ n) (k : EndsOk Y K Z E D) : EndsOk (Y.at_ F) K (Y.at_ F) E D :=
  ⟨fun _ _ _ _ _ h q => k.nx _ _ _ _ _ h (r.exit q), fun d n2 F2 H2 v h b q => k.rt _ _ _ _ _ h (Base.exit (Z1 := Y.at_ F) r rfl rfl ⟨b.gF, b.gN, b.gH, b.gI, fun a h => b.gD a h⟩ b) q, fun _ _ _ _ _ h q => k.bk _ _ _ _ _ h (r.exit q), fun _ _ _ _ _ h q => k.ct _ _ _ _ _ h (r.exit q)⟩
theorem pss_ex {α : Sort _} {st : List Stmt} {Q : α → Prop} {t : α → TS} (h : ∀ a, Q a → PSs X st (t a)) : PSs X st (fun D σ H => ∃ a, Q a ∧ t a D σ H) := ⟨fun p s σ H D I ⟨a, q, w⟩ => (h a q).run p s σ H D I w⟩
theorem ds_try_as {x n : Str} {c : Value} {i : Nat} {body suite : List Stmt} {b₀ : Stmt} {np pos pos' : Pos} {tb : DW → DTS} {ts : Addr → Value → Option Addr → DTS} (tk : Takes X W) (ok : WOk Y X.K dw W)
    (hs : X.stack = X.env :: X.outer) (hf : X.env.frame = some X.env.locals) (hN : X.N.Nodup) (hi : X.N[i]? = some n) (hln : X.env.kindOf n = some .local) (hc : Names X x c)
    (hb : ∀ (Y1 : Fx) (W1 : WX) (pn : List (Addr × Obj)) (xe : Value → Shared → Prop) (dw1 : DW), Takes (X.tr pn xe) W1 → WOk Y1 X.K dw1 W1 → DSs Y1 (X.tr pn xe) body (tb dw1))
    (hsu : ∀ (a : Addr) (oe : Obj) (cls : Value) (d : Option Addr) (pn : List (Addr × Obj)), Zc cls d oe → (∃ vs, oe.data = .fields vs) → DSs Y (X.suite a ((a, oe) :: pn)) (b₀ :: suite) (ts a cls d)) :
    DS Y X (.Try body [.ExceptHandler (some (.Name x np)) (some n) (b₀ :: suite) pos'] [] [] pos) (dTryAs X.K c i tb ts dw) :=
  ps_imp (ps_try_as (i := i) (tb := fun W1 D σ H => ∃ q : Fx × DW, WOk q.1 X.K q.2 W1 ∧ upS q.1 X.K (tb q.2) D σ H) (ts := fun a cls d => upS Y X.K (ts a cls d)) (Wout := W) hs hf hN hi hln hc tk
    (fun W1 pn xe tk1 _ => pss_ex (Q := fun q : Fx × DW => WOk q.1 X.K q.2 W1) fun q ok1 => hb q.1 W1 pn xe q.2 tk1 ok1) (fun a oe cls d pn hz hf2 => hsu a oe cls d pn hz hf2)) fun D σ H ⟨Z, F, ρ, n, E, r, ht, k⟩ => by
    refine ⟨⟨Y.at_ F, dwAs X.K c i ts dw E⟩, fun ex ρ1 n1 F1 H1 σ1 cls d Z1 h1 q1 hx1 => ?_, Y.at_ F, F, ρ, n, E, r.enter, ht, ends_in r k⟩
    obtain ⟨b, hb1, hyes, hno⟩ := h1
    obtain ⟨hcls, hxo⟩ := hx1
    subst hcls
    have r1 := r.exit q1
    refine ⟨b, hb1, fun hbt a na => ?_, fun hbf => ok _ _ _ _ _ _ _ _ _ (hno hbf) r1 ⟨rfl, hxo⟩⟩
    have r2 : SR Y X.K Z F1 H1 σ1 ρ1 (caught a ex d n1) := r1.step Gr.refl r1.b.sub (at_caught r1.b.dk hxo)
    exact ⟨Z, F1, _, _, _, r2.setD i (rp_ref (a := a)), hyes hbt a d, ends_x k⟩
end
end DL
set_option maxHeartbeats 4000000
namespace DL
open PySem PySem.Spec PyProof.Rows L2
/-! ### classes as arguments of isinstance -/
/-- the classes' expressions, evaluated -/
def tK (vs : List V) : TA := fun _ H Q => Q vs H
theorem pa_k0 {X : Cx} : PA X [] (tK []) := pa_nil
theorem pa_k {X : Cx} {e : Expr} {es : List Expr} {v : V} {vs : List V} (h : PE X e (tC v)) (r : PA X es (tK vs)) (hs : starEach (e :: es) X.env = (false, eval e X.env) :: starEach es X.env := by rfl) : PA X (e :: es) (tK (v :: vs)) :=
  pa_imp (pa_cons h r hs) fun σ H Q h => h
/-- what the text says of an error class, for isinstance -/
structure IsC (K : PySem.W.Frag) (C : Addr) : Prop where
  cl : (PySem.W.clsIn K C).isSome = true
  ga : PySem.W.findIn K (.ref C) "__getattribute__" = some (some (.builtin "BaseException.__getattribute__"))
  gt : PySem.W.findIn K (.ref C) "__getattr__" = some none
  su : PySem.W.subIn K (.ref C) (.type "BaseException") = some true
  ca : PySem.W.findIn K (.ref C) "__class__" = some (some (.builtin "object.__class__"))
  cg : PySem.W.specialIn K (.builtin "object.__class__") "__get__" = some (some (.builtin "getset_descriptor.__get__"))
  ct : PySem.W.takesIn K (.builtin "object.__class__") = some true
  mo : PySem.W.mroIn K C (.type "object") = some true
/-- .. of a plain class -/
structure InsC (K : PySem.W.Frag) (C : Addr) : Prop where
  c : Cls K C
  ca : PySem.W.findIn K (.ref C) "__class__" = some (some (.builtin "object.__class__"))
  cg : PySem.W.specialIn K (.builtin "object.__class__") "__get__" = some (some (.builtin "getset_descriptor.__get__"))
  ct : PySem.W.takesIn K (.builtin "object.__class__") = some true
  mo : PySem.W.mroIn K C (.type "object") = some true
section
variable {X : Cx} {Y : Fx}
/-- the caught error stands -/
theorem inst_x {pins pn : List (Addr × Obj)} {σ : L2.St} {H : Hp} {s : Shared} {a C : Addr} {oe : Obj} {d : Option Addr} (I : Inv (X.suite a ((a, oe) :: pn)) pins σ H s) (hz : Zc (.ref C) d oe) (hf : ∃ vs, oe.data = .fields vs) (hd : d = none ∨ ∃ dd fs, d = some dd ∧ H dd = some (.xd fs)) :
    ∃ od, PySem.W.InstAt s.heap a oe C od := by
  obtain ⟨hget, _⟩ := I.pin (a, oe) (List.mem_append.mpr (.inl List.mem_cons_self))
  obtain ⟨vs, hv⟩ := hf
  rcases hd with rfl | ⟨dd, fs, rfl, hdd⟩
  · refine ⟨none, hget, hz.1, by unfold PySem.W.notCls; rw [hv] <;> rfl, ?_⟩
    rw [hz.2]
    trivial
  · have hx : ObjOk X.prog X.w H s.heap dd (.xd fs) := I.hok dd _ hdd
    obtain ⟨mA, hns, hr⟩ := hx
    obtain ⟨od, ho, hl⟩ := lookIn_ns hns
    exact ⟨some od, hget, hz.1, by unfold PySem.W.notCls; rw [hv] <;> rfl, by rw [hz.2]; exact ho⟩
def rIsX (K : PySem.W.Frag) (a : Addr) (cls : Value) (d : Option Addr) : List V → Hp → VK → Prop := fun xs H Q => ∃ (c : V) (cv : Value) (C : Addr) (b : Bool), xs = [.ref a, c] ∧ cls = .ref C ∧ (d = none ∨ ∃ dd fs, d = some dd ∧ H dd = some (.xd fs)) ∧ IsC K C ∧ ClsV c cv ∧ PySem.W.kitOne K (.ref C) cv = some b ∧ Q (.bl b) H
theorem call_isX {a : Addr} {oe : Obj} {cls : Value} {d : Option Addr} {pn : List (Addr × Obj)} (hz : Zc cls d oe) (hf : ∃ vs, oe.data = .fields vs) : CallR (X.suite a ((a, oe) :: pn)) (.builtin "isinstance") (rIsX X.K a cls d) := by
  intro pins s σ H xs us Q I r h
  obtain ⟨c, cv, C, b, rfl, rfl, hd, T, hc, e, q⟩ := h
  cases r with
  | cons rx rr =>
    cases rr with
    | cons rt rr =>
      cases rr
      cases rx
      have ec := hc.eq rt
      subst ec
      obtain ⟨od, J⟩ := inst_x I hz hf hd
      exact PySem.W.kia_one (PySem.W.kitx_exc T.cl T.ga T.gt T.su T.ca T.cg T.ct T.mo) I.kIn J e (fun z => nomatch z) fun tk => ⟨.bl b, H, I.tok tk, rfl, q⟩
def rIsXT (K : PySem.W.Frag) (a : Addr) (cls : Value) (d : Option Addr) : List V → Hp → VK → Prop := fun xs H Q => ∃ (tp : Addr) (cs : List V) (us : List Value) (C : Addr) (b : Bool), xs = [.ref a, .ref tp] ∧ H tp = some (.tup cs) ∧ cls = .ref C ∧ (d = none ∨ ∃ dd fs, d = some dd ∧ H dd = some (.xd fs)) ∧ IsC K C ∧ Paired ClsV cs us ∧ PySem.W.kitAny K (.ref C) us = some b ∧ Q (.bl b) H
theorem call_isXT {a : Addr} {oe : Obj} {cls : Value} {d : Option Addr} {pn : List (Addr × Obj)} (hz : Zc cls d oe) (hf : ∃ vs, oe.data = .fields vs) : CallR (X.suite a ((a, oe) :: pn)) (.builtin "isinstance") (rIsXT X.K a cls d) := by
  intro pins s σ H xs us Q I r h
  obtain ⟨tp, cs, ts, C, b, rfl, htp, rfl, hd, T, hc, e, q⟩ := h
  cases r with
  | cons rx rr =>
    cases rr with
    | cons rt rr =>
      cases rr
      cases rx
      cases rt
      obtain ⟨od, J⟩ := inst_x I hz hf hd
      obtain ⟨its, rv, ⟨o, hg, hcl, n, hdt⟩, _⟩ := I.tuple (SqT.of htp)
      have ei := ClsV.all hc rv
      subst ei
      obtain ⟨oc, odd, oda, osl⟩ := o
      dsimp only at hcl hdt
      subst hcl hdt
      exact PySem.W.kia_tup (PySem.W.kitx_exc T.cl T.ga T.gt T.su T.ca T.cg T.ct T.mo) I.kIn J hg e (fun z => nomatch z) fun tk => ⟨.bl b, H, I.tok tk, rfl, q⟩
theorem xo_d {K : PySem.W.Frag} {F H : Hp} {x : Xo} (h : XoAt K F x) (hs : Same F H) : x.d = none ∨ ∃ dd fs, x.d = some dd ∧ H dd = some (.xd fs) := by
  rcases h with h | ⟨dd, vs, h1, h2, _⟩
  · exact .inl h.1
  · exact .inr ⟨dd, vs, h1, hs _ _ h2⟩
/-- isinstance(e, C), e the caught error -/
def dIsX (K : PySem.W.Frag) (a : Addr) (cls : Value) (d : Option Addr) (cv : Value) (t : DTE) : DTE := fun ρ n R => t ρ n fun x n1 => x = .dat (refD a) ∧ ∃ C fs b, cls = .ref C ∧ n1.xs a = some ⟨cls, d, fs⟩ ∧ IsC K C ∧ PySem.W.kitOne K (.ref C) cv = some b ∧ R (.dat (.bool b)) n1
theorem we_isX {a : Addr} {oe : Obj} {cls : Value} {d : Option Addr} {pn : List (Addr × Obj)} {c : V} {cv : Value} {e ec : Expr} {t : DTE} {p pos : Pos} (hz : Zc cls d oe) (hf : ∃ vs, oe.data = .fields vs) (hg : Gl X "isinstance") (hm : X.mg "isinstance" = none) (he : WE Y (X.suite a ((a, oe) :: pn)) e t) (hec : PE (X.suite a ((a, oe) :: pn)) ec (tC c)) (hcv : ClsV c cv)
    (h1 : starEach [e, ec] X.env = (false, eval e X.env) :: starEach [ec] X.env := by rfl) (h2 : starEach [ec] X.env = (false, eval ec X.env) :: starEach [] X.env := by rfl) (hpl : (backTo pos (starEach [ec] X.env)).any (·.1) = false := by rfl) :
    WE Y (X.suite a ((a, oe) :: pn)) (.Call (.Name "isinstance" p) [e, ec] [] pos) (dIsX X.K a cls d cv t) :=
  pe_imp (pe_callB (call_isX hz hf) hg hm PyProof.Rows.boot_isinstance (pa_cons he (pa_cons hec pa_nil h2) h1) (by decide) (by decide) h1 hpl) fun σ H Q ⟨Z, F, ρ, n, R, r, ht, k⟩ =>
    ⟨Z, F, ρ, n, _, r, ht, fun x n1 F1 H1 v ⟨ex, C, fs, b, hcls, hxs, hT, hk, hR⟩ g1 s1 d1 w1 => by
      subst ex
      obtain rfl := VR.ref w1
      exact ⟨c, cv, C, b, rfl, hcls, xo_d (d1.2.2 _ _ hxs) s1, hT, hcv, hk, k _ _ _ _ _ hR g1 s1 d1 (by simp [VR, Rp])⟩⟩
/-- isinstance(e, (C, ..)) -/
def dIsXT (K : PySem.W.Frag) (a : Addr) (cls : Value) (d : Option Addr) (us : List Value) (t : DTE) : DTE := fun ρ n R => t ρ n fun x n1 => x = .dat (refD a) ∧ ∃ C fs b, cls = .ref C ∧ n1.xs a = some ⟨cls, d, fs⟩ ∧ IsC K C ∧ PySem.W.kitAny K (.ref C) us = some b ∧ R (.dat (.bool b)) n1
theorem we_isXT {a : Addr} {oe : Obj} {cls : Value} {d : Option Addr} {pn : List (Addr × Obj)} {cs : List V} {us : List Value} {e : Expr} {es : List Expr} {t : DTE} {p pos p2 : Pos} {x1} (hz : Zc cls d oe) (hf : ∃ vs, oe.data = .fields vs) (hg : Gl X "isinstance") (hm : X.mg "isinstance" = none) (he : WE Y (X.suite a ((a, oe) :: pn)) e t) (hes : PA (X.suite a ((a, oe) :: pn)) es (tK cs)) (hcv : Paired ClsV cs us) (hl : cs.length ≤ sizeLine)
    (h1 : starEach [e, .Tuple es x1 p2] X.env = (false, eval e X.env) :: starEach [.Tuple es x1 p2] X.env := by rfl) (h2 : starEach [.Tuple es x1 p2] X.env = (false, eval (.Tuple es x1 p2) X.env) :: starEach [] X.env := by rfl) (hpl : (backTo pos (starEach [.Tuple es x1 p2] X.env)).any (·.1) = false := by rfl) :
    WE Y (X.suite a ((a, oe) :: pn)) (.Call (.Name "isinstance" p) [e, .Tuple es x1 p2] [] pos) (dIsXT X.K a cls d us t) :=
  pe_imp (pe_callB (call_isXT hz hf) hg hm PyProof.Rows.boot_isinstance (pa_cons he (pa_cons (pe_tup hes) pa_nil h2) h1) (by decide) (by decide) h1 hpl) fun σ H Q ⟨Z, F, ρ, n, R, r, ht, k⟩ =>
    ⟨Z, F, ρ, n, _, r, ht, fun x n1 F1 H1 v ⟨ex, C, fs, b, hcls, hxs, hT, hk, hR⟩ g1 s1 d1 w1 => by
      subst ex
      obtain rfl := VR.ref w1
      refine ⟨hl, fun tp hp => ?_⟩
      obtain ⟨g2, s2⟩ := Gp.newM (o := .tup cs) hp s1
      have r1 := r.step g1 s1 d1
      exact ⟨tp, cs, us, C, b, rfl, upd_same, hcls, xo_d (d1.2.2 _ _ hxs) s2, hT, hcv, hk, k _ _ _ _ _ hR (g1.trans g2.gr) s2 (g2.dk r1.b) (by simp [VR, Rp])⟩⟩
/-- e.f, e the caught error -/
def dXf (K : PySem.W.Frag) (a : Addr) (cls : Value) (d : Option Addr) (f : Str) (t : DTE) : DTE := fun ρ n R => t ρ n fun x n1 => x = .dat (refD a) ∧ ∃ C fs v, cls = .ref C ∧ n1.xs a = some ⟨cls, d, fs⟩ ∧ (XfC K C ∧ PySem.W.findIn K (.ref C) f = some none) ∧ fs.lookup f = some v ∧ R (.dat v) n1
theorem pe_ex {X : Cx} {α : Sort _} {e : Expr} {Q : α → Prop} {t : α → TE} (h : ∀ a, Q a → PE X e (t a)) : PE X e (fun σ H K => ∃ a, Q a ∧ t a σ H K) := ⟨fun p s σ H K I ⟨a, q, w⟩ => (h a q).run p s σ H K I w⟩
theorem we_xf {a : Addr} {oe : Obj} {cls : Value} {d : Option Addr} {pn : List (Addr × Obj)} {e : Expr} {f : Str} {t : DTE} {pos : Pos} (hz : Zc cls d oe) (hf : ∃ vs, oe.data = .fields vs) (he : WE Y (X.suite a ((a, oe) :: pn)) e t) (hb : attributeBase e f X.env (eval e X.env) = eval e X.env := by rfl) :
    WE Y (X.suite a ((a, oe) :: pn)) (.Attribute e f pos) (dXf X.K a cls d f t) := by
  have key : PE (X.suite a ((a, oe) :: pn)) (.Attribute e f pos) (fun σ H Q => up Y X.K t σ H fun x H1 => x = .ref a ∧ ∃ C, (XfC X.K C ∧ PySem.W.findIn X.K (.ref C) f = some none) ∧ cls = .ref C ∧ ∃ (dd : Addr) (fs : List (Str × V)) (v : V), d = some dd ∧ H1 dd = some (.xd fs) ∧ fs.lookup f = some v ∧ Q v H1) := by
    refine ⟨fun pins s σ H Q I h => ?_⟩
    refine attr_of hb (thn (he.run pins s σ H _ I h) fun u s1 hh => ?_)
    obtain ⟨x, H1, I1, rx, ex, C, ⟨T, hno⟩, ec, dd, fs, v, ed, ea, l, q⟩ := hh
    subst ex
    obtain rfl : u = Value.ref a := rx
    subst ec
    obtain ⟨ha, _⟩ := I1.pin (a, oe) (List.mem_append_left _ List.mem_cons_self)
    obtain ⟨mA, hns, hr⟩ := (show ObjOk X.prog X.w H1 s1.heap dd (.xd fs) from I1.hok dd _ ea)
    obtain ⟨u, hu, ru⟩ := RelO.some_of (v := v) (o := mA f) (by rw [← l]; exact hr f)
    obtain ⟨od, ho, hl⟩ := lookIn_ns hns
    obtain ⟨ws, hw⟩ := hf
    subst ed
    have J : PySem.W.InstAt s1.heap a oe C (some od) := ⟨ha, hz.1, by unfold PySem.W.notCls; rw [hw] <;> rfl, by rw [hz.2]; exact ho⟩
    exact HandSPX.exc_get I1.kIn J T.ga T.gg T.exC (PySem.W.findObj_own T.hdC hno rfl (by rw [hl, hu])) (handed_of ru) ⟨v, H1, I1.tok _, ru, q⟩
  refine pe_imp key fun σ H Q ⟨Z, F, ρ, n, R, r, ht, k⟩ => ⟨Z, F, ρ, n, _, r, ht, fun x n1 F1 H1 v ⟨ex, C, fs, w, hcls, hxs, hT, hl, hR⟩ g1 s1 d1 w1 => ?_⟩
  subst ex
  obtain rfl := VR.ref w1
  rcases d1.2.2 _ _ hxs with ⟨h1, h2⟩ | ⟨dd, vs, h1, h2, h3⟩
  · have h2 : fs = [] := h2
    rw [h2] at hl
    cases hl
  · obtain ⟨u, h4, h5⟩ := h3.lookup hl
    exact ⟨rfl, C, hT, hcls, dd, vs, u, h1, s1 _ _ h2, h4, k _ _ _ _ _ hR g1 s1 d1 h5⟩
/-! ### isinstance of any value, own classes too -/
def TyDv (K : PySem.W.Frag) (n : Wo) (x : Dv) (ty : Value) : Prop := (isDR x = false ∧ ty = .type (tyD x.toD)) ∨ ∃ a o, x = .dat (refD a) ∧ n.ob a = some o ∧ InsC K o.C ∧ ty = .ref o.C
theorem TyDv.x {K : PySem.W.Frag} {δ : DkS} {F H : Hp} {n : Wo} {x : Dv} {v : V} {ty : Value} (h : TyDv K n x ty) (hv : VR K δ F H x v) (hs : Same F H) (hd : δ.at_ K F H n) : TyX K H v ty := by
  rcases h with ⟨h1, rfl⟩ | ⟨a, o, rfl, ho, hc, rfl⟩
  · exact tyD_of (hv.rp hs (isDR_dk h1)) (isDR_rf h1)
  · obtain rfl := VR.ref hv
    obtain ⟨_, dx, vs, h2, _⟩ := hd.2.1 a o ho
    exact .base (.ins h2 hc.c hc.ca hc.cg hc.ct hc.mo)
def dIs (K : PySem.W.Frag) (cv : Value) (t : DTE) : DTE := fun ρ n R => t ρ n fun x n1 => ∃ ty b, TyDv K n1 x ty ∧ PySem.W.kitOne K ty cv = some b ∧ R (.dat (.bool b)) n1
theorem we_is {c : V} {cv : Value} {e ec : Expr} {t : DTE} {p pos : Pos} (hg : Gl X "isinstance") (hm : X.mg "isinstance" = none) (he : WE Y X e t) (hec : PE X ec (tC c)) (hcv : ClsV c cv)
    (h1 : starEach [e, ec] X.env = (false, eval e X.env) :: starEach [ec] X.env := by rfl) (h2 : starEach [ec] X.env = (false, eval ec X.env) :: starEach [] X.env := by rfl) (hpl : (backTo pos (starEach [ec] X.env)).any (·.1) = false := by rfl) :
    WE Y X (.Call (.Name "isinstance" p) [e, ec] [] pos) (dIs X.K cv t) :=
  pe_imp (pe_callB call_isi hg hm PyProof.Rows.boot_isinstance (pa_cons he (pa_cons hec pa_nil h2) h1) (by decide) (by decide) h1 hpl) fun σ H Q ⟨Z, F, ρ, n, R, r, ht, k⟩ =>
    ⟨Z, F, ρ, n, _, r, ht, fun x n1 F1 H1 v ⟨ty, b, hty, hk, hR⟩ g1 s1 d1 w1 => ⟨v, c, ty, cv, b, rfl, hcv, hty.x w1 s1 d1, hk, k _ _ _ _ _ hR g1 s1 d1 (by simp [VR, Rp])⟩⟩
end
end DL
set_option maxHeartbeats 4000000
namespace DL
open PySem PySem.Spec PyProof.Rows L2
def HasX (P : Program) (w : World) (K : PySem.W.Frag) (mg : Str → Option Value) (base : Heap) (x : Str) (k : Nat) (ps : List Str) (c : DSpecX) : Prop :=
  ∃ f fd, mg x = some (.ref f) ∧ PySem.W.keepIn K (.ref f) = true ∧ Binds K fd ps [] ∧ FnGX P w K mg base k f fd ps (spDX K ps.length c)
/-- the class x stands at C, and its __init__ keeps c -/
def HasC (P : Program) (w : World) (K : PySem.W.Frag) (mg : Str → Option Value) (base : Heap) (x : Str) (C : Addr) (k : Nat) (ps : List Str) (c : DSpecX) : Prop :=
  mg x = some (.ref C) ∧ (∀ as n R E, c as n R E → as.length = ps.length) ∧ ∃ f fd, Mk K C f ∧ Binds K fd ps [] ∧ FnGX P w K mg base k f fd ps (spDX K ps.length c)
section
variable {X : Cx} {Y : Fx} {dw : DW} {W : WX}
theorem we_hasX {k : Nat} {c : DSpecX} {ps : List Str} {x : Str} {p pos : Pos} {e : Expr} {es : List Expr} {t : DTA} (tk : Takes X W) (ok : WOk Y X.K dw W) (h : HasX X.prog X.w X.K X.mg X.base x k ps c) (hgd : X.A.guards = some []) (hr : Room k X.A) (hg : Gl X x)
    (ha : WA Y X (e :: es) t) (hdb : (x == ("__debug__" : Str)) = false := by decide) (he : starEach (e :: es) X.env = (false, eval e X.env) :: starEach es X.env := by rfl) (hpl : (backTo pos (starEach es X.env)).any (·.1) = false := by rfl) :
    WE Y X (.Call (.Name x p) (e :: es) [] pos) (dFnX ps.length c dw t) := by
  obtain ⟨f, fd, h1, h2, h3, h4⟩ := h
  exact we_fnX tk ok h4 hgd hr hg h1 h2 h3 ha hdb he hpl
theorem we_hasC {k : Nat} {C : Addr} {c : DSpecX} {ps : List Str} {x : Str} {p pos : Pos} {e : Expr} {es : List Expr} {t : DTA} (tk : Takes X W) (ok : WOk Y X.K dw W) (h : HasC X.prog X.w X.K X.mg X.base x C k ps c) (hgd : X.A.guards = some []) (hr : Room (k + 1) X.A) (hg : Gl X x)
    (ha : WA Y X (e :: es) t) (hdb : (x == ("__debug__" : Str)) = false := by decide) (he : starEach (e :: es) X.env = (false, eval e X.env) :: starEach es X.env := by rfl) (hpl : (backTo pos (starEach es X.env)).any (·.1) = false := by rfl) :
    WE Y X (.Call (.Name x p) (e :: es) [] pos) (dMake C c dw t) := by
  obtain ⟨h1, h2, f, fd, h3, h4, h5⟩ := h
  exact we_make tk ok h3 h5 h2 hgd hr hg h1 h4 ha hdb he hpl
/-- .. in a try: statement whose body is one expression that may raise -/
theorem names_own {x : Str} {C : Addr} (hg : Gl X x) (hm : X.mg x = some (.ref C)) (hdb : (x == ("__debug__" : Str)) = false := by decide) : Names X x (.ref C) := ⟨hg, hdb, .inl hm⟩
end
def inCls (st : Stmt) (j : Nat) : Stmt := match st with
  | .ClassDef _ _ _ b _ _ _ _ _ _ _ => b.getD j (.Pass ⟨0, 0, 0, 0⟩)
  | _ => .Pass ⟨0, 0, 0, 0⟩
end DL
namespace DL
open PySem PySem.Spec PyProof.Rows L2
/-! ### isinstance's answers, from the text -/
theorem kit_own {K : PySem.W.Frag} {t : Value} {D : Addr} {b : Bool} (h1 : PySem.W.isClsIn K D = true) (h2 : PySem.W.typeIn K (.ref D) = some (.type "type")) (h3 : PySem.W.subIn K (.ref D) (.ref D) = some true) (h4 : PySem.W.subIn K t (.ref D) = some b) : PySem.W.kitOne K t (.ref D) = some b := by
  unfold PySem.W.kitOne
  by_cases e : (t == Value.ref D) = true
  · rw [if_pos e]
    have e2 : t = .ref D := beq_iff_eq.mp e
    rw [e2] at h4
    rw [← h4, h3]
  · rw [if_neg e]
    unfold PySem.W.kitCls
    have h1' : (PySem.W.clsIn K D).isSome = true := h1
    simp only [h1', h2, Bool.true_and]
    rw [if_pos (by simp)]
    exact h4
theorem kit_tyr {K : PySem.W.Frag} {T : String} {D : Addr} {b : Bool} (h1 : PySem.W.isClsIn K D = true) (h2 : PySem.W.typeIn K (.ref D) = some (.type "type")) (h4 : PySem.W.subIn K (.type T) (.ref D) = some b) : PySem.W.kitOne K (.type T) (.ref D) = some b := by
  unfold PySem.W.kitOne
  rw [if_neg (by simp)]
  unfold PySem.W.kitCls
  have h1' : (PySem.W.clsIn K D).isSome = true := h1
  simp only [h1', h2, Bool.true_and]
  rw [if_pos (by simp)]
  exact h4
theorem kit_oty {K : PySem.W.Frag} {T : String} {D : Addr} {b : Bool} (h1 : PySem.W.kitMeta T = true) (h4 : PySem.W.subIn K (.ref D) (.type T) = some b) : PySem.W.kitOne K (.ref D) (.type T) = some b := by
  unfold PySem.W.kitOne
  rw [if_neg (by simp)]
  unfold PySem.W.kitCls
  simp only [h1, if_true]
  exact h4
end DL
set_option maxHeartbeats 0
namespace DL
open PySem PySem.Spec PyProof.Rows L2

def sizesD (xs : List Int) : PyData := .tuple (xs.map .int)
def hallD (feet pairs : List Int) : PyData := .tuple [sizesD feet, sizesD pairs]
/-- sizes from 1 to h -/
abbrev In1 (h : Int) (xs : List Int) : Prop := ∀ x ∈ xs, 1 ≤ x ∧ x ≤ h
theorem pick2 {a b : PyData} {r : Int} (h0 : 0 ≤ r) (h1 : r < 2) : ∃ d, atI [a, b] r = some d ∧ (d = a ∨ d = b) := by
  obtain ⟨d, h, hm⟩ := atI_mem (xs := [a, b]) h0 (by simpa using h1)
  exact ⟨d, h, by simpa using hm⟩
theorem pick3 {a b c : PyData} {r : Int} (h0 : 0 ≤ r) (h1 : r < 3) : ∃ d, atI [a, b, c] r = some d ∧ (d = a ∨ d = b ∨ d = c) := by
  obtain ⟨d, h, hm⟩ := atI_mem (xs := [a, b, c]) h0 (by simpa using h1)
  exact ⟨d, h, by simpa using hm⟩
/-- numbers as they were drawn -/
theorem ints_of {h : Int} : ∀ {ys : List PyData}, (∀ y ∈ ys, ∃ z : Int, y = .int z ∧ 1 ≤ z ∧ z ≤ h) → ∃ zs : List Int, ys = zs.map .int ∧ In1 h zs
  | [], _ => ⟨[], rfl, fun _ q => (by cases q)⟩
  | y :: ys, q => by
    obtain ⟨z, rfl, h1, h2⟩ := q y (by simp)
    obtain ⟨zs, rfl, h3⟩ := ints_of (ys := ys) fun x hx => q x (by simp [hx])
    exact ⟨z :: zs, rfl, fun x hx => by
      rcases List.mem_cons.mp hx with rfl | hx
      · exact ⟨h1, h2⟩
      · exact h3 x hx⟩
theorem nat20 {x : Int} {h : Int} (hh : h ≤ 10 ^ 6) (q : 1 ≤ x ∧ x ≤ h) : x.natAbs < 2 ^ 20 := by omega
theorem tame_hall {h : Int} {feet pairs : List Int} (hh : h ≤ 10 ^ 6) (h1 : In1 h feet) (h2 : In1 h pairs) (l1 : feet.length ≤ 40) (l2 : pairs.length ≤ 40) : Tame 3000 2 (hallD feet pairs) := by
  have a := tame_tuple (tame_ints (ns := feet) (m := 20) (fun n hn => nat20 hh (h1 n hn)) (by decide) (by decide)) (l := 40) (by rw [List.length_map]; exact l1)
  have b := tame_tuple (tame_ints (ns := pairs) (m := 20) (fun n hn => nat20 hh (h2 n hn)) (by decide) (by decide)) (l := 40) (by rw [List.length_map]; exact l2)
  refine (tame_tuple (m := 1003) (k := 1) (ds := [sizesD feet, sizesD pairs]) (l := 2) (fun d hd => ?_) (by show 2 ≤ 2; exact Nat.le_refl 2)).mono (by decide) (by decide)
  simp only [List.mem_cons, List.not_mem_nil, or_false] at hd
  rcases hd with rfl | rfl
  · exact a
  · exact b
theorem cnt_take {α : Type} {xs : List α} {k : Nat} {x : α} (p : α → Bool) (h : xs[k]? = some x) : ((xs.take (k + 1)).filter p).length = ((xs.take k).filter p).length + if p x = true then 1 else 0 := by
  rw [List.take_add_one, h, List.filter_append, List.length_append]
  cases q : p x <;> simp [q]
theorem map_get {α : Type} {xs : List α} {enc : α → PyData} {k : Nat} {x : PyData} (h : (xs.map enc)[k]? = some x) : ∃ z, xs[k]? = some z ∧ x = enc z := by
  rw [List.getElem?_map] at h
  obtain ⟨z, h1, h2⟩ := Option.map_eq_some_iff.mp h
  exact ⟨z, h1, h2.symm⟩
theorem tame_two {a b : Int} (ha : a.natAbs < 2 ^ 20) (hb : b.natAbs < 2 ^ 20) : Tame 53 1 (.tuple [.int a, .int b]) :=
  tame_tuple (m := 23) (k := 0) (l := 2) (fun d hd => by
    simp only [List.mem_cons, List.not_mem_nil, or_false] at hd
    rcases hd with rfl | rfl
    · exact tame_int (m := 20) ha (by decide) (by decide)
    · exact tame_int (m := 20) hb (by decide) (by decide)) (by show 2 ≤ 2; exact Nat.le_refl 2)
theorem cntI_take {α : Type} {xs : List α} {k : Nat} {x : α} (p : α → Bool) (h : xs[k]? = some x) : (((xs.take (k + 1)).filter p).length : Int) = (((xs.take k).filter p).length : Int) + (if p x = true then 1 else 0) := by
  rw [cnt_take p h]
  cases p x <;> simp


/-- the item at a place -/
def getI (xs : List Int) (j : Int) : Int := (xs[j.toNat]?).getD 0
def intsN (m : Nat) : List Int := (List.range m).map fun (k : Nat) => (k : Int)
theorem mem_intsN {m : Nat} {j : Int} (h : j ∈ intsN m) : 0 ≤ j ∧ j < m := by
  obtain ⟨k, hk, rfl⟩ := List.mem_map.mp h
  have := List.mem_range.mp hk
  omega
/-- one guest of a run by a list of liking -/
def stepF (feet pairs : List Int) (s : List Int × List (Int × Int)) (g : Int) : List Int × List (Int × Int) :=
  match s.1.filter fun j => decide (getI feet g ≤ getI pairs j) with
  | [] => (s.1, s.2 ++ [(g, -1)])
  | j :: _ => (s.1.erase j, s.2 ++ [(g, j)])
/-- the best of those seen -/
def bestS (key : Int → Int) (fits : Int → Bool) (b j : Int) : Int := if fits j = true then (if b = -1 ∨ key j < key b then j else b) else b
def stepL (key : Int → Int) (feet pairs : List Int) (s : List Int × List (Int × Int)) (g : Int) : List Int × List (Int × Int) :=
  (s.1.filter fun o => decide (o ≠ s.1.foldl (bestS key fun j => decide (getI feet g ≤ getI pairs j)) (-1)), s.2 ++ [(g, s.1.foldl (bestS key fun j => decide (getI feet g ≤ getI pairs j)) (-1))])
def ruled (key : Int → Int) (feet pairs order : List Int) : List (Int × Int) := (order.foldl (stepL key feet pairs) (intsN pairs.length, [])).2
theorem fold_take {α β : Type} {f : β → α → β} {b : β} {xs : List α} {k : Nat} {x : α} (h : xs[k]? = some x) : (xs.take (k + 1)).foldl f b = f ((xs.take k).foldl f b) x := by
  rw [List.take_add_one, h, List.foldl_append]; rfl
/-- what is best -/
def Lx (key : Int → Int) (a b : Int) : Prop := key a < key b ∨ (key a = key b ∧ a ≤ b)
theorem best_is (key : Int → Int) (fits : Int → Bool) : ∀ (l : List Int) (b : Int), (∀ x ∈ l, 0 ≤ x) → l.Pairwise (· < ·) → (b = -1 ∨ (0 ≤ b ∧ fits b = true ∧ ∀ x ∈ l, b < x)) →
    let r := l.foldl (bestS key fits) b
    (r = -1 ∧ b = -1 ∧ ∀ x ∈ l, fits x = false) ∨ ((r = b ∨ r ∈ l) ∧ 0 ≤ r ∧ fits r = true ∧ (∀ x ∈ l, fits x = true → Lx key r x) ∧ (b ≠ -1 → Lx key r b))
  | [], b, _, _, hb => by
    rcases hb with rfl | ⟨h1, h2, _⟩
    · exact .inl ⟨rfl, rfl, fun _ h => nomatch h⟩
    · exact .inr ⟨.inl rfl, h1, h2, fun _ h => (nomatch h), fun _ => .inr ⟨rfl, Int.le_refl _⟩⟩
  | y :: l, b, hn, hp, hb => by
    have hy : 0 ≤ y := hn y (by simp)
    obtain ⟨p1, p2⟩ := List.pairwise_cons.mp hp
    have hb' : bestS key fits b y = -1 ∨ (0 ≤ bestS key fits b y ∧ fits (bestS key fits b y) = true ∧ ∀ x ∈ l, bestS key fits b y < x) := by
      unfold bestS
      by_cases f : fits y = true
      · rw [if_pos f]
        by_cases c : b = -1 ∨ key y < key b
        · rw [if_pos c]; exact .inr ⟨hy, f, p1⟩
        · rw [if_neg c]
          rcases hb with rfl | ⟨h1, h2, h3⟩
          · exact absurd (.inl rfl) c
          · exact .inr ⟨h1, h2, fun x hx => h3 x (by simp [hx])⟩
      · rw [if_neg f]
        rcases hb with rfl | ⟨h1, h2, h3⟩
        · exact .inl rfl
        · exact .inr ⟨h1, h2, fun x hx => h3 x (by simp [hx])⟩
    have ih := best_is key fits l (bestS key fits b y) (fun x hx => hn x (by simp [hx])) p2 hb'
    show (let r := l.foldl (bestS key fits) (bestS key fits b y); _)
    simp only at ih ⊢
    rw [List.foldl_cons]
    rcases ih with ⟨e1, e2, e3⟩ | ⟨e1, e2, e3, e4, e5⟩
    · unfold bestS at e2
      by_cases f : fits y = true
      · rw [if_pos f] at e2
        by_cases c : b = -1 ∨ key y < key b
        · rw [if_pos c] at e2; omega
        · rw [if_neg c] at e2
          exact absurd (.inl e2) c
      · rw [if_neg f] at e2
        refine .inl ⟨e1, e2, fun x hx => ?_⟩
        rcases List.mem_cons.mp hx with rfl | hx
        · exact Bool.eq_false_iff.mpr f
        · exact e3 x hx
    · refine .inr ⟨?_, e2, e3, ?_, ?_⟩
      · have hq : bestS key fits b y = y ∨ bestS key fits b y = b := by
          unfold bestS
          split
          · split
            · exact .inl rfl
            · exact .inr rfl
          · exact .inr rfl
        rcases e1 with e1 | e1
        · rcases hq with hq | hq
          · exact .inr (by rw [e1, hq]; simp)
          · exact .inl (by rw [e1, hq])
        · exact .inr (by simp [e1])
      · intro x hx fx
        rcases List.mem_cons.mp hx with rfl | hx
        · have hb2 : Lx key (bestS key fits b x) x ∧ bestS key fits b x ≠ -1 := by
            unfold bestS
            rw [if_pos fx]
            by_cases c : b = -1 ∨ key x < key b
            · rw [if_pos c]; exact ⟨.inr ⟨rfl, Int.le_refl _⟩, by omega⟩
            · rw [if_neg c]
              rcases hb with rfl | ⟨h1, h2, h3⟩
              · exact absurd (.inl rfl) c
              · have := h3 x (by simp)
                have : ¬ key x < key b := fun q => c (.inr q)
                exact ⟨by unfold Lx; omega, by omega⟩
          have := e5 hb2.2
          have := hb2.1
          unfold Lx at *
          omega
        · exact e4 x hx fx
      · intro hne
        have hb2 : bestS key fits b y ≠ -1 ∧ Lx key (bestS key fits b y) b := by
          rcases hb with rfl | ⟨h1, h2, h3⟩
          · exact absurd rfl hne
          · unfold bestS
            by_cases f : fits y = true
            · rw [if_pos f]
              by_cases c : b = -1 ∨ key y < key b
              · rw [if_pos c]
                rcases c with c | c
                · exact absurd c hne
                · exact ⟨by omega, .inl c⟩
              · rw [if_neg c]; exact ⟨hne, .inr ⟨rfl, Int.le_refl _⟩⟩
            · rw [if_neg f]; exact ⟨hne, .inr ⟨rfl, Int.le_refl _⟩⟩
        have := e5 hb2.1
        have := hb2.2
        unfold Lx at *
        omega
theorem erase_filter {l : List Int} (h : l.Nodup) (j : Int) : l.erase j = l.filter fun o => decide (o ≠ j) := by
  rw [h.erase_eq_filter]
  congr 1
  funext o
  by_cases q : o = j <;> simp [q]
/-- the two ways step alike -/
theorem step_same (key : Int → Int) (feet pairs : List Int) (l1 l2 : List Int) (r : List (Int × Int)) (g : Int) (hp : l1.Perm l2) (hs : l1.Pairwise (Lx key)) (hl : l2.Pairwise (· < ·)) (hn : ∀ x ∈ l2, 0 ≤ x) :
    (stepF feet pairs (l1, r) g).2 = (stepL key feet pairs (l2, r) g).2 ∧ (stepF feet pairs (l1, r) g).1.Perm (stepL key feet pairs (l2, r) g).1 := by
  have hb := best_is key (fun j => decide (getI feet g ≤ getI pairs j)) l2 (-1) hn hl (.inl rfl)
  have nd2 : l2.Nodup := hl.imp fun h => Int.ne_of_lt h
  have nd1 : l1.Nodup := hp.nodup_iff.mpr nd2
  unfold stepF stepL
  simp only at hb ⊢
  generalize l2.foldl (bestS key fun j => decide (getI feet g ≤ getI pairs j)) (-1) = b at hb ⊢
  rcases hb with ⟨rfl, _, h3⟩ | ⟨h1, h2, h3, h4, _⟩
  · have e : (l1.filter fun j => decide (getI feet g ≤ getI pairs j)) = [] := List.filter_eq_nil_iff.mpr fun x hx => by
      rw [h3 x (hp.mem_iff.mp hx)]; exact Bool.false_ne_true
    rw [e]
    refine ⟨rfl, ?_⟩
    show l1.Perm _
    rw [List.filter_eq_self.mpr fun x hx => by have := hn x hx; simp; omega]
    exact hp
  · have hb1 : b ∈ l1 := by
      rcases h1 with q | q
      · omega
      · exact hp.mem_iff.mpr q
    have hbf : b ∈ l1.filter fun j => decide (getI feet g ≤ getI pairs j) := List.mem_filter.mpr ⟨hb1, h3⟩
    have hsf := hs.filter fun j => decide (getI feet g ≤ getI pairs j)
    cases e : l1.filter fun j => decide (getI feet g ≤ getI pairs j) with
    | nil => rw [e] at hbf; cases hbf
    | cons j js =>
      have ej : j = b := by
        rw [e] at hbf hsf
        rcases List.mem_cons.mp hbf with q | q
        · exact q.symm
        · have a1 : Lx key j b := (List.pairwise_cons.mp hsf).1 b q
          have hj : j ∈ l1.filter fun j => decide (getI feet g ≤ getI pairs j) := by rw [e]; simp
          obtain ⟨q1, q2⟩ := List.mem_filter.mp hj
          have a2 := h4 j (hp.mem_iff.mp q1) q2
          unfold Lx at a1 a2
          omega
      subst ej
      refine ⟨rfl, ?_⟩
      show (l1.erase j).Perm _
      rw [erase_filter nd1]
      exact hp.filter _
theorem run_same (key : Int → Int) (feet pairs : List Int) : ∀ (order : List Int) (l1 l2 : List Int) (r : List (Int × Int)), l1.Perm l2 → l1.Pairwise (Lx key) → l2.Pairwise (· < ·) → (∀ x ∈ l2, 0 ≤ x) →
    (order.foldl (stepF feet pairs) (l1, r)).2 = (order.foldl (stepL key feet pairs) (l2, r)).2
  | [], _, _, _, _, _, _, _ => rfl
  | g :: order, l1, l2, r, hp, hs, hl, hn => by
    obtain ⟨e1, e2⟩ := step_same key feet pairs l1 l2 r g hp hs hl hn
    rw [List.foldl_cons, List.foldl_cons]
    have sub2 : ∀ x ∈ (stepL key feet pairs (l2, r) g).1, x ∈ l2 := fun x hx => (List.mem_filter.mp hx).1
    have pw1 : (stepF feet pairs (l1, r) g).1.Pairwise (Lx key) := by
      unfold stepF
      simp only
      split
      · exact hs
      · exact hs.sublist List.erase_sublist
    have pw2 : (stepL key feet pairs (l2, r) g).1.Pairwise (· < ·) := hl.filter _
    have := run_same key feet pairs order (stepF feet pairs (l1, r) g).1 (stepL key feet pairs (l2, r) g).1 (stepF feet pairs (l1, r) g).2 e2 pw1 pw2 fun x hx => hn x (sub2 x hx)
    rw [show stepF feet pairs (l1, r) g = ((stepF feet pairs (l1, r) g).1, (stepF feet pairs (l1, r) g).2) from rfl, show stepL key feet pairs (l2, r) g = ((stepL key feet pairs (l2, r) g).1, (stepF feet pairs (l1, r) g).2) from by rw [e1]]
    exact this
theorem intsN_lt (m : Nat) : (intsN m).Pairwise (· < ·) := by
  unfold intsN
  rw [List.pairwise_map]
  exact List.pairwise_lt_range.imp fun h => by omega
/-- how many feet are less, how many pairs are at least s -/
def cF (feet : List Int) (s : Int) : Nat := (feet.filter fun x => decide (x < s)).length
def cP (pairs : List Int) (s : Int) : Nat := (pairs.filter fun x => decide (s ≤ x)).length
def IsMost (feet pairs : List Int) (m : Int) : Prop := (∃ s, m = (cF feet s : Int) + cP pairs s) ∧ ∀ s, m ≤ (cF feet s : Int) + cP pairs s
def IsFew (feet pairs : List Int) (m : Int) : Prop := (∃ s, m = (max (cF feet s) (cP pairs s) : Nat)) ∧ ∀ s, m ≤ (max (cF feet s) (cP pairs s) : Nat)
theorem IsMost.uniq {feet pairs : List Int} {m k : Int} (h : IsMost feet pairs m) (h2 : IsMost feet pairs k) : m = k := by
  obtain ⟨⟨s, e⟩, a⟩ := h
  obtain ⟨⟨s2, e2⟩, a2⟩ := h2
  have := a s2; have := a2 s
  omega
theorem IsFew.uniq {feet pairs : List Int} {m k : Int} (h : IsFew feet pairs m) (h2 : IsFew feet pairs k) : m = k := by
  obtain ⟨⟨s, e⟩, a⟩ := h
  obtain ⟨⟨s2, e2⟩, a2⟩ := h2
  have := a s2; have := a2 s
  omega
theorem cF_cons (f : Int) (fs : List Int) (s : Int) : cF (f :: fs) s = cF fs s + if f < s then 1 else 0 := by
  unfold cF
  rw [List.filter_cons]
  by_cases h : f < s
  · rw [if_pos (decide_eq_true h), if_pos h]; rfl
  · rw [if_neg (by simpa using h), if_neg h]; rfl
theorem cP_cons (p : Int) (ps : List Int) (s : Int) : cP (p :: ps) s = cP ps s + if s ≤ p then 1 else 0 := by
  unfold cP
  rw [List.filter_cons]
  by_cases h : s ≤ p
  · rw [if_pos (decide_eq_true h), if_pos h]; rfl
  · rw [if_neg (by simpa using h), if_neg h]; rfl
theorem cF_perm {a b : List Int} (h : a.Perm b) (s : Int) : cF a s = cF b s := (h.filter _).length_eq
theorem cP_perm {a b : List Int} (h : a.Perm b) (s : Int) : cP a s = cP b s := (h.filter _).length_eq
theorem cF_zero {l : List Int} {s : Int} (h : ∀ x ∈ l, s ≤ x) : cF l s = 0 := by
  unfold cF
  rw [List.filter_eq_nil_iff.mpr fun x hx => by have := h x hx; simp; omega]
  rfl
theorem cP_zero {l : List Int} {s : Int} (h : ∀ x ∈ l, x < s) : cP l s = 0 := by
  unfold cP
  rw [List.filter_eq_nil_iff.mpr fun x hx => by have := h x hx; simp; omega]
  rfl
theorem cF_le (l : List Int) (s : Int) : cF l s ≤ l.length := List.length_filter_le _ _
theorem cP_le (l : List Int) (s : Int) : cP l s ≤ l.length := List.length_filter_le _ _
theorem cF_all {l : List Int} {s : Int} (h : ∀ x ∈ l, x < s) : cF l s = l.length := by
  unfold cF
  rw [List.filter_eq_self.mpr fun x hx => by simpa using h x hx]
/-- the largest pairs to the greatest feet that they fit: feet and pairs from the greatest on -/
def gr : List Int → List Int → Nat
  | [], _ => 0
  | f :: fs, [] => gr fs []
  | f :: fs, p :: ps => if f ≤ p then gr fs ps + 1 else gr fs (p :: ps)
theorem gr_le : ∀ (F P : List Int) (s : Int), gr F P ≤ cF F s + cP P s
  | [], _, _ => Nat.zero_le _
  | f :: fs, [], s => by
    have := gr_le fs [] s
    rw [cF_cons]
    unfold gr
    omega
  | f :: fs, p :: ps, s => by
    unfold gr
    by_cases h : f ≤ p
    · rw [if_pos h, cF_cons, cP_cons]
      have := gr_le fs ps s
      split <;> split <;> omega
    · rw [if_neg h, cF_cons]
      have := gr_le fs (p :: ps) s
      omega
theorem gr_ge (top : Int) : ∀ (F P : List Int), F.Pairwise (fun a b => b ≤ a) → P.Pairwise (fun a b => b ≤ a) → (∀ x ∈ F, x < top) → (∀ x ∈ P, x < top) → ∃ s, (s ∈ F ∨ s = top) ∧ cF F s + cP P s ≤ gr F P
  | [], P, _, _, _, hP => ⟨top, .inr rfl, by rw [cP_zero hP]; exact Nat.le_refl 0⟩
  | f :: fs, [], h1, h2, hF, hP => by
    obtain ⟨p1, p2⟩ := List.pairwise_cons.mp h1
    obtain ⟨s, hs, hle⟩ := gr_ge top fs [] p2 h2 (fun x hx => hF x (by simp [hx])) hP
    unfold gr
    rcases hs with hs | rfl
    · refine ⟨s, .inl (by simp [hs]), ?_⟩
      have := p1 s hs
      rw [cF_cons, if_neg (by omega)]
      exact hle
    · rw [cF_all fun x hx => hF x (by simp [hx])] at hle
      have h0 : gr fs [] ≤ 0 := by
        cases fs with
        | nil => exact Nat.le_refl 0
        | cons a l =>
          have := gr_le (a :: l) [] (((a :: l).getLast (by simp)))
          have q : cF (a :: l) ((a :: l).getLast (by simp)) = 0 := cF_zero fun x hx => by
            have hl : (a :: l) = (a :: l).dropLast ++ [(a :: l).getLast (by simp)] := (List.dropLast_concat_getLast (by simp)).symm
            rw [hl] at hx p2
            rcases List.mem_append.mp hx with z | z
            · exact (List.pairwise_append.mp p2).2.2 x z _ (by simp)
            · rw [List.mem_singleton.mp z]; simp
          rw [q] at this
          exact this
      have hl : fs.length = 0 := by omega
      have : fs = [] := List.eq_nil_of_length_eq_zero hl
      subst this
      exact ⟨f, .inl (by simp), by rw [cF_cons, if_neg (by omega)]; exact Nat.zero_le _⟩
  | f :: fs, p :: ps, h1, h2, hF, hP => by
    obtain ⟨p1, p2⟩ := List.pairwise_cons.mp h1
    obtain ⟨q1, q2⟩ := List.pairwise_cons.mp h2
    have hF' : ∀ x ∈ fs, x < top := fun x hx => hF x (by simp [hx])
    have hf := hF f (by simp)
    have hp := hP p (by simp)
    unfold gr
    by_cases h : f ≤ p
    · rw [if_pos h]
      obtain ⟨s, hs, hle⟩ := gr_ge top fs ps p2 q2 hF' fun x hx => hP x (by simp [hx])
      rcases hs with hs | rfl
      · refine ⟨s, .inl (by simp [hs]), ?_⟩
        have := p1 s hs
        rw [cF_cons, cP_cons, if_neg (by omega)]
        split <;> omega
      · refine ⟨s, .inr rfl, ?_⟩
        rw [cF_cons, cP_cons, if_neg (show ¬ s ≤ p by omega)]
        split <;> omega
    · rw [if_neg h]
      obtain ⟨s, hs, hle⟩ := gr_ge top fs (p :: ps) p2 h2 hF' hP
      rcases hs with hs | rfl
      · refine ⟨s, .inl (by simp [hs]), ?_⟩
        have := p1 s hs
        rw [cF_cons, if_neg (by omega)]
        omega
      · refine ⟨f, .inl (by simp), ?_⟩
        rw [cF_all hF'] at hle
        rw [cF_cons, if_neg (by omega), cP_zero fun x hx => by
          rcases List.mem_cons.mp hx with rfl | hx
          · omega
          · have := q1 x hx; omega]
        have := cF_le fs f
        omega
theorem most_of_gr {feet pairs F P : List Int} {top : Int} (hF : F.Perm feet) (hP : P.Perm pairs) (h1 : F.Pairwise fun a b => b ≤ a) (h2 : P.Pairwise fun a b => b ≤ a) (t1 : ∀ x ∈ feet, x < top) (t2 : ∀ x ∈ pairs, x < top) :
    IsMost feet pairs (gr F P : Nat) ∧ ∃ s, (s ∈ feet ∨ s = top) ∧ ((gr F P : Nat) : Int) = (cF feet s : Int) + cP pairs s := by
  obtain ⟨s, hs, hle⟩ := gr_ge top F P h1 h2 (fun x hx => t1 x (hF.mem_iff.mp hx)) fun x hx => t2 x (hP.mem_iff.mp hx)
  have hge := gr_le F P s
  rw [cF_perm hF, cP_perm hP] at hle hge
  refine ⟨⟨⟨s, by omega⟩, fun s' => ?_⟩, s, hs.imp (fun h => hF.mem_iff.mp h) id, by omega⟩
  have := gr_le F P s'
  rw [cF_perm hF, cP_perm hP] at this
  omega
/-- the smallest feet beside the largest pairs -/
def cz : List Int → List Int → Nat
  | f :: fs, p :: ps => cz fs ps + if f ≤ p then 1 else 0
  | _, _ => 0
theorem cz_le : ∀ (F P : List Int) (s : Int), F.Pairwise (fun a b => a ≤ b) → P.Pairwise (fun a b => b ≤ a) → cz F P ≤ max (cF F s) (cP P s)
  | [], _, _, _, _ => by unfold cz; exact Nat.zero_le _
  | f :: fs, [], _, _, _ => by unfold cz; exact Nat.zero_le _
  | f :: fs, p :: ps, s, h1, h2 => by
    obtain ⟨p1, p2⟩ := List.pairwise_cons.mp h1
    obtain ⟨q1, q2⟩ := List.pairwise_cons.mp h2
    have ih := cz_le fs ps s p2 q2
    unfold cz
    rw [cF_cons, cP_cons]
    by_cases h : f ≤ p
    · rw [if_pos h]
      by_cases a : f < s
      · rw [if_pos a]
        by_cases b : s ≤ p
        · rw [if_pos b]; omega
        · have : cP ps s = 0 := cP_zero fun x hx => by have := q1 x hx; omega
          omega
      · rw [if_neg a, if_pos (show s ≤ p by omega)]
        have : cF fs s = 0 := cF_zero fun x hx => by have := p1 x hx; omega
        omega
    · rw [if_neg h]; omega
theorem cz_ge (top : Int) : ∀ (F P : List Int), F.Pairwise (fun a b => a ≤ b) → P.Pairwise (fun a b => b ≤ a) → (∀ x ∈ P, x < top) → ∃ s, (s ∈ F ∨ s = top) ∧ max (cF F s) (cP P s) ≤ cz F P
  | [], P, _, _, hP => ⟨top, .inr rfl, by rw [cP_zero hP]; exact Nat.zero_le _⟩
  | f :: fs, [], h1, _, _ => by
    obtain ⟨p1, p2⟩ := List.pairwise_cons.mp h1
    refine ⟨f, .inl (by simp), ?_⟩
    rw [cF_zero fun x hx => by
      rcases List.mem_cons.mp hx with rfl | hx
      · exact Int.le_refl _
      · exact p1 x hx]
    exact Nat.zero_le _
  | f :: fs, p :: ps, h1, h2, hP => by
    obtain ⟨p1, p2⟩ := List.pairwise_cons.mp h1
    obtain ⟨q1, q2⟩ := List.pairwise_cons.mp h2
    unfold cz
    by_cases h : f ≤ p
    · obtain ⟨s, hs, hle⟩ := cz_ge top fs ps p2 q2 fun x hx => hP x (by simp [hx])
      refine ⟨s, hs.imp (fun h => by simp [h]) id, ?_⟩
      rw [cF_cons, cP_cons, if_pos h]
      split <;> split <;> omega
    · refine ⟨f, .inl (by simp), ?_⟩
      rw [cF_zero fun x hx => by
        rcases List.mem_cons.mp hx with rfl | hx
        · exact Int.le_refl _
        · exact p1 x hx, cP_zero fun x hx => by
        rcases List.mem_cons.mp hx with rfl | hx
        · omega
        · have := q1 x hx; omega]
      exact Nat.zero_le _
theorem few_of_cz {feet pairs F P : List Int} {top : Int} (hF : F.Perm feet) (hP : P.Perm pairs) (h1 : F.Pairwise fun a b => a ≤ b) (h2 : P.Pairwise fun a b => b ≤ a) (t2 : ∀ x ∈ pairs, x < top) :
    IsFew feet pairs (cz F P : Nat) ∧ ∃ s, (s ∈ feet ∨ s = top) ∧ ((cz F P : Nat) : Int) = (max (cF feet s) (cP pairs s) : Nat) := by
  obtain ⟨s, hs, hle⟩ := cz_ge top F P h1 h2 fun x hx => t2 x (hP.mem_iff.mp hx)
  have hge := cz_le F P s h1 h2
  rw [cF_perm hF, cP_perm hP] at hle hge
  refine ⟨⟨⟨s, by omega⟩, fun s' => ?_⟩, s, hs.imp (fun h => hF.mem_iff.mp h) id, by omega⟩
  have := cz_le F P s' h1 h2
  rw [cF_perm hF, cP_perm hP] at this
  omega

theorem atI_get {xs : List Int} {j : Int} (h0 : 0 ≤ j) (h1 : j < xs.length) : atI (xs.map PyData.int) j = some (.int (getI xs j)) := by
  have hj : j.toNat < xs.length := by omega
  unfold atI ixN getI
  rw [if_pos h0, if_pos (by rw [List.length_map]; exact h1)]
  simp [hj]

theorem sh_ints (ns : List Int) : Sh (.list (ns.map .int)) :=
  Bool.and_eq_true_iff.mpr ⟨by simp only [PyData.canLay0]; exact canAll fun d hd => by obtain ⟨_, _, rfl⟩ := List.mem_map.mp hd; rfl, decide_eq_true (by
    simp only [PyData.depth]
    exact Nat.le_trans (Nat.succ_le_succ (depthAll_le (k := 0) fun d hd => by obtain ⟨_, _, rfl⟩ := List.mem_map.mp hd; exact Nat.le_refl _)) (by decide))⟩
theorem eqv_nil (ds : List PyData) : PyData.eqv (.list ds) (.list []) = ds.isEmpty := by
  cases ds <;> rfl
theorem nodup_len : ∀ {ms l : List Int}, ms.Nodup → (∀ x ∈ ms, x ∈ l) → ms.length ≤ l.length
  | [], _, _, _ => Nat.zero_le _
  | x :: ms, l, h, hs => by
    obtain ⟨h1, h2⟩ := List.nodup_cons.mp h
    have hx := hs x (by simp)
    have ih := nodup_len (l := l.erase x) h2 fun y hy => (List.mem_erase_of_ne (fun e => h1 (by rw [← e]; exact hy))).mpr (hs y (by simp [hy]))
    rw [List.length_erase_of_mem hx] at ih
    have := List.length_pos_of_mem hx
    rw [List.length_cons]
    omega
def ins (a : Int) : List Int → List Int
  | [] => [a]
  | b :: l => if a ≤ b then a :: b :: l else b :: ins a l
theorem ins_perm (a : Int) : ∀ l, (ins a l).Perm (a :: l)
  | [] => List.Perm.refl _
  | b :: l => by
    unfold ins
    split
    · exact List.Perm.refl _
    · exact ((ins_perm a l).cons b).trans (List.Perm.swap _ _ _)
theorem ins_sorted (a : Int) : ∀ l : List Int, l.Pairwise (· ≤ ·) → (ins a l).Pairwise (· ≤ ·)
  | [], _ => List.pairwise_singleton _ _
  | b :: l, h => by
    obtain ⟨h1, h2⟩ := List.pairwise_cons.mp h
    unfold ins
    split
    · rename_i hab
      exact List.pairwise_cons.mpr ⟨fun x hx => by
        rcases List.mem_cons.mp hx with rfl | hx
        · exact hab
        · exact Int.le_trans hab (h1 x hx), h⟩
    · exact List.pairwise_cons.mpr ⟨fun x hx => by
        rcases List.mem_cons.mp ((ins_perm a l).mem_iff.mp hx) with rfl | hx
        · omega
        · exact h1 x hx, ins_sorted a l h2⟩
theorem exists_sorted : ∀ l : List Int, ∃ F : List Int, F.Perm l ∧ F.Pairwise (· ≤ ·)
  | [] => ⟨[], List.Perm.refl _, List.Pairwise.nil⟩
  | a :: l => by
    obtain ⟨F, h1, h2⟩ := exists_sorted l
    exact ⟨ins a F, (ins_perm a F).trans (h1.cons a), ins_sorted a F h2⟩
theorem rev_desc {F : List Int} (h : F.Pairwise (· ≤ ·)) : F.reverse.Pairwise fun a b => b ≤ a := List.pairwise_reverse.mpr h
/-- where the least number of both is attained -/
theorem most_at {feet pairs : List Int} {top : Int} (t1 : ∀ x ∈ feet, x < top) (t2 : ∀ x ∈ pairs, x < top) : ∃ s, (s ∈ feet ∨ s = top) ∧ ∀ s', (cF feet s : Int) + cP pairs s ≤ (cF feet s' : Int) + cP pairs s' := by
  obtain ⟨F, f1, f2⟩ := exists_sorted feet
  obtain ⟨Q, p1, p2⟩ := exists_sorted pairs
  obtain ⟨h, s, hs, e⟩ := most_of_gr ((List.reverse_perm F).trans f1) ((List.reverse_perm Q).trans p1) (rev_desc f2) (rev_desc p2) t1 t2
  exact ⟨s, hs, fun s' => by rw [← e]; exact h.2 s'⟩
theorem few_at {feet pairs : List Int} {top : Int} (t2 : ∀ x ∈ pairs, x < top) : ∃ s, (s ∈ feet ∨ s = top) ∧ ∀ s', ((max (cF feet s) (cP pairs s) : Nat) : Int) ≤ (max (cF feet s') (cP pairs s') : Nat) := by
  obtain ⟨F, f1, f2⟩ := exists_sorted feet
  obtain ⟨Q, p1, p2⟩ := exists_sorted pairs
  obtain ⟨h, s, hs, e⟩ := few_of_cz (top := top) f1 ((List.reverse_perm Q).trans p1) f2 (rev_desc p2) t2
  exact ⟨s, hs, fun s' => by rw [← e]; exact h.2 s'⟩
theorem zip_enc (F Q : List Int) : zipD (F.map .int) (Q.map .int) = (F.zip Q).map fun q => .tuple [.int q.1, .int q.2] := by
  unfold zipD
  rw [List.zip_map, List.map_map]
  rfl
theorem cz_count : ∀ F Q : List Int, ((F.zip Q).map fun q => decide (q.1 ≤ q.2)).count true = cz F Q
  | [], _ => by unfold cz; rfl
  | f :: fs, [] => by unfold cz; rfl
  | f :: fs, p :: ps => by
    rw [List.zip_cons_cons, List.map_cons, List.count_cons, cz_count fs ps]
    show _ = cz fs ps + if f ≤ p then 1 else 0
    by_cases h : f ≤ p <;> simp [h]
theorem atI_last (l : List Int) (p : Int) : atI ((l ++ [p]).map PyData.int) (-1) = some (.int p) := by
  unfold atI ixN
  rw [if_neg (by decide)]
  rw [List.length_map, List.length_append, List.length_singleton, if_pos (by omega), show (-1 + ((l.length + 1 : Nat) : Int)).toNat = l.length by omega]
  show ((l ++ [p]).map PyData.int)[l.length]? = _
  rw [List.getElem?_map, List.getElem?_append_right (Nat.le_refl _), Nat.sub_self]
  rfl
theorem cP_all {l : List Int} {s : Int} (h : ∀ x ∈ l, s ≤ x) : cP l s = l.length := by
  unfold cP
  rw [List.filter_eq_self.mpr fun x hx => by simpa using h x hx]
/-- of small sizes the places 1 to 6 are enough -/
theorem clamp {feet pairs : List Int} (h1 : ∀ x ∈ feet, 1 ≤ x ∧ x ≤ 4) (h2 : ∀ x ∈ pairs, 1 ≤ x ∧ x ≤ 4) (s : Int) : ∃ k ∈ List.range 6, cF feet (1 + (k : Int)) ≤ cF feet s ∧ cP pairs (1 + (k : Int)) ≤ cP pairs s := by
  by_cases a : s ≤ 1
  · refine ⟨0, by decide, ?_, ?_⟩
    · rw [cF_zero fun x hx => by have := h1 x hx; omega]; exact Nat.zero_le _
    · rw [cP_all (s := s) fun x hx => by have := h2 x hx; omega]; exact cP_le _ _
  · by_cases b : s ≤ 6
    · refine ⟨(s - 1).toNat, List.mem_range.mpr (by omega), ?_, ?_⟩ <;> rw [show (1 : Int) + ((s - 1).toNat : Nat) = s by omega] <;> exact Nat.le_refl _
    · refine ⟨5, by decide, ?_, ?_⟩
      · rw [cF_all (s := s) fun x hx => by have := h1 x hx; omega]; exact cF_le _ _
      · rw [cP_zero fun x hx => by have := h2 x hx; omega]; exact Nat.zero_le _
theorem most_bd {feet pairs : List Int} {m : Int} (h : IsMost feet pairs m) (l1 : feet.length ≤ 40) (l2 : pairs.length ≤ 40) : 0 ≤ m ∧ m ≤ 80 := by
  obtain ⟨⟨s, e⟩, _⟩ := h
  have := cF_le feet s; have := cP_le pairs s
  omega
theorem few_bd {feet pairs : List Int} {m : Int} (h : IsFew feet pairs m) (l1 : feet.length ≤ 40) (l2 : pairs.length ≤ 40) : 0 ≤ m ∧ m ≤ 80 := by
  obtain ⟨⟨s, e⟩, _⟩ := h
  have := cF_le feet s; have := cP_le pairs s
  omega
theorem eqv_two (a b : Int) : PyData.eqv (.list [.int a, .int b]) (.list [.int a, .int b]) = true := by
  rw [show PyData.eqv (.list [.int a, .int b]) (.list [.int a, .int b]) = (decide (a = a) && (decide (b = b) && true)) from rfl]
  simp
theorem tame_pair {a b : Int} (h1 : 0 ≤ a ∧ a ≤ 80) (h2 : 0 ≤ b ∧ b ≤ 80) : Tame 1000000 60 (.list [.int a, .int b]) :=
  (tame_list (m := 23) (k := 0) (l := 2) (fun d hd => by
    simp only [List.mem_cons, List.not_mem_nil, or_false] at hd
    rcases hd with rfl | rfl
    · exact tame_int (m := 20) (by omega) (by decide) (by decide)
    · exact tame_int (m := 20) (by omega) (by decide) (by decide)) (by show 2 ≤ 2; exact Nat.le_refl 2)).mono (by decide) (by decide)
theorem sh_two (a b : Int) : Sh (.list [.int a, .int b]) := rfl
structure HallOk (feet pairs : List Int) : Prop where
  f1 : 1 ≤ feet.length
  f2 : feet.length ≤ 40
  p2 : pairs.length ≤ 40
  fi : In1 (10 ^ 6) feet
  pi : In1 (10 ^ 6) pairs

theorem stepL_ok (key : Int → Int) (feet pairs : List Int) (m : Int) : ∀ (order : List Int) (l : List Int) (r : List (Int × Int)), (∀ x ∈ l, 0 ≤ x ∧ x < m) → (∀ p ∈ r, -1 ≤ p.2 ∧ (p.2 < m ∨ p.2 = -1)) →
    (∀ p ∈ (order.foldl (stepL key feet pairs) (l, r)).2, -1 ≤ p.2 ∧ (p.2 < m ∨ p.2 = -1)) ∧ (order.foldl (stepL key feet pairs) (l, r)).2.map (·.1) = r.map (·.1) ++ order
  | [], l, r, _, hr => ⟨hr, by simp⟩
  | g :: order, l, r, hl, hr => by
    rw [List.foldl_cons]
    have hb : ∀ (l : List Int) (b : Int), (b = -1 ∨ (0 ≤ b ∧ b < m)) → (∀ x ∈ l, 0 ≤ x ∧ x < m) → (l.foldl (bestS key fun j => decide (getI feet g ≤ getI pairs j)) b = -1 ∨ (0 ≤ l.foldl (bestS key fun j => decide (getI feet g ≤ getI pairs j)) b ∧ l.foldl (bestS key fun j => decide (getI feet g ≤ getI pairs j)) b < m)) := by
      intro l
      induction l with
      | nil => intro b h _; exact h
      | cons y l ih =>
        intro b h hl
        rw [List.foldl_cons]
        refine ih _ ?_ fun x hx => hl x (by simp [hx])
        unfold bestS
        split
        · split
          · exact .inr (hl y (by simp))
          · exact h
        · exact h
    have h1 := hb l (-1) (.inl rfl) hl
    obtain ⟨a, b⟩ := stepL_ok key feet pairs m order (stepL key feet pairs (l, r) g).1 (stepL key feet pairs (l, r) g).2 (fun x hx => hl x (List.mem_filter.mp hx).1) (fun p hp => by
      rcases List.mem_append.mp hp with q | q
      · exact hr p q
      · rw [List.mem_singleton.mp q]
        rcases h1 with h1 | h1
        · rw [h1]; exact ⟨Int.le_refl _, .inr rfl⟩
        · exact ⟨Int.le_trans (by decide) h1.1, .inl h1.2⟩)
    refine ⟨a, b.trans ?_⟩
    unfold stepL
    simp
theorem ruled_ok (key : Int → Int) (feet pairs order : List Int) : (∀ p ∈ ruled key feet pairs order, -1 ≤ p.2 ∧ (p.2 < pairs.length ∨ p.2 = -1)) ∧ (ruled key feet pairs order).map (·.1) = order := by
  have := stepL_ok key feet pairs pairs.length order (intsN pairs.length) [] (fun x hx => mem_intsN hx) (fun _ h => nomatch h)
  exact ⟨this.1, this.2.trans (by simp)⟩
theorem tame_runD {r : List (Int × Int)} {m k : Nat} (h1 : ∀ p ∈ r, 0 ≤ p.1 ∧ p.1 < (k : Int)) (h2 : ∀ p ∈ r, -1 ≤ p.2 ∧ (p.2 < (m : Int) ∨ p.2 = -1)) (hm : m ≤ 40) (hk : k ≤ 40) (hl : r.length ≤ 40) : Tame 2400 2 (.tuple (r.map prD)) :=
  (tame_tuple (l := 40) (fun d hd => by
    obtain ⟨p, hp, rfl⟩ := List.mem_map.mp hd
    have := h1 p hp
    have := h2 p hp
    exact tame_two (by omega) (by omega)) (by rw [List.length_map]; exact hl)).mono (by decide) (by decide)
abbrev InR (m : Nat) (l : List Int) : Prop := ∀ j ∈ l, 0 ≤ j ∧ j < (m : Int)
theorem tame_ho {feet pairs os : List Int} (hh : HallOk feet pairs) (ho : InR feet.length os) (hl : os.length ≤ 40) : Tame 1000000 60 (.list [hallD feet pairs, .tuple (os.map .int)]) :=
  (tame_list (m := 3000) (k := 2) (l := 2) (fun d hd => by
    simp only [List.mem_cons, List.not_mem_nil, or_false] at hd
    rcases hd with rfl | rfl
    · exact tame_hall (by decide) hh.fi hh.pi hh.f2 hh.p2
    · exact (tame_tuple (l := 40) (tame_ints (ns := os) (m := 20) (fun n hn => by have := ho n hn; have := hh.f2; omega) (by decide) (by decide)) (by rw [List.length_map]; exact hl)).mono (by decide) (by decide)) (by show 2 ≤ 2; exact Nat.le_refl 2)).mono (by decide) (by decide)
theorem cons_erase {α : Type} : ∀ {l : List α} {k : Nat} (h : k < l.length), (l[k] :: l.eraseIdx k).Perm l
  | a :: l, 0, _ => List.Perm.refl _
  | a :: l, k + 1, h => by
    have ih := cons_erase (l := l) (k := k) (by simpa using h)
    show (l[k]'(by simpa using h) :: a :: l.eraseIdx k).Perm (a :: l)
    exact (List.Perm.swap _ _ _).trans (ih.cons a)
theorem eqv_int (a b : Int) : PyData.eqv (.int a) (.int b) = decide (a = b) := by rfl
theorem enum_ints (xs : List Int) : enumD (xs.map .int) = (intsN xs.length).map fun j => .tuple [.int j, .int (getI xs j)] := by
  apply List.ext_getElem?
  intro i
  unfold enumD intsN getI
  simp only [List.getElem?_map, List.getElem?_zipIdx, List.map_map]
  by_cases h : i < xs.length
  · simp [h]
  · simp [h]
theorem atI0 (j : Int) (js : List Int) : atI ((j :: js).map PyData.int) 0 = some (.int j) := by
  unfold atI ixN
  rw [if_pos (Int.le_refl 0), if_pos (by rw [List.length_map, List.length_cons]; omega)]
  rfl
theorem eraseIdx_map' {α β : Type} (f : α → β) : ∀ (l : List α) (k : Nat), (l.map f).eraseIdx k = (l.eraseIdx k).map f
  | [], _ => by simp
  | a :: l, 0 => rfl
  | a :: l, k + 1 => by simp [eraseIdx_map' f l k]

/-- a run, as pairs of numbers -/
structure RunOk (f p : Nat) (run : List (Int × Int)) : Prop where
  g : (run.map (·.1)).Perm (intsN f)
  s : ∀ q ∈ run, -1 ≤ q.2 ∧ (q.2 < (p : Int) ∨ q.2 = -1)
theorem intsN_len (m : Nat) : (intsN m).length = m := by simp [intsN]
theorem RunOk.len {f p : Nat} {run : List (Int × Int)} (h : RunOk f p run) : run.length = f := by
  have := h.g.length_eq
  rwa [List.length_map, intsN_len] at this
theorem RunOk.nd {f p : Nat} {run : List (Int × Int)} (h : RunOk f p run) : (run.map (·.1)).Nodup := h.g.nodup_iff.mpr ((intsN_lt f).imp fun h => Int.ne_of_lt h)
theorem RunOk.fst {f p : Nat} {run : List (Int × Int)} (h : RunOk f p run) {q : Int × Int} (hq : q ∈ run) : 0 ≤ q.1 ∧ q.1 < (f : Int) := mem_intsN (h.g.mem_iff.mp (List.mem_map_of_mem hq))
theorem nd_fst {run : List (Int × Int)} (h : (run.map (·.1)).Nodup) {q r : Int × Int} (hq : q ∈ run) (hr : r ∈ run) (e : q.1 = r.1) : q = r := by
  induction run with
  | nil => cases hq
  | cons a l ih =>
    rw [List.map_cons, List.nodup_cons] at h
    rcases List.mem_cons.mp hq with q1 | q1 <;> rcases List.mem_cons.mp hr with r1 | r1
    · rw [q1, r1]
    · exact absurd (by rw [← q1, e]; exact List.mem_map_of_mem r1) h.1
    · exact absurd (by rw [← r1, ← e]; exact List.mem_map_of_mem q1) h.1
    · exact ih h.2 q1 r1
def shodL (f : Nat) (run : List (Int × Int)) : List Int := (intsN f).filter fun g => run.any fun q => decide (q.1 = g ∧ q.2 ≠ -1)
def leftL (p : Nat) (run : List (Int × Int)) : List Int := (intsN p).filter fun j => !(run.any fun q => decide (q.2 = j))
theorem sorted_uniq : ∀ {l m : List Int}, l.Perm m → l.Pairwise (· ≤ ·) → m.Pairwise (· ≤ ·) → l = m
  | [], m, hp, _, _ => hp.nil_eq
  | a :: l, [], hp, _, _ => hp.eq_nil
  | a :: l, b :: m, hp, h1, h2 => by
    obtain ⟨p1, p2⟩ := List.pairwise_cons.mp h1
    obtain ⟨q1, q2⟩ := List.pairwise_cons.mp h2
    have e : a = b := by
      have ha : a ∈ b :: m := hp.mem_iff.mp (by simp)
      have hb : b ∈ a :: l := hp.mem_iff.mpr (by simp)
      rcases List.mem_cons.mp ha with h | h
      · exact h
      · rcases List.mem_cons.mp hb with h' | h'
        · exact h'.symm
        · exact Int.le_antisymm (p1 b h') (q1 a h)
    subst e
    rw [sorted_uniq hp.cons_inv p2 q2]
theorem shod_uniq {f p : Nat} {run : List (Int × Int)} (h : RunOk f p run) {ns : List Int} (hp : ns.Perm ((run.filter fun q => decide (q.2 ≠ -1)).map (·.1))) (hs : ns.Pairwise (· ≤ ·)) : ns = shodL f run := by
  have nd2 : ((run.filter fun q => decide (q.2 ≠ -1)).map (·.1)).Nodup := h.nd.sublist ((List.filter_sublist).map _)
  have srt : (shodL f run).Pairwise (· < ·) := (intsN_lt f).filter _
  refine sorted_uniq (hp.trans ?_) hs (srt.imp fun h => Int.le_of_lt h)
  refine (List.perm_ext_iff_of_nodup nd2 (srt.imp fun h => Int.ne_of_lt h)).mpr fun g => ?_
  unfold shodL
  rw [List.mem_filter, List.mem_map, List.any_eq_true]
  constructor
  · rintro ⟨q, hq, rfl⟩
    obtain ⟨q1, q2⟩ := List.mem_filter.mp hq
    exact ⟨h.g.mem_iff.mp (List.mem_map_of_mem q1), q, q1, decide_eq_true ⟨rfl, of_decide_eq_true q2⟩⟩
  · rintro ⟨_, q, q1, q2⟩
    obtain ⟨rfl, q3⟩ := of_decide_eq_true q2
    exact ⟨q, List.mem_filter.mpr ⟨q1, decide_eq_true q3⟩, rfl⟩
theorem rng_ints (m : Nat) : rngD 0 ((m : Nat) : Int).toNat = (intsN m).map PyData.int := by
  unfold rngD intsN
  rw [List.map_map, Int.toNat_natCast]
  exact List.map_congr_left fun k _ => by show PyData.int (0 + (k : Int)) = PyData.int k; rw [Int.zero_add]
theorem any_eqv (l : List Int) (x : Int) : ((l.map PyData.int).any fun z => PyData.eqv z (.int x)) = l.any fun y => decide (y = x) := by
  rw [List.any_map]
  rfl
theorem getI_mem {xs : List Int} {j : Int} (h0 : 0 ≤ j) (h1 : j < xs.length) : getI xs j ∈ xs := by
  have hj : j.toNat < xs.length := by omega
  unfold getI
  rw [List.getElem?_eq_getElem hj]
  exact List.getElem_mem hj
theorem sh_int (i : Int) : Sh (.int i) := rfl
def oD (o : Option PyData) : Option Dv := o.map .dat
theorem oD_md {o : Option PyData} {b : Addr} {ks : List (Key × V)} : (oD o = some (.md b ks)) = False := by
  cases o <;> simp [oD]
theorem tame_hr {feet pairs : List Int} {run : List (Int × Int)} (hh : HallOk feet pairs) (hr : RunOk feet.length pairs.length run) : Tame 1000000 60 (.list [hallD feet pairs, .tuple (run.map prD)]) :=
  (tame_list (m := 3000) (k := 2) (l := 2) (fun d hd => by
    simp only [List.mem_cons, List.not_mem_nil, or_false] at hd
    rcases hd with rfl | rfl
    · exact tame_hall (by decide) hh.fi hh.pi hh.f2 hh.p2
    · exact (tame_runD (m := pairs.length) (k := feet.length) (fun p hp => hr.fst hp) hr.s hh.p2 hh.f2 (by rw [hr.len]; exact hh.f2)).mono (by decide) (by decide)) (by show 2 ≤ 2; exact Nat.le_refl 2)).mono (by decide) (by decide)
theorem tame_sub {l : List Int} {m : Nat} (h : ∀ x ∈ l, 0 ≤ x ∧ x < (m : Int)) (hl : l.length ≤ 40) (hm : m ≤ 40) : Tame 3000 1 (.tuple (l.map .int)) :=
  (tame_tuple (l := 40) (tame_ints (ns := l) (m := 20) (fun n hn => by have := h n hn; omega) (by decide) (by decide)) (by rw [List.length_map]; exact hl)).mono (by decide) (by decide)

theorem pick4 {a b c e : PyData} {r : Int} (h0 : 0 ≤ r) (h1 : r < 4) : ∃ d, atI [a, b, c, e] r = some d ∧ (d = a ∨ d = b ∨ d = c ∨ d = e) := by
  obtain ⟨d, h, hm⟩ := atI_mem (xs := [a, b, c, e]) h0 (by simpa using h1)
  exact ⟨d, h, by simpa using hm⟩
theorem flat_one {α : Type} (a : α) : ∀ n : Nat, (List.replicate n [a]).flatten = List.replicate n a
  | 0 => rfl
  | n + 1 => by rw [List.replicate_succ, List.flatten_cons, flat_one a n]; rfl

/-- a pair fits a guest -/
def fitG (feet pairs : List Int) (g j : Int) : Bool := decide (getI feet g ≤ getI pairs j)
/-- how the guests go: each takes a pair that fits, that the rule likes, or there is none -/
def Gs (rl : Int → Int → Prop) (feet pairs : List Int) : List Int → List (Int × Int) → Prop
  | _, [] => True
  | left, q :: r => ((∀ j ∈ left, fitG feet pairs q.1 j = false) ∧ q.2 = -1 ∧ Gs rl feet pairs left r) ∨
      (q.2 ∈ left ∧ fitG feet pairs q.1 q.2 = true ∧ (∀ i ∈ left, fitG feet pairs q.1 i = true → rl q.2 i) ∧ Gs rl feet pairs (left.erase q.2) r)
def srv (run : List (Int × Int)) : Nat := (run.filter fun q => decide (q.2 ≠ -1)).length
theorem srv_cons (q : Int × Int) (r : List (Int × Int)) : srv (q :: r) = srv r + if q.2 = -1 then 0 else 1 := by
  unfold srv
  rw [List.filter_cons]
  by_cases h : q.2 = -1
  · rw [if_pos h, if_neg (by simp [h])]; rfl
  · rw [if_neg h, if_pos (by simpa using h)]; rfl
theorem Gs.mono {rl rl' : Int → Int → Prop} {feet pairs : List Int} (h : ∀ a b, rl a b → rl' a b) : ∀ {run : List (Int × Int)} {left : List Int}, Gs rl feet pairs left run → Gs rl' feet pairs left run
  | [], _, _ => trivial
  | q :: r, left, g => by
    rcases g with ⟨a, b, c⟩ | ⟨a, b, c, d⟩
    · exact .inl ⟨a, b, c.mono h⟩
    · exact .inr ⟨a, b, fun i hi hf => h _ _ (c i hi hf), d.mono h⟩
theorem Gs.perm {rl : Int → Int → Prop} {feet pairs : List Int} : ∀ {run : List (Int × Int)} {left left' : List Int}, left.Perm left' → Gs rl feet pairs left run → Gs rl feet pairs left' run
  | [], _, _, _, _ => trivial
  | q :: r, left, left', hp, g => by
    rcases g with ⟨a, b, c⟩ | ⟨a, b, c, d⟩
    · exact .inl ⟨fun j hj => a j (hp.mem_iff.mpr hj), b, c.perm hp⟩
    · exact .inr ⟨hp.mem_iff.mp a, b, fun i hi => c i (hp.mem_iff.mpr hi), d.perm (hp.erase _)⟩
/-- feet and sizes that are still there -/
def ftR (feet : List Int) (run : List (Int × Int)) : List Int := run.map fun q => getI feet q.1
def szL (pairs left : List Int) : List Int := left.map (getI pairs)
theorem cP_erase (pairs : List Int) {left : List Int} {j : Int} (h : j ∈ left) (s : Int) : cP (szL pairs left) s = cP (szL pairs (left.erase j)) s + if s ≤ getI pairs j then 1 else 0 := by
  have := (List.perm_cons_erase h).map (getI pairs)
  unfold szL
  rw [cP_perm this, List.map_cons, cP_cons]
theorem cP_mono (l : List Int) {s t : Int} (h : s ≤ t) : cP l t ≤ cP l s := by
  unfold cP
  rw [← List.countP_eq_length_filter, ← List.countP_eq_length_filter]
  exact List.countP_mono_left fun x _ hx => decide_eq_true (Int.le_trans h (of_decide_eq_true hx))
theorem cF_mono (l : List Int) {s t : Int} (h : s ≤ t) : cF l s ≤ cF l t := by
  unfold cF
  rw [← List.countP_eq_length_filter, ← List.countP_eq_length_filter]
  exact List.countP_mono_left fun x _ hx => decide_eq_true (Int.lt_of_lt_of_le (of_decide_eq_true hx) h)
theorem ne_of_left {left : List Int} (hn : ∀ j ∈ left, 0 ≤ j) {j : Int} (h : j ∈ left) : ¬ j = -1 := by have := hn j h; omega
theorem none_cP {feet pairs left : List Int} {g : Int} (a : ∀ j ∈ left, fitG feet pairs g j = false) : cP (szL pairs left) (getI feet g) = 0 := cP_zero fun x hx => by
  obtain ⟨j, hj, rfl⟩ := List.mem_map.mp hx
  have := of_decide_eq_false (a j hj)
  omega
/-- in each run at most as many are served as every size tells -/
theorem gs_upper {rl : Int → Int → Prop} {feet pairs : List Int} : ∀ {run : List (Int × Int)} {left : List Int}, (∀ j ∈ left, 0 ≤ j) → Gs rl feet pairs left run → ∀ s, srv run ≤ cF (ftR feet run) s + cP (szL pairs left) s
  | [], _, _, _, _ => Nat.zero_le _
  | q :: r, left, hn, g, s => by
    rw [srv_cons]
    show _ ≤ cF (getI feet q.1 :: ftR feet r) s + _
    rw [cF_cons]
    rcases g with ⟨_, b, c⟩ | ⟨a, b, _, d⟩
    · rw [if_pos b]
      have := gs_upper hn c s
      omega
    · have := gs_upper (fun j hj => hn j (List.mem_of_mem_erase hj)) d s
      rw [if_neg (ne_of_left hn a), cP_erase pairs a]
      have := of_decide_eq_true b
      split <;> split <;> omega
/-- .. and at least as many as some size tells -/
theorem gs_lower {rl : Int → Int → Prop} {feet pairs : List Int} (top : Int) : ∀ {run : List (Int × Int)} {left : List Int}, (∀ j ∈ left, 0 ≤ j) → (∀ j ∈ left, getI pairs j < top) → Gs rl feet pairs left run → ∃ s, max (cF (ftR feet run) s) (cP (szL pairs left) s) ≤ srv run
  | [], left, _, ht, _ => ⟨top, by
    have : cP (szL pairs left) top = 0 := cP_zero fun x hx => by obtain ⟨j, hj, rfl⟩ := List.mem_map.mp hx; exact ht j hj
    rw [this]
    exact Nat.le_refl _⟩
  | q :: r, left, hn, ht, g => by
    rw [srv_cons]
    rcases g with ⟨a, b, c⟩ | ⟨a, b, _, d⟩
    · rw [if_pos b]
      obtain ⟨s, hs⟩ := gs_lower top hn ht c
      by_cases h : s ≤ getI feet q.1
      · refine ⟨s, ?_⟩
        show max (cF (getI feet q.1 :: ftR feet r) s) _ ≤ _
        rw [cF_cons, if_neg (by omega)]
        exact hs
      · refine ⟨getI feet q.1, ?_⟩
        show max (cF (getI feet q.1 :: ftR feet r) _) _ ≤ _
        rw [cF_cons, if_neg (by omega), none_cP a]
        have := cF_mono (ftR feet r) (s := getI feet q.1) (t := s) (by omega)
        omega
    · rw [if_neg (ne_of_left hn a)]
      obtain ⟨s, hs⟩ := gs_lower top (fun j hj => hn j (List.mem_of_mem_erase hj)) (fun j hj => ht j (List.mem_of_mem_erase hj)) d
      refine ⟨s, ?_⟩
      show max (cF (getI feet q.1 :: ftR feet r) s) _ ≤ _
      rw [cF_cons, cP_erase pairs a]
      split <;> split <;> omega
/-- if all take the smallest pair, some size tells just their number -/
theorem gs_small {feet pairs : List Int} (top : Int) : ∀ {run : List (Int × Int)} {left : List Int}, (∀ j ∈ left, 0 ≤ j) → (∀ j ∈ left, getI pairs j < top) → Gs (fun a b => getI pairs a ≤ getI pairs b) feet pairs left run → ∃ s, cF (ftR feet run) s + cP (szL pairs left) s ≤ srv run
  | [], left, _, ht, _ => ⟨top, by
    have : cP (szL pairs left) top = 0 := cP_zero fun x hx => by obtain ⟨j, hj, rfl⟩ := List.mem_map.mp hx; exact ht j hj
    rw [this]
    exact Nat.le_refl _⟩
  | q :: r, left, hn, ht, g => by
    rw [srv_cons]
    rcases g with ⟨a, b, c⟩ | ⟨a, b, e, d⟩
    · rw [if_pos b]
      obtain ⟨s, hs⟩ := gs_small top hn ht c
      by_cases h : s ≤ getI feet q.1
      · refine ⟨s, ?_⟩
        show cF (getI feet q.1 :: ftR feet r) s + _ ≤ _
        rw [cF_cons, if_neg (by omega)]
        exact hs
      · refine ⟨getI feet q.1, ?_⟩
        show cF (getI feet q.1 :: ftR feet r) _ + _ ≤ _
        rw [cF_cons, if_neg (by omega), none_cP a]
        have := cF_mono (ftR feet r) (s := getI feet q.1) (t := s) (by omega)
        omega
    · rw [if_neg (ne_of_left hn a)]
      have hb := of_decide_eq_true b
      obtain ⟨s, hs⟩ := gs_small top (fun j hj => hn j (List.mem_of_mem_erase hj)) (fun j hj => ht j (List.mem_of_mem_erase hj)) d
      by_cases h : getI feet q.1 < s ∧ s ≤ getI pairs q.2
      · refine ⟨getI feet q.1, ?_⟩
        show cF (getI feet q.1 :: ftR feet r) _ + _ ≤ _
        rw [cF_cons, if_neg (by omega), cP_erase pairs a, if_pos hb]
        have h1 := cF_mono (ftR feet r) (s := getI feet q.1) (t := s) (by omega)
        have h2 : cP (szL pairs (left.erase q.2)) (getI feet q.1) ≤ cP (szL pairs (left.erase q.2)) s := by
          unfold cP
          rw [← List.countP_eq_length_filter, ← List.countP_eq_length_filter]
          refine List.countP_mono_left fun x hx hq => ?_
          obtain ⟨i, hi, rfl⟩ := List.mem_map.mp hx
          have := e i (List.mem_of_mem_erase hi) hq
          exact decide_eq_true (by omega)
        omega
      · refine ⟨s, ?_⟩
        show cF (getI feet q.1 :: ftR feet r) s + _ ≤ _
        rw [cF_cons, cP_erase pairs a]
        split <;> split <;> omega
/-- if the feet ascend and all take the largest pair, no more are served than every size tells -/
theorem gs_large {feet pairs : List Int} : ∀ {run : List (Int × Int)} {left : List Int}, (∀ j ∈ left, 0 ≤ j) → (ftR feet run).Pairwise (· ≤ ·) → Gs (fun a b => getI pairs b ≤ getI pairs a) feet pairs left run → ∀ s, srv run ≤ max (cF (ftR feet run) s) (cP (szL pairs left) s)
  | [], _, _, _, _, _ => Nat.zero_le _
  | q :: r, left, hn, hp, g, s => by
    rw [srv_cons]
    obtain ⟨p1, p2⟩ : (∀ x ∈ ftR feet r, getI feet q.1 ≤ x) ∧ (ftR feet r).Pairwise (· ≤ ·) := List.pairwise_cons.mp hp
    show _ ≤ max (cF (getI feet q.1 :: ftR feet r) s) _
    rw [cF_cons]
    rcases g with ⟨a, b, c⟩ | ⟨a, b, e, d⟩
    · rw [if_pos b]
      have h0 := gs_large hn p2 c (getI feet q.1)
      rw [none_cP a, cF_zero p1] at h0
      omega
    · rw [if_neg (ne_of_left hn a)]
      have hb := of_decide_eq_true b
      have hs := gs_large (fun j hj => hn j (List.mem_of_mem_erase hj)) p2 d s
      rw [cP_erase pairs a]
      by_cases h1 : s ≤ getI feet q.1
      · rw [if_neg (show ¬ getI feet q.1 < s by omega), if_pos (show s ≤ getI pairs q.2 by omega)]
        have : cF (ftR feet r) s = 0 := cF_zero fun x hx => Int.le_trans h1 (p1 x hx)
        omega
      · by_cases h2 : s ≤ getI pairs q.2
        · rw [if_pos (show getI feet q.1 < s by omega), if_pos h2]; omega
        · rw [if_pos (show getI feet q.1 < s by omega), if_neg h2]
          have : cP (szL pairs (left.erase q.2)) s = 0 := cP_zero fun x hx => by
            obtain ⟨i, hi, rfl⟩ := List.mem_map.mp hx
            have hi' := List.mem_of_mem_erase hi
            by_cases f : fitG feet pairs q.1 i = true
            · have := e i hi' f; omega
            · have := of_decide_eq_false (Bool.eq_false_iff.mpr f); omega
          omega
/-- the guests one after another, by a list of liking -/
def byL (feet pairs : List Int) : List Int → List Int → List (Int × Int)
  | _, [] => []
  | left, g :: order =>
    match left.filter fun j => decide (getI feet g ≤ getI pairs j) with
    | [] => (g, -1) :: byL feet pairs left order
    | j :: _ => (g, j) :: byL feet pairs (left.erase j) order
theorem byL_nil {feet pairs left : List Int} {g : Int} {order : List Int} (e : (left.filter fun j => decide (getI feet g ≤ getI pairs j)) = []) : byL feet pairs left (g :: order) = (g, -1) :: byL feet pairs left order := by
  rw [byL]; simp only [e]
theorem byL_cons {feet pairs left : List Int} {g j : Int} {js order : List Int} (e : (left.filter fun j => decide (getI feet g ≤ getI pairs j)) = j :: js) : byL feet pairs left (g :: order) = (g, j) :: byL feet pairs (left.erase j) order := by
  rw [byL]; simp only [e]
theorem byL_fold (feet pairs : List Int) : ∀ (order left : List Int) (r : List (Int × Int)), (order.foldl (stepF feet pairs) (left, r)).2 = r ++ byL feet pairs left order
  | [], _, r => by simp [byL]
  | g :: order, left, r => by
    rw [List.foldl_cons]
    cases e : left.filter fun j => decide (getI feet g ≤ getI pairs j) with
    | nil =>
      rw [show stepF feet pairs (left, r) g = (left, r ++ [(g, -1)]) by unfold stepF; simp only [e], byL_fold feet pairs order, byL_nil e, List.append_assoc]
      rfl
    | cons j js =>
      rw [show stepF feet pairs (left, r) g = (left.erase j, r ++ [(g, j)]) by unfold stepF; simp only [e], byL_fold feet pairs order, byL_cons e, List.append_assoc]
      rfl
theorem byL_fst (feet pairs : List Int) : ∀ (order left : List Int), (byL feet pairs left order).map (·.1) = order
  | [], _ => rfl
  | g :: order, left => by
    unfold byL
    split
    · rw [List.map_cons, byL_fst feet pairs order]
    · rw [List.map_cons, byL_fst feet pairs order]
theorem byL_gs {rl : Int → Int → Prop} (hr : ∀ a, rl a a) (feet pairs : List Int) : ∀ (order left : List Int), left.Pairwise rl → Gs rl feet pairs left (byL feet pairs left order)
  | [], _, _ => trivial
  | g :: order, left, hp => by
    unfold byL
    split
    · rename_i e
      refine .inl ⟨fun j hj => ?_, rfl, byL_gs hr feet pairs order left hp⟩
      have := List.filter_eq_nil_iff.mp e j hj
      exact Bool.eq_false_iff.mpr this
    · rename_i j js e
      have hj : j ∈ left.filter fun j => decide (getI feet g ≤ getI pairs j) := by rw [e]; simp
      obtain ⟨h1, h2⟩ := List.mem_filter.mp hj
      refine .inr ⟨h1, h2, fun i hi hf => ?_, byL_gs hr feet pairs order (left.erase j) (hp.sublist List.erase_sublist)⟩
      have hi : i ∈ left.filter fun j => decide (getI feet g ≤ getI pairs j) := List.mem_filter.mpr ⟨hi, hf⟩
      have hps := hp.filter fun j => decide (getI feet g ≤ getI pairs j)
      rw [e] at hi hps
      rcases List.mem_cons.mp hi with rfl | hi
      · exact hr _
      · exact (List.pairwise_cons.mp hps).1 i hi
/-- a run of the hall -/
structure RunV (rl : Int → Int → Prop) (feet pairs : List Int) (run : List (Int × Int)) : Prop where
  g : (run.map (·.1)).Perm (intsN feet.length)
  s : Gs rl feet pairs (intsN pairs.length) run
abbrev anyR : Int → Int → Prop := fun _ _ => True
theorem RunV.any {rl : Int → Int → Prop} {feet pairs : List Int} {run : List (Int × Int)} (h : RunV rl feet pairs run) : RunV anyR feet pairs run := ⟨h.g, h.s.mono fun _ _ _ => trivial⟩
theorem szL_ints (xs : List Int) : szL xs (intsN xs.length) = xs := by
  unfold szL intsN
  rw [List.map_map]
  apply List.ext_getElem?
  intro i
  rw [List.getElem?_map]
  by_cases h : i < xs.length
  · simp [h, getI]
  · simp [h]
theorem ftR_perm {rl : Int → Int → Prop} {feet pairs : List Int} {run : List (Int × Int)} (h : RunV rl feet pairs run) : (ftR feet run).Perm feet := by
  have := h.g.map (getI feet)
  rw [List.map_map] at this
  have e := szL_ints feet
  unfold szL at e
  rw [e] at this
  exact this
theorem run_le {rl : Int → Int → Prop} {feet pairs : List Int} {run : List (Int × Int)} (h : RunV rl feet pairs run) (s : Int) : srv run ≤ cF feet s + cP pairs s := by
  have := gs_upper (fun j hj => (mem_intsN hj).1) h.s s
  rwa [cF_perm (ftR_perm h), szL_ints] at this
theorem getI_lt {xs : List Int} {top : Int} (h : ∀ x ∈ xs, x < top) {j : Int} (hj : j ∈ intsN xs.length) : getI xs j < top := by
  have := mem_intsN hj
  have hk : j.toNat < xs.length := by omega
  unfold getI
  rw [List.getElem?_eq_getElem hk]
  exact h _ (List.getElem_mem hk)
theorem exists_top (xs : List Int) : ∃ top : Int, ∀ x ∈ xs, x < top := by
  induction xs with
  | nil => exact ⟨0, fun _ h => nomatch h⟩
  | cons a l ih =>
    obtain ⟨t, h⟩ := ih
    refine ⟨max (a + 1) t, fun x hx => ?_⟩
    rcases List.mem_cons.mp hx with rfl | hx
    · omega
    · have := h x hx; omega
theorem run_ge {rl : Int → Int → Prop} {feet pairs : List Int} {run : List (Int × Int)} (h : RunV rl feet pairs run) : ∃ s, max (cF feet s) (cP pairs s) ≤ srv run := by
  obtain ⟨top, ht⟩ := exists_top pairs
  obtain ⟨s, hs⟩ := gs_lower top (fun j hj => (mem_intsN hj).1) (fun j hj => getI_lt ht hj) h.s
  rw [cF_perm (ftR_perm h), szL_ints] at hs
  exact ⟨s, hs⟩
theorem run_most {rl : Int → Int → Prop} {feet pairs : List Int} {run : List (Int × Int)} (h : RunV rl feet pairs run) {m : Int} (hm : IsMost feet pairs m) : (srv run : Int) ≤ m := by
  obtain ⟨⟨s, e⟩, _⟩ := hm
  have := run_le h s
  omega
theorem run_few {rl : Int → Int → Prop} {feet pairs : List Int} {run : List (Int × Int)} (h : RunV rl feet pairs run) {m : Int} (hm : IsFew feet pairs m) : m ≤ (srv run : Int) := by
  obtain ⟨s, e⟩ := run_ge h
  have := hm.2 s
  omega
theorem run_small {feet pairs : List Int} {run : List (Int × Int)} (h : RunV (fun a b => getI pairs a ≤ getI pairs b) feet pairs run) {m : Int} (hm : IsMost feet pairs m) : (srv run : Int) = m := by
  obtain ⟨top, ht⟩ := exists_top pairs
  obtain ⟨s, hs⟩ := gs_small top (fun j hj => (mem_intsN hj).1) (fun j hj => getI_lt ht hj) h.s
  rw [cF_perm (ftR_perm h), szL_ints] at hs
  have := hm.2 s
  have := run_most h hm
  omega
theorem run_large {feet pairs : List Int} {run : List (Int × Int)} (h : RunV (fun a b => getI pairs b ≤ getI pairs a) feet pairs run) (hs : (ftR feet run).Pairwise (· ≤ ·)) {m : Int} (hm : IsFew feet pairs m) : (srv run : Int) = m := by
  obtain ⟨s, e⟩ := hm.1
  have h1 := gs_large (fun j hj => (mem_intsN hj).1) hs h.s s
  rw [cF_perm (ftR_perm h), szL_ints] at h1
  have := run_few h hm
  omega

/-! explicit orders -/
instance (key : Int → Int) (a b : Int) : Decidable (Lx key a b) := inferInstanceAs (Decidable (_ ∨ _))
def likeO (key : Int → Int) (m : Nat) : List Int := (intsN m).mergeSort fun a b => decide (Lx key a b)
theorem likeO_perm (key : Int → Int) (m : Nat) : (likeO key m).Perm (intsN m) := List.mergeSort_perm _ _
theorem likeO_sorted (key : Int → Int) (m : Nat) : (likeO key m).Pairwise (Lx key) := by
  refine (List.pairwise_mergeSort (fun a b c h1 h2 => ?_) (fun a b => ?_) (intsN m)).imp fun h => of_decide_eq_true h
  · have h1 := of_decide_eq_true h1
    have h2 := of_decide_eq_true h2
    refine decide_eq_true ?_
    unfold Lx at *
    omega
  · rw [Bool.or_eq_true, decide_eq_true_eq, decide_eq_true_eq]
    unfold Lx
    omega
theorem Lx_uniq {key : Int → Int} : ∀ {l m : List Int}, l.Perm m → l.Pairwise (Lx key) → m.Pairwise (Lx key) → l = m
  | [], m, hp, _, _ => hp.nil_eq
  | a :: l, [], hp, _, _ => hp.eq_nil
  | a :: l, b :: m, hp, h1, h2 => by
    obtain ⟨p1, p2⟩ := List.pairwise_cons.mp h1
    obtain ⟨q1, q2⟩ := List.pairwise_cons.mp h2
    have e : a = b := by
      have ha : a ∈ b :: m := hp.mem_iff.mp (by simp)
      have hb : b ∈ a :: l := hp.mem_iff.mpr (by simp)
      rcases List.mem_cons.mp ha with h | h
      · exact h
      · rcases List.mem_cons.mp hb with h' | h'
        · exact h'.symm
        · have x := p1 b h'
          have y := q1 a h
          unfold Lx at x y
          omega
    subst e
    rw [Lx_uniq hp.cons_inv p2 q2]
theorem ruled_byL (key : Int → Int) (feet pairs order : List Int) : ruled key feet pairs order = byL feet pairs (likeO key pairs.length) order := by
  unfold ruled
  rw [← run_same key feet pairs order (likeO key pairs.length) (intsN pairs.length) [] (likeO_perm _ _) (likeO_sorted _ _) (intsN_lt _) fun x hx => (mem_intsN hx).1, byL_fold]
  rfl
theorem ruled_runV (key : Int → Int) (feet pairs : List Int) {order : List Int} (h : order.Perm (intsN feet.length)) : RunV (Lx key) feet pairs (ruled key feet pairs order) := by
  rw [ruled_byL]
  exact ⟨by rw [byL_fst]; exact h, (byL_gs (fun a => .inr ⟨rfl, Int.le_refl a⟩) feet pairs order _ (likeO_sorted _ _)).perm (likeO_perm _ _)⟩
theorem ruled_small (feet pairs : List Int) {order : List Int} (h : order.Perm (intsN feet.length)) : RunV (fun a b => getI pairs a ≤ getI pairs b) feet pairs (ruled (getI pairs) feet pairs order) :=
  let r := ruled_runV (getI pairs) feet pairs h
  ⟨r.g, r.s.mono fun a b h => by unfold Lx at h; omega⟩
theorem ruled_large (feet pairs : List Int) {order : List Int} (h : order.Perm (intsN feet.length)) : RunV (fun a b => getI pairs b ≤ getI pairs a) feet pairs (ruled (fun j => -getI pairs j) feet pairs order) :=
  let r := ruled_runV (fun j => -getI pairs j) feet pairs h
  ⟨r.g, r.s.mono fun a b h => by unfold Lx at h; simp only at h; omega⟩
def obf (feet : List Int) : List Int := likeO (getI feet) feet.length
theorem obf_perm (feet : List Int) : (obf feet).Perm (intsN feet.length) := likeO_perm _ _
theorem obf_rise (feet pairs : List Int) (key : Int → Int) : (ftR feet (ruled key feet pairs (obf feet))).Pairwise (· ≤ ·) := by
  have e : ftR feet (ruled key feet pairs (obf feet)) = (obf feet).map (getI feet) := by
    unfold ftR
    rw [ruled_byL]
    conv => rhs; rw [← byL_fst feet pairs (obf feet) (likeO key pairs.length), List.map_map]
    rfl
  rw [e, List.pairwise_map]
  exact (likeO_sorted _ _).imp fun h => by unfold Lx at h; omega
theorem obf_few (feet pairs : List Int) {m : Int} (hm : IsFew feet pairs m) : (srv (ruled (fun j => -getI pairs j) feet pairs (obf feet)) : Int) = m :=
  run_large (ruled_large feet pairs (obf_perm feet)) (obf_rise _ _ _) hm
/-- sorted, each once -/
def insU (a : Int) : List Int → List Int
  | [] => [a]
  | b :: l => if a < b then a :: b :: l else if a = b then b :: l else b :: insU a l
theorem mem_insU {a x : Int} : ∀ {l : List Int}, x ∈ insU a l ↔ x = a ∨ x ∈ l
  | [] => by simp [insU]
  | b :: l => by
    unfold insU
    split
    · simp
    · split
      · rename_i h; subst h; simp
      · rw [List.mem_cons, mem_insU (l := l), List.mem_cons]
        constructor
        · rintro (h | h | h) <;> simp [h]
        · rintro (h | h | h) <;> simp [h]
theorem insU_sorted (a : Int) : ∀ {l : List Int}, l.Pairwise (· < ·) → (insU a l).Pairwise (· < ·)
  | [], _ => List.pairwise_singleton _ _
  | b :: l, h => by
    obtain ⟨h1, h2⟩ := List.pairwise_cons.mp h
    unfold insU
    split
    · rename_i hab
      exact List.pairwise_cons.mpr ⟨fun x hx => by
        rcases List.mem_cons.mp hx with rfl | hx
        · exact hab
        · exact Int.lt_trans hab (h1 x hx), h⟩
    · split
      · exact h
      · refine List.pairwise_cons.mpr ⟨fun x hx => ?_, insU_sorted a h2⟩
        rcases mem_insU.mp hx with rfl | hx
        · omega
        · exact h1 x hx
def sd (xs : List Int) : List Int := xs.foldr insU []
theorem sd_sorted : ∀ xs : List Int, (sd xs).Pairwise (· < ·)
  | [] => List.Pairwise.nil
  | x :: xs => insU_sorted x (sd_sorted xs)
theorem mem_sd {k : Int} : ∀ {xs : List Int}, k ∈ sd xs ↔ k ∈ xs
  | [] => Iff.rfl
  | x :: xs => by
    show k ∈ insU x (sd xs) ↔ _
    rw [mem_insU, mem_sd (xs := xs), List.mem_cons]
theorem sd_uniq {xs ms : List Int} (h : ms.Pairwise (· < ·)) (hm : ∀ k, k ∈ ms ↔ k ∈ xs) : ms = sd xs := by
  have hp : ms.Perm (sd xs) := (List.perm_ext_iff_of_nodup (h.imp fun h => Int.ne_of_lt h) ((sd_sorted xs).imp fun h => Int.ne_of_lt h)).mpr fun k => (hm k).trans mem_sd.symm
  exact Lx_uniq (key := id) hp (h.imp fun h => .inl h) ((sd_sorted xs).imp fun h => .inl h)
theorem insU_len (a : Int) : ∀ l, (insU a l).length ≤ l.length + 1
  | [] => Nat.le_refl _
  | b :: l => by
    have := insU_len a l
    unfold insU
    split
    · exact Nat.le_refl _
    · split
      · exact Nat.le_succ _
      · simpa using this
theorem sd_len : ∀ xs : List Int, (sd xs).length ≤ xs.length
  | [] => Nat.le_refl _
  | x :: xs => Nat.le_trans (insU_len x (sd xs)) (Nat.succ_le_succ (sd_len xs))

theorem like_of {key : Int → Int} {m : Nat} {qs : List (Int × Int)} (hp : qs.Perm ((intsN m).map fun j => (key j, j))) (hs : qs.Pairwise fun p q => p.1 < q.1 ∨ (p.1 = q.1 ∧ p.2 ≤ q.2)) : qs.map (·.2) = likeO key m := by
  have hp2 : (qs.map (·.2)).Perm (intsN m) := by
    have := hp.map (·.2)
    rw [List.map_map] at this
    rwa [show ((fun x : Int × Int => x.2) ∘ fun j => (key j, j)) = id from rfl, List.map_id] at this
  refine Lx_uniq (hp2.trans (likeO_perm key m).symm) ?_ (likeO_sorted key m)
  rw [List.pairwise_map]
  refine hs.imp_of_mem fun {a b} ha hb h => ?_
  obtain ⟨x, _, rfl⟩ := List.mem_map.mp (hp.mem_iff.mp ha)
  obtain ⟨y, _, rfl⟩ := List.mem_map.mp (hp.mem_iff.mp hb)
  exact h
theorem RunV.len {rl : Int → Int → Prop} {feet pairs : List Int} {run : List (Int × Int)} (h : RunV rl feet pairs run) : run.length = feet.length := by
  have := h.g.length_eq
  rwa [List.length_map, intsN_len] at this
theorem RunV.nd {rl : Int → Int → Prop} {feet pairs : List Int} {run : List (Int × Int)} (h : RunV rl feet pairs run) : (run.map (·.1)).Nodup := h.g.nodup_iff.mpr ((intsN_lt _).imp fun h => Int.ne_of_lt h)
theorem RunV.fst {rl : Int → Int → Prop} {feet pairs : List Int} {run : List (Int × Int)} (h : RunV rl feet pairs run) {q : Int × Int} (hq : q ∈ run) : 0 ≤ q.1 ∧ q.1 < (feet.length : Int) := mem_intsN (h.g.mem_iff.mp (List.mem_map_of_mem hq))
theorem gs_snd {rl : Int → Int → Prop} {feet pairs : List Int} : ∀ {run : List (Int × Int)} {left : List Int}, Gs rl feet pairs left run → ∀ q ∈ run, q.2 = -1 ∨ q.2 ∈ left
  | [], _, _, _, h => nomatch h
  | p :: r, left, g, q, hq => by
    rcases List.mem_cons.mp hq with rfl | hq
    · rcases g with ⟨_, b, _⟩ | ⟨a, _⟩
      · exact .inl b
      · exact .inr a
    · rcases g with ⟨_, _, c⟩ | ⟨_, _, _, d⟩
      · exact gs_snd c q hq
      · exact (gs_snd d q hq).imp id List.mem_of_mem_erase
theorem RunV.snd {rl : Int → Int → Prop} {feet pairs : List Int} {run : List (Int × Int)} (h : RunV rl feet pairs run) {q : Int × Int} (hq : q ∈ run) : -1 ≤ q.2 ∧ (q.2 < (pairs.length : Int) ∨ q.2 = -1) := by
  rcases gs_snd h.s q hq with e | e
  · exact ⟨by omega, .inr e⟩
  · have := mem_intsN e; exact ⟨by omega, .inl this.2⟩
def leftT (m : Nat) (taken : List Int) : List Int := (intsN m).filter fun j => decide (j ∉ taken)
theorem leftT_nil (m : Nat) : leftT m [] = intsN m := List.filter_eq_self.mpr fun x _ => by simp
theorem leftT_lt (m : Nat) (taken : List Int) : (leftT m taken).Pairwise (· < ·) := (intsN_lt m).filter _
theorem leftT_erase (m : Nat) (taken : List Int) (j : Int) : (leftT m taken).erase j = leftT m (taken ++ [j]) := by
  rw [erase_filter ((leftT_lt m taken).imp fun h => Int.ne_of_lt h)]
  unfold leftT
  rw [List.filter_filter]
  refine List.filter_congr fun x _ => ?_
  by_cases h : x = j <;> by_cases h2 : x ∈ taken <;> simp [h, h2]
theorem gs_step {rl : Int → Int → Prop} {feet pairs : List Int} {run : List (Int × Int)} {left : List Int} {k : Nat} {q : Int × Int} (hq : run[k]? = some q) (g : Gs rl feet pairs left (run.drop k)) :
    ((∀ j ∈ left, fitG feet pairs q.1 j = false) ∧ q.2 = -1 ∧ Gs rl feet pairs left (run.drop (k + 1))) ∨
      (q.2 ∈ left ∧ fitG feet pairs q.1 q.2 = true ∧ (∀ i ∈ left, fitG feet pairs q.1 i = true → rl q.2 i) ∧ Gs rl feet pairs (left.erase q.2) (run.drop (k + 1))) := by
  have hd : run.drop k = q :: run.drop (k + 1) := by
    obtain ⟨h1, h2⟩ := List.getElem?_eq_some_iff.mp hq
    rw [List.drop_eq_getElem_cons h1, h2]
  rw [hd] at g
  exact g
theorem ifN {b : Bool} {A B : Prop} (hb : b = true) (h : B) : if (!b) = true then A else B := by subst hb; exact h
theorem ifF {b : Bool} {A B : Prop} (hb : b = false) (h : B) : if b = true then A else B := by subst hb; exact iteF h
theorem ifT {b : Bool} {A B : Prop} (hb : b = true) (h : A) : if b = true then A else B := by subst hb; exact iteT h
theorem ifNF {b : Bool} {A B : Prop} (hb : b = false) (h : A) : if (!b) = true then A else B := by subst hb; exact h
theorem iteD {c A B : Prop} [Decidable c] (hc : c) (h : A) : if decide c = true then A else B := by rw [if_pos (decide_eq_true hc)]; exact h
theorem iteDF {c A B : Prop} [Decidable c] (hc : ¬ c) (h : B) : if decide c = true then A else B := by rw [if_neg (fun q => hc (of_decide_eq_true q))]; exact h
theorem isi_tt (ds : List PyData) : isiB (tyD (.tuple ds)) "tuple" = true := show isiB "tuple" "tuple" = true by decide +kernel
theorem isi_ii (i : Int) : isiB (tyD (.int i)) "int" = true := show isiB "int" "int" = true by decide +kernel
theorem isi_ib (i : Int) : isiB (tyD (.int i)) "bool" = false := show isiB "int" "bool" = false by decide +kernel
theorem isi_ss (i : Str) : isiB (tyD (.str i)) "str" = true := show isiB "str" "str" = true by decide +kernel
theorem isi_bb (i : Bool) : isiB (tyD (.bool i)) "bool" = true := show isiB "bool" "bool" = true by decide +kernel
theorem isi_bi (i : Bool) : isiB (tyD (.bool i)) "int" = true := show isiB "bool" "int" = true by decide +kernel
theorem neI {a b : Int} {A B : Prop} (e : a = b) (h : B) : if (!PyData.eqv (.int a) (.int b)) = true then A else B := ifN (by rw [eqv_int]; exact decide_eq_true e) h
theorem inF {l : List Int} {x : Int} {A B : Prop} (h : x ∉ l) (hB : B) : if ((l.map PyData.int).any fun z => PyData.eqv z (.int x)) = true then A else B := ifF (by
  rw [any_eqv, List.any_eq_false]
  intro y hy
  simp
  rintro rfl
  exact h hy) hB
theorem inT {l : List Int} {x : Int} : ((l.map PyData.int).any fun z => PyData.eqv z (.int x)) = decide (x ∈ l) := by
  rw [any_eqv]
  by_cases h : x ∈ l
  · rw [decide_eq_true h, List.any_eq_true]
    exact ⟨x, h, by simp⟩
  · rw [decide_eq_false h, List.any_eq_false]
    intro y hy
    simp
    rintro rfl
    exact h hy
theorem ninF {l : List Int} {x : Int} {A B : Prop} (h : x ∈ l) (hB : B) : if (!((l.map PyData.int).any fun z => PyData.eqv z (.int x))) = true then A else B := ifN (by rw [inT]; exact decide_eq_true h) hB
theorem ninT {l : List Int} {x : Int} {A B : Prop} (h : x ∉ l) (hB : A) : if (!((l.map PyData.int).any fun z => PyData.eqv z (.int x))) = true then A else B := ifNF (by rw [inT]; exact decide_eq_false h) hB
theorem eqv_int2 (a b : Int) : PyData.eqv (.int a) (.int b) = decide (a = b) := rfl
def runD (run : List (Int × Int)) : PyData := .tuple (run.map prD)
theorem tame_run {rl : Int → Int → Prop} {feet pairs : List Int} {run : List (Int × Int)} (hh : HallOk feet pairs) (h : RunV rl feet pairs run) : Tame 2400 2 (runD run) :=
  tame_runD (m := pairs.length) (k := feet.length) (fun p hp => h.fst hp) (fun p hp => h.snd hp) hh.p2 hh.f2 (by rw [h.len]; exact hh.f2)
theorem srv_take {run : List (Int × Int)} {k : Nat} {q : Int × Int} (hq : run[k]? = some q) : ((run.take (k + 1)).filter fun q => decide (q.2 ≠ -1)).map (·.2) = ((run.take k).filter fun q => decide (q.2 ≠ -1)).map (·.2) ++ if q.2 = -1 then [] else [q.2] := by
  rw [List.take_add_one, hq, List.filter_append, List.map_append]
  congr 1
  by_cases h : q.2 = -1 <;> simp [h]
/-- certificates -/
def wordAt (feet : List Int) (num s : Int) : Str := if num ≤ (cF feet s : Int) then "feet" else "pairs"
def largeR (feet pairs : List Int) : List (Int × Int) := ruled (fun j => -getI pairs j) feet pairs (obf feet)
def smallR (feet pairs : List Int) : List (Int × Int) := ruled (getI pairs) feet pairs (intsN feet.length)
def tableD (feet : List Int) (num : Int) : PyData := .tuple ((sd feet).map fun s => .str (wordAt feet num s))
def sureD (feet pairs : List Int) (m num : Int) : PyData := if m < num then .tuple [.str "run", runD (largeR feet pairs)] else .tuple [.str "table", tableD feet num]
def exc (feet pairs : List Int) (num : Int) : List Int := (sd feet ++ [1000001]).filter fun s => decide ((cF feet s : Int) + cP pairs s < num)
def posD (feet pairs : List Int) (num : Int) : PyData := match exc feet pairs num with
  | [] => .tuple [.str "run", runD (smallR feet pairs)]
  | s :: _ => .tuple [.str "size", .int s]
theorem large_v (feet pairs : List Int) : RunV (fun a b => getI pairs b ≤ getI pairs a) feet pairs (largeR feet pairs) := ruled_large feet pairs (obf_perm feet)
theorem small_v (feet pairs : List Int) : RunV (fun a b => getI pairs a ≤ getI pairs b) feet pairs (smallR feet pairs) := ruled_small feet pairs (List.Perm.refl _)
theorem large_n {feet pairs : List Int} {m : Int} (h : IsFew feet pairs m) : (srv (largeR feet pairs) : Int) = m := obf_few feet pairs h
theorem small_n {feet pairs : List Int} {m : Int} (h : IsMost feet pairs m) : (srv (smallR feet pairs) : Int) = m := run_small (small_v feet pairs) h
theorem exc_mem {feet pairs : List Int} (hh : HallOk feet pairs) {num s : Int} (h : s ∈ exc feet pairs num) : 1 ≤ s ∧ s ≤ 1000001 ∧ (cF feet s : Int) + cP pairs s < num := by
  obtain ⟨h1, h2⟩ := List.mem_filter.mp h
  have h2 := of_decide_eq_true h2
  rcases List.mem_append.mp h1 with q | q
  · have := hh.fi s (mem_sd.mp q)
    exact ⟨by omega, by omega, h2⟩
  · rw [List.mem_singleton.mp q] at h2 ⊢
    exact ⟨by decide, by decide, h2⟩
theorem exc_nil {feet pairs : List Int} (hh : HallOk feet pairs) {num m : Int} (hm : IsMost feet pairs m) : exc feet pairs num = [] ↔ num ≤ m := by
  obtain ⟨s0, h0, h1⟩ := most_at (feet := feet) (pairs := pairs) (top := 1000001) (fun x hx => by have := hh.fi x hx; omega) fun x hx => by have := hh.pi x hx; omega
  unfold exc
  rw [List.filter_eq_nil_iff]
  obtain ⟨⟨s, e⟩, hm2⟩ := hm
  constructor
  · intro h
    have := h s0 (List.mem_append.mpr (h0.imp (fun h => mem_sd.mpr h) fun h => by rw [h]; simp))
    have h3 := h1 s
    have h4 : ¬ ((cF feet s0 : Int) + cP pairs s0 < num) := fun q => this (decide_eq_true q)
    omega
  · intro h s' _ hq
    have := hm2 s'
    have := of_decide_eq_true hq
    omega
theorem asB_T {c : Bool} {R : Bool → Prop} (hc : c = true) (h : R true) : asB (.dat (.bool c)) R := by subst hc; exact h
theorem asB_F {c : Bool} {R : Bool → Prop} (hc : c = false) (h : R false) : asB (.dat (.bool c)) R := by subst hc; exact h
theorem asB_if {c : Bool} {R : Bool → Prop} (h1 : c = true → R true) (h2 : c = false → R false) : asB (.dat (.bool c)) R := by
  cases c with
  | true => exact h1 rfl
  | false => exact h2 rfl
theorem tame_word (w : Str) (hw : w = "run" ∨ w = "table" ∨ w = "size" ∨ w = "feet" ∨ w = "pairs") : Tame 60 0 (.str w) := by
  rcases hw with rfl | rfl | rfl | rfl | rfl <;> exact (tame_str (by decide +kernel)).mono (by decide +kernel) (by decide)
theorem tame_cert (w : Str) {d : PyData} (hw : w = "run" ∨ w = "table" ∨ w = "size" ∨ w = "feet" ∨ w = "pairs") (hd : Tame 2600 2 d) : Tame 1000000 60 (.tuple [.str w, d]) :=
  (tame_tuple (m := 2600) (k := 2) (l := 2) (fun x hx => by
    simp only [List.mem_cons, List.not_mem_nil, or_false] at hx
    rcases hx with rfl | rfl
    · exact (tame_word w hw).mono (by decide) (by decide)
    · exact hd) (by show 2 ≤ 2; exact Nat.le_refl 2)).mono (by decide) (by decide)
theorem tame_table (feet : List Int) (num : Int) (h : feet.length ≤ 40) : Tame 2600 2 (tableD feet num) :=
  (tame_tuple (m := 60) (k := 0) (l := 40) (fun x hx => by
    obtain ⟨s, _, rfl⟩ := List.mem_map.mp hx
    unfold wordAt
    split
    · exact tame_word _ (by simp)
    · exact tame_word _ (by simp)) (by rw [List.length_map]; exact Nat.le_trans (sd_len feet) h)).mono (by decide) (by decide)
theorem pos_form {feet pairs : List Int} (hh : HallOk feet pairs) {m : Int} (hm : IsMost feet pairs m) (num : Int) : ∃ (w : Str) (d : PyData), posD feet pairs num = .tuple [.str w, d] ∧ ((num ≤ m ∧ w = "run") ∨ (¬ num ≤ m ∧ w = "size")) ∧ Tame 2600 2 d := by
  have hex := exc_nil hh (num := num) hm
  have hmm : ∀ s, s ∈ exc feet pairs num → 1 ≤ s ∧ s ≤ 1000001 ∧ (cF feet s : Int) + cP pairs s < num := fun s h => exc_mem hh h
  unfold posD
  cases e : exc feet pairs num with
  | nil => exact ⟨_, _, rfl, .inl ⟨hex.mp e, rfl⟩, (tame_run hh (small_v feet pairs)).mono (by decide) (by decide)⟩
  | cons s l =>
    obtain ⟨q1, q2, _⟩ := hmm s (by rw [e]; simp)
    exact ⟨_, _, rfl, .inr ⟨fun h => (by rw [hex.mpr h] at e; cases e), rfl⟩, (tame_int (m := 20) (by omega) (by decide) (by decide)).mono (by decide) (by decide)⟩
theorem sure_form {feet pairs : List Int} (hh : HallOk feet pairs) {m : Int} (hm : IsFew feet pairs m) (num : Int) : ∃ (w : Str) (d : PyData), sureD feet pairs m num = .tuple [.str w, d] ∧ ((num ≤ m ∧ w = "table") ∨ (¬ num ≤ m ∧ w = "run")) ∧ Tame 2600 2 d := by
  unfold sureD
  by_cases h : m < num
  · rw [if_pos h]
    exact ⟨_, _, rfl, .inr ⟨by omega, rfl⟩, (tame_run hh (large_v feet pairs)).mono (by decide) (by decide)⟩
  · rw [if_neg h]
    exact ⟨_, _, rfl, .inl ⟨by omega, rfl⟩, tame_table feet num hh.f2⟩
theorem few_one : IsFew [2, 3] [2, 4] 1 := by
  refine ⟨⟨3, by decide⟩, fun s => ?_⟩
  by_cases h : s ≤ 4
  · have : 1 ≤ cP [2, 4] s := by rw [cP_cons, cP_cons, if_pos h]; omega
    omega
  · have : 1 ≤ cF [2, 3] s := by rw [cF_cons, if_pos (by omega)]; omega
    omega
theorem obf_one : obf [2, 3] = [0, 1] := Lx_uniq (key := getI [2, 3]) ((obf_perm [2, 3]).trans (by decide)) (likeO_sorted _ _) (by decide)
theorem large_one : largeR [2, 3] [2, 4] = [(0, 1), (1, -1)] := by
  unfold largeR
  rw [obf_one]
  decide
/-! the fewest as a number; further and larger pairs -/
def srt (P : List Int) : List Int := P.mergeSort fun a b => decide (a ≤ b)
theorem srt_perm (P : List Int) : (srt P).Perm P := List.mergeSort_perm _ _
theorem le_tot (a b : Int) : (decide (a ≤ b) || decide (b ≤ a)) = true := by
  rw [Bool.or_eq_true, decide_eq_true_eq, decide_eq_true_eq]
  exact Int.le_total a b
theorem srt_sorted (P : List Int) : (srt P).Pairwise (· ≤ ·) :=
  (List.pairwise_mergeSort (le := fun a b : Int => decide (a ≤ b)) (fun a b c h1 h2 => decide_eq_true (Int.le_trans (of_decide_eq_true h1) (of_decide_eq_true h2))) le_tot P).imp fun h => of_decide_eq_true h
theorem srt_uniq {P Q : List Int} (hp : Q.Perm P) (hs : Q.Pairwise (· ≤ ·)) : Q = srt P := sorted_uniq (hp.trans (srt_perm P).symm) hs (srt_sorted P)
def fewN (F P : List Int) : Int := ((cz (srt F) (srt P).reverse : Nat) : Int)
theorem isFew_fewN (F P : List Int) : IsFew F P (fewN F P) := by
  obtain ⟨top, ht⟩ := exists_top P
  exact (few_of_cz (top := top) (srt_perm F) ((List.reverse_perm _).trans (srt_perm P)) (srt_sorted F) (rev_desc (srt_sorted P)) ht).1
theorem fewN_eq {F P : List Int} {m : Int} (h : IsFew F P m) : m = fewN F P := h.uniq (isFew_fewN F P)
theorem few_mono {F P Q : List Int} (h : ∀ s, cP P s ≤ cP Q s) : fewN F P ≤ fewN F Q := by
  obtain ⟨⟨s, e⟩, _⟩ := isFew_fewN F Q
  have h1 := (isFew_fewN F P).2 s
  have := h s
  omega
theorem few_len (F P : List Int) : fewN F P ≤ F.length := by
  obtain ⟨t2, h2⟩ := exists_top P
  have h := (isFew_fewN F P).2 t2
  rw [cP_zero h2] at h
  have := cF_le F t2
  omega
theorem few_lenP (F P : List Int) : fewN F P ≤ P.length := by
  obtain ⟨t, h⟩ := exists_top (F.map fun x => -x)
  have hF : ∀ x ∈ F, -t ≤ x := fun x hx => by have := h (-x) (List.mem_map_of_mem hx); omega
  have h := (isFew_fewN F P).2 (-t)
  rw [cF_zero hF] at h
  have := cP_le P (-t)
  omega
theorem few_nn (F P : List Int) : 0 ≤ fewN F P := by unfold fewN; omega
theorem cP_append (P Q : List Int) (s : Int) : cP (P ++ Q) s = cP P s + cP Q s := by unfold cP; rw [List.filter_append, List.length_append]
theorem cP_rep (k : Nat) (M s : Int) : cP (List.replicate k M) s = if s ≤ M then k else 0 := by
  by_cases h : s ≤ M
  · rw [if_pos h, cP_all fun x hx => by rw [List.eq_of_mem_replicate hx]; exact h, List.length_replicate]
  · rw [if_neg h, cP_zero fun x hx => by rw [List.eq_of_mem_replicate hx]; omega]
abbrev repM (k : Nat) : List Int := List.replicate k 1000000
def fewM (F P : List Int) (k : Nat) : Int := fewN F (P ++ repM k)
def fewL (F P : List Int) (k : Nat) : Int := fewN F ((srt P).drop k ++ repM k)
theorem few_ge {F P : List Int} {v : Int} (h : ∀ s, v ≤ (max (cF F s) (cP P s) : Nat)) : v ≤ fewN F P := by
  obtain ⟨⟨s, e⟩, _⟩ := isFew_fewN F P
  rw [e]; exact h s
theorem cF_top {F : List Int} (hF : In1 (10 ^ 6) F) {s : Int} (hs : ¬ s ≤ 1000000) : cF F s = F.length := cF_all fun x hx => by have := (hF x hx).2; omega
theorem few_full {F P : List Int} (hF : In1 (10 ^ 6) F) (k : Nat) : min (F.length : Int) k ≤ fewM F P k := few_ge fun s => by
  rw [cP_append, cP_rep]
  by_cases h : s ≤ 1000000
  · rw [if_pos h]; omega
  · rw [if_neg h, cF_top hF h]; omega
theorem cP_sub {P Q : List Int} (h : P.Sublist Q) (s : Int) : cP P s ≤ cP Q s := (h.filter _).length_le
theorem fewL_le (F P : List Int) (k : Nat) : fewL F P k ≤ fewM F P k := few_mono fun s => by
  rw [cP_append, cP_append]
  have := cP_sub (List.drop_sublist k (srt P)) s
  rw [cP_perm (srt_perm P)] at this
  omega
theorem fewL_ge {F P : List Int} (hF : In1 (10 ^ 6) F) {num : Int} {k : Nat} (hk : k ≤ P.length) (h1 : num ≤ F.length) (h2 : num ≤ P.length) (h : num ≤ fewM F P k) : num ≤ fewL F P k := few_ge fun s => by
  have hl : (srt P).length = P.length := (srt_perm P).length_eq
  rw [cP_append, cP_rep]
  by_cases hs : s ≤ 1000000
  · rw [if_pos hs]
    have hm := (isFew_fewN F (P ++ repM k)).2 s
    rw [cP_append, cP_rep, if_pos hs] at hm
    have hm : num ≤ (max (cF F s) (cP P s + k) : Nat) := Int.le_trans h hm
    have ht : cP P s = cP ((srt P).take k) s + cP ((srt P).drop k) s := by rw [← cP_append, List.take_append_drop, cP_perm (srt_perm P)]
    by_cases hd : ∀ x ∈ (srt P).drop k, s ≤ x
    · rw [cP_all hd, List.length_drop]
      omega
    · obtain ⟨x, hx⟩ := Classical.not_forall.mp hd
      obtain ⟨hx1, hx2⟩ := Classical.not_imp.mp hx
      have h0 : cP ((srt P).take k) s = 0 := cP_zero fun y hy => by
        have hp := srt_sorted P
        rw [← List.take_append_drop k (srt P)] at hp
        have := (List.pairwise_append.mp hp).2.2 y hy x hx1
        omega
      omega
  · rw [if_neg hs, cF_top hF hs]
    omega
def moreN (F P : List Int) (num : Int) : Option Nat := (List.range (F.length + 1)).find? fun k => decide (num ≤ fewM F P k)
def largerN (F P : List Int) (num : Int) : Option Nat := (List.range (P.length + 1)).find? fun k => decide (num ≤ fewL F P k)
theorem find_some {n k : Nat} {p : Nat → Bool} (h1 : k < n) (h2 : p k = true) (h3 : ∀ j < k, p j = false) : (List.range n).find? p = some k :=
  List.find?_range_eq_some.mpr ⟨h2, List.mem_range.mpr h1, fun j hj => by rw [h3 j hj]; rfl⟩
theorem find_none {n : Nat} {p : Nat → Bool} (h : ∀ j < n, p j = false) : (List.range n).find? p = none :=
  List.find?_range_eq_none.mpr fun j hj => by rw [h j hj]; rfl
theorem of_some {n k : Nat} {p : Nat → Bool} (h : (List.range n).find? p = some k) : k < n ∧ p k = true ∧ ∀ j < k, p j = false := by
  obtain ⟨a, b, c⟩ := List.find?_range_eq_some.mp h
  exact ⟨List.mem_range.mp b, a, fun j hj => by have := c j hj; simpa using this⟩
theorem of_none {n : Nat} {p : Nat → Bool} (h : (List.range n).find? p = none) : ∀ j < n, p j = false := fun j hj => by
  have := List.find?_range_eq_none.mp h j hj
  simpa using this
theorem more_none {F P : List Int} (hF : In1 (10 ^ 6) F) {num : Int} : moreN F P num = none ↔ num > F.length := by
  constructor
  · intro h
    have := of_decide_eq_false (of_none h F.length (by omega))
    have h2 := few_full (P := P) hF F.length
    omega
  · intro h
    exact find_none fun j hj => decide_eq_false fun q => by
      have := few_len F (P ++ repM j)
      unfold fewM at q
      omega
theorem more_some {F P : List Int} {num : Int} {k : Nat} (h : moreN F P num = some k) : k ≤ F.length ∧ num ≤ fewM F P k ∧ ∀ j < k, fewM F P j < num := by
  obtain ⟨a, b, c⟩ := of_some h
  exact ⟨by omega, of_decide_eq_true b, fun j hj => by have := of_decide_eq_false (c j hj); omega⟩
theorem larger_none {F P : List Int} (hF : In1 (10 ^ 6) F) {num : Int} : largerN F P num = none ↔ num > min (F.length : Int) P.length := by
  constructor
  · intro h
    have h1 := of_decide_eq_false (of_none h P.length (by omega))
    have h2 := few_full (P := P) hF P.length
    exact Classical.byContradiction fun q => h1 (fewL_ge (num := num) hF (Nat.le_refl P.length) (by omega) (by omega) (by omega))
  · intro h
    exact find_none fun j hj => decide_eq_false fun q => by
      have h1 := few_len F ((srt P).drop j ++ repM j)
      have h2 := few_lenP F ((srt P).drop j ++ repM j)
      have hl : (srt P).length = P.length := (srt_perm P).length_eq
      rw [List.length_append, List.length_drop, List.length_replicate, hl] at h2
      unfold fewL at q
      omega
theorem larger_some {F P : List Int} {num : Int} {k : Nat} (h : largerN F P num = some k) : k ≤ P.length ∧ num ≤ fewL F P k ∧ ∀ j < k, fewL F P j < num := by
  obtain ⟨a, b, c⟩ := of_some h
  exact ⟨by omega, of_decide_eq_true b, fun j hj => by have := of_decide_eq_false (c j hj); omega⟩
theorem larger_more {F P : List Int} (hF : In1 (10 ^ 6) F) {num : Int} {k : Nat} (h : largerN F P num = some k) : moreN F P num = some k := by
  have hn : ¬ num > min (F.length : Int) P.length := fun q => by rw [(larger_none hF).mpr q] at h; cases h
  obtain ⟨a, b, c⟩ := larger_some h
  cases e : moreN F P num with
  | none => have := (more_none hF).mp e; omega
  | some j =>
    obtain ⟨a', b', c'⟩ := more_some e
    have h1 : num ≤ fewM F P k := Int.le_trans b (fewL_le F P k)
    have hjk : j ≤ k := Nat.le_of_not_lt fun q => by have := c' k q; omega
    have h2 : num ≤ fewL F P j := fewL_ge hF (by omega) (by omega) (by omega) b'
    have hkj : k ≤ j := Nat.le_of_not_lt fun q => by have := c j q; omega
    rw [Nat.le_antisymm hjk hkj]
theorem more_fewer {F P Q : List Int} {num : Int} {k : Nat} (h : moreN F P num = some k) (hQ : Q.length < k) (hQ1 : In1 (10 ^ 6) Q) : fewN F (P ++ Q) < num := by
  obtain ⟨a, b, c⟩ := more_some h
  refine Int.lt_of_le_of_lt (few_mono fun s => ?_) (c (k - 1) (by omega))
  rw [cP_append, cP_append, cP_rep]
  by_cases hs : s ≤ 1000000
  · rw [if_pos hs]
    have := cP_le Q s
    omega
  · rw [if_neg hs, cP_zero (l := Q) fun x hx => by have := (hQ1 x hx).2; omega]
    exact Nat.le_refl _
theorem more_one {F P : List Int} (hF : In1 (10 ^ 6) F) {num z : Int} {k : Nat} (h : moreN F P num = some k) (hz : z ≤ 1000000) : ∃ j, moreN F (P ++ [z]) num = some j ∧ (j = k ∨ j + 1 = k) := by
  have hn : ¬ num > F.length := fun q => by rw [(more_none hF).mpr q] at h; cases h
  obtain ⟨a, b, c⟩ := more_some h
  cases e : moreN F (P ++ [z]) num with
  | none => exact absurd ((more_none hF).mp e) hn
  | some j =>
    obtain ⟨a', b', c'⟩ := more_some e
    have h1 : num ≤ fewM F (P ++ [z]) k := Int.le_trans b (few_mono fun s => by rw [cP_append, cP_append, cP_append]; omega)
    have hjk : j ≤ k := Nat.le_of_not_lt fun q => by have := c' k q; omega
    have h2 : num ≤ fewM F P (j + 1) := Int.le_trans b' (few_mono fun s => by
      rw [cP_append, cP_append, cP_append, cP_rep, cP_rep, cP_cons]
      have : cP [] s = 0 := rfl
      by_cases hs : s ≤ 1000000
      · rw [if_pos hs, if_pos hs]; split <;> omega
      · rw [if_neg hs, if_neg hs, if_neg (by omega)]; omega)
    have hkj : k ≤ j + 1 := Nat.le_of_not_lt fun q => by have := c (j + 1) q; omega
    exact ⟨j, rfl, by omega⟩
def optD : Option Nat → PyData
  | none => .none
  | some k => .int (k : Nat)
theorem rep_one (k : Int) (hk : 0 ≤ k) (a : PyData) : (List.replicate k.toNat [a]).flatten = List.replicate k.toNat a := flat_one a _
theorem hall_rep (feet pairs : List Int) (k : Nat) : PyData.tuple [sizesD feet, .tuple (pairs.map .int ++ (List.replicate k [PyData.int 1000000]).flatten)] = hallD feet (pairs ++ repM k) := by
  unfold hallD sizesD repM
  rw [flat_one, List.map_append, List.map_replicate]
theorem cut_drop {α : Type} (xs : List α) (k : Nat) : cutG xs (some (k : Int)) none = xs.drop k := by
  unfold cutG
  have e1 : HT.sIx xs.length 0 (some (k : Int)) = min k xs.length := HT.sIx_nat _ _ _
  have e2 : HT.sIx xs.length xs.length none = xs.length := rfl
  rw [e1, e2]
  by_cases h : k ≤ xs.length
  · rw [Nat.min_eq_left h]
    exact List.take_of_length_le (by rw [List.length_drop]; omega)
  · rw [Nat.min_eq_right (by omega), List.drop_length, List.drop_of_length_le (by omega)]
    simp
theorem cut_take {α : Type} (xs : List α) (k : Nat) : cutG xs none (some (k : Int)) = xs.take k := by
  unfold cutG
  have e1 : HT.sIx xs.length xs.length (some (k : Int)) = min k xs.length := HT.sIx_nat _ _ _
  have e2 : HT.sIx xs.length 0 none = 0 := rfl
  rw [e1, e2, List.drop_zero, Nat.sub_zero]
  by_cases h : k ≤ xs.length
  · rw [Nat.min_eq_left h]
  · rw [Nat.min_eq_right (by omega), List.take_length, List.take_of_length_le (by omega)]
theorem neB {a b : Bool} {A B : Prop} (e : a = b) (h : B) : if (!PyData.eqv (.bool a) (.bool b)) = true then A else B := by
  subst e
  cases a <;> exact iteF h
/-! all runs of a small hall -/
theorem neg_not (m : Nat) (T : List Int) : (-1 : Int) ∉ leftT m T := fun h => by
  have := (mem_intsN (List.mem_filter.mp h).1).1
  omega
def okq (feet pairs left : List Int) (q : Int × Int) : Prop := ((∀ j ∈ left, fitG feet pairs q.1 j = false) ∧ q.2 = -1) ∨ (q.2 ∈ left ∧ fitG feet pairs q.1 q.2 = true)
theorem gs_append {feet pairs : List Int} {m : Nat} (q : Int × Int) : ∀ (r : List (Int × Int)) (T : List Int), Gs anyR feet pairs (leftT m T) (r ++ [q]) ↔ (Gs anyR feet pairs (leftT m T) r ∧ okq feet pairs (leftT m (T ++ r.map (·.2))) q)
  | [], T => by
    rw [List.nil_append, List.map_nil, List.append_nil]
    constructor
    · rintro (⟨a, b, _⟩ | ⟨a, b, _, _⟩)
      · exact ⟨trivial, .inl ⟨a, b⟩⟩
      · exact ⟨trivial, .inr ⟨a, b⟩⟩
    · rintro ⟨_, ⟨a, b⟩ | ⟨a, b⟩⟩
      · exact .inl ⟨a, b, trivial⟩
      · exact .inr ⟨a, b, fun _ _ _ => trivial, trivial⟩
  | p :: r, T => by
    have ih := gs_append (feet := feet) (pairs := pairs) (m := m) q r (T ++ [p.2])
    have e : T ++ (p :: r).map (·.2) = T ++ [p.2] ++ r.map (·.2) := by simp
    rw [e]
    constructor
    · rintro (⟨a, b, c⟩ | ⟨a, b, c, d⟩)
      · have e1 : leftT m T = leftT m (T ++ [p.2]) := by rw [← leftT_erase, b, List.erase_of_not_mem (neg_not m T)]
        have c' := c
        rw [e1] at c'
        obtain ⟨h1, h2⟩ := ih.mp c'
        exact ⟨.inl ⟨a, b, by rw [e1]; exact h1⟩, h2⟩
      · rw [leftT_erase] at d
        obtain ⟨h1, h2⟩ := ih.mp d
        exact ⟨.inr ⟨a, b, c, by rw [leftT_erase]; exact h1⟩, h2⟩
    · rintro ⟨⟨a, b, c⟩ | ⟨a, b, c, d⟩, h2⟩
      · have e1 : leftT m T = leftT m (T ++ [p.2]) := by rw [← leftT_erase, b, List.erase_of_not_mem (neg_not m T)]
        have c' := c
        rw [e1] at c'
        exact .inl ⟨a, b, by rw [e1]; exact ih.mpr ⟨c', h2⟩⟩
      · rw [leftT_erase] at d
        exact .inr ⟨a, b, c, by rw [leftT_erase]; exact ih.mpr ⟨d, h2⟩⟩
def choices (feet pairs left : List Int) (g : Int) : List Int := if left.filter (fitG feet pairs g) = [] then [-1] else left.filter (fitG feet pairs g)
theorem mem_choices {feet pairs : List Int} {m : Nat} {T : List Int} {g j : Int} : j ∈ choices feet pairs (leftT m T) g ↔ okq feet pairs (leftT m T) (g, j) := by
  unfold choices okq
  by_cases h : (leftT m T).filter (fitG feet pairs g) = []
  · rw [if_pos h, List.mem_singleton]
    have h' := List.filter_eq_nil_iff.mp h
    constructor
    · intro e
      exact .inl ⟨fun i hi => by simpa using h' i hi, e⟩
    · rintro (⟨_, b⟩ | ⟨a, b⟩)
      · exact b
      · exact absurd b (h' j a)
  · rw [if_neg h, List.mem_filter]
    constructor
    · exact fun ⟨a, b⟩ => .inr ⟨a, b⟩
    · rintro (⟨a, _⟩ | ⟨a, b⟩)
      · exact absurd (List.filter_eq_nil_iff.mpr fun i hi => by rw [show fitG feet pairs g i = false from a i hi]; exact Bool.false_ne_true) h
      · exact ⟨a, b⟩
theorem choices_len (feet pairs left : List Int) (g : Int) (h : left.length ≤ 5) : (choices feet pairs left g).length ≤ 5 := by
  unfold choices
  split
  · show 1 ≤ 5; decide
  · exact Nat.le_trans (List.length_filter_le _ _) h
def begun1 (feet pairs : List Int) (row : List (Int × Int)) (g : Int) : List (List (Int × Int)) := (choices feet pairs (leftT pairs.length (row.map (·.2))) g).map fun j => row ++ [(g, j)]
def begunR (feet pairs : List Int) (rows : List (List (Int × Int))) (g : Int) : List (List (Int × Int)) := rows.flatMap fun row => begun1 feet pairs row g
def stepR (feet pairs : List Int) (rows : List (List (Int × Int))) : List (List (Int × Int)) := rows.flatMap fun row => (intsN feet.length).flatMap fun g => if g ∈ row.map (·.1) then [] else begunR feet pairs [row] g
def runsR (feet pairs : List Int) : Nat → List (List (Int × Int))
  | 0 => [[]]
  | k + 1 => stepR feet pairs (runsR feet pairs k)
/-- the first k items of a run -/
structure PreV (feet pairs : List Int) (k : Nat) (r : List (Int × Int)) : Prop where
  len : r.length = k
  nd : (r.map (·.1)).Nodup
  mem : ∀ g ∈ r.map (·.1), g ∈ intsN feet.length
  s : Gs anyR feet pairs (leftT pairs.length []) r
theorem mem_runsR {feet pairs : List Int} : ∀ {k : Nat} {r : List (Int × Int)}, r ∈ runsR feet pairs k ↔ PreV feet pairs k r
  | 0, r => by
    unfold runsR
    rw [List.mem_singleton]
    constructor
    · rintro rfl
      exact ⟨rfl, List.nodup_nil, fun _ h => (nomatch h), trivial⟩
    · intro h
      exact List.eq_nil_of_length_eq_zero h.len
  | k + 1, r => by
    have ih := fun r => mem_runsR (feet := feet) (pairs := pairs) (k := k) (r := r)
    unfold runsR stepR
    rw [List.mem_flatMap]
    constructor
    · rintro ⟨row, hrow, h⟩
      obtain ⟨g, hg, h⟩ := List.mem_flatMap.mp h
      have hp := (ih row).mp hrow
      by_cases hgr : g ∈ row.map (·.1)
      · rw [if_pos hgr] at h; cases h
      · rw [if_neg hgr] at h
        unfold begunR at h
        rw [List.flatMap_cons, List.flatMap_nil, List.append_nil] at h
        obtain ⟨j, hj, rfl⟩ := List.mem_map.mp h
        have hok := mem_choices.mp hj
        refine ⟨by rw [List.length_append, hp.len]; rfl, ?_, fun x hx => ?_, (gs_append (g, j) row []).mpr ⟨hp.s, hok⟩⟩
        · rw [List.map_append, List.nodup_append]
          refine ⟨hp.nd, by simp, fun a ha b hb => ?_⟩
          simp at hb
          rintro rfl
          exact hgr (hb ▸ ha)
        · rw [List.map_append] at hx
          rcases List.mem_append.mp hx with h | h
          · exact hp.mem x h
          · simp at h; rw [h]; exact hg
    · intro h
      have hne : r ≠ [] := fun e => by have := h.len; rw [e] at this; cases this
      obtain ⟨row, q, rfl⟩ : ∃ row q, r = row ++ [q] := ⟨r.dropLast, r.getLast hne, (List.dropLast_concat_getLast hne).symm⟩
      have hl := h.len
      rw [List.length_append] at hl
      have hnd := h.nd
      rw [List.map_append, List.nodup_append] at hnd
      obtain ⟨s1, s2⟩ := (gs_append q row []).mp h.s
      have hm := h.mem
      rw [List.map_append] at hm
      refine ⟨row, (ih row).mpr ⟨by simpa using hl, hnd.1, fun x hx => hm x (List.mem_append_left _ hx), s1⟩, ?_⟩
      refine List.mem_flatMap.mpr ⟨q.1, hm q.1 (by simp), ?_⟩
      rw [if_neg fun hx => hnd.2.2 q.1 hx q.1 (by simp) rfl]
      unfold begunR
      rw [List.flatMap_cons, List.flatMap_nil, List.append_nil]
      exact List.mem_map.mpr ⟨q.2, mem_choices.mpr s2, rfl⟩
theorem nodup_perm {l m : List Int} (h1 : l.Nodup) (h2 : m.Nodup) (hs : ∀ x ∈ l, x ∈ m) (hl : m.length ≤ l.length) : l.Perm m := by
  refine (List.perm_ext_iff_of_nodup h1 h2).mpr fun a => ⟨hs a, fun ha => ?_⟩
  refine Classical.byContradiction fun hn => ?_
  have := nodup_len (ms := a :: l) (l := m) (List.nodup_cons.mpr ⟨hn, h1⟩) fun x hx => by
    rcases List.mem_cons.mp hx with rfl | hx
    · exact ha
    · exact hs x hx
  rw [List.length_cons] at this
  omega
def allRuns (feet pairs : List Int) : List (List (Int × Int)) := runsR feet pairs feet.length
theorem mem_all {feet pairs : List Int} {r : List (Int × Int)} : r ∈ allRuns feet pairs ↔ RunV anyR feet pairs r := by
  unfold allRuns
  rw [mem_runsR]
  constructor
  · intro h
    refine ⟨nodup_perm h.nd ((intsN_lt _).imp fun h => Int.ne_of_lt h) h.mem (by rw [intsN_len, List.length_map, h.len]; exact Nat.le_refl _), ?_⟩
    have := h.s
    rwa [leftT_nil] at this
  · intro h
    exact ⟨h.len, h.nd, fun g hg => h.g.mem_iff.mp hg, by rw [leftT_nil]; exact h.s⟩
theorem flat_len {α β : Type} (f : α → List β) (c : Nat) : ∀ (l : List α), (∀ x ∈ l, (f x).length ≤ c) → (l.flatMap f).length ≤ l.length * c
  | [], _ => by simp
  | a :: l, h => by
    rw [List.flatMap_cons, List.length_append, List.length_cons, Nat.succ_mul]
    have := h a (by simp)
    have := flat_len f c l fun x hx => h x (by simp [hx])
    omega
theorem leftT_len (m : Nat) (T : List Int) : (leftT m T).length ≤ m := by
  have := List.length_filter_le (fun j => decide (j ∉ T)) (intsN m)
  rwa [intsN_len] at this
theorem begun1_len {feet pairs : List Int} (hp : pairs.length ≤ 5) (row : List (Int × Int)) (g : Int) : (begun1 feet pairs row g).length ≤ 5 := by
  unfold begun1
  rw [List.length_map]
  exact choices_len _ _ _ _ (Nat.le_trans (leftT_len _ _) hp)
theorem runs_len {feet pairs : List Int} (hf : feet.length ≤ 4) (hp : pairs.length ≤ 5) : ∀ k, (runsR feet pairs k).length ≤ 20 ^ k
  | 0 => Nat.le_refl _
  | k + 1 => by
    have ih := runs_len hf hp k
    unfold runsR stepR
    refine Nat.le_trans (flat_len _ 20 _ fun row _ => ?_) (by rw [Nat.pow_succ]; omega)
    refine Nat.le_trans (flat_len _ 5 _ fun g _ => ?_) (by rw [intsN_len]; omega)
    split
    · exact Nat.zero_le _
    · unfold begunR
      rw [List.flatMap_cons, List.flatMap_nil, List.append_nil]
      exact begun1_len hp row g
def nneg (run : List (Int × Int)) : Nat := (run.filter fun q => decide (0 ≤ q.2)).length
theorem nneg_srv {rl : Int → Int → Prop} {feet pairs : List Int} {run : List (Int × Int)} (h : RunV rl feet pairs run) : nneg run = srv run := by
  unfold nneg srv
  congr 1
  refine List.filter_congr fun q hq => ?_
  have := (h.snd hq).1
  exact decide_eq_decide.mpr (by omega)
theorem large_mem (feet pairs : List Int) : largeR feet pairs ∈ allRuns feet pairs := mem_all.mpr (large_v feet pairs).any
/-- the least number over all runs -/
theorem sure_all {feet pairs : List Int} {m : Int} (h1 : m ∈ (allRuns feet pairs).map fun r => ((nneg r : Nat) : Int)) (h2 : ∀ y ∈ (allRuns feet pairs).map fun r => ((nneg r : Nat) : Int), m ≤ y) : m = fewN feet pairs := by
  obtain ⟨r, hr, rfl⟩ := List.mem_map.mp h1
  have v := mem_all.mp hr
  have a := run_few v (isFew_fewN feet pairs)
  have b := h2 _ (List.mem_map_of_mem (large_mem feet pairs))
  rw [nneg_srv (large_v feet pairs)] at b
  have c := large_n (isFew_fewN feet pairs)
  rw [nneg_srv v] at b ⊢
  omega
/-! bags of sizes -/
def bagStep (xs : List Int) (rows : List (List Int)) : List (List Int) := rows.flatMap fun row => (xs.filter fun z => decide (row = [] ∨ (row.getLast?.getD 0) ≤ z)).map fun z => row ++ [z]
def bagsL (xs : List Int) : Nat → List (List Int)
  | 0 => [[]]
  | k + 1 => bagStep xs (bagsL xs k)
theorem bags_ok {xs : List Int} : ∀ {k : Nat} {b : List Int}, b ∈ bagsL xs k → b.length = k ∧ ∀ x ∈ b, x ∈ xs
  | 0, b, h => by
    rw [List.mem_singleton.mp h]
    exact ⟨rfl, fun _ h => (nomatch h)⟩
  | k + 1, b, h => by
    obtain ⟨row, hrow, h⟩ := List.mem_flatMap.mp h
    obtain ⟨z, hz, rfl⟩ := List.mem_map.mp h
    obtain ⟨l1, l2⟩ := bags_ok hrow
    refine ⟨by rw [List.length_append, l1]; rfl, fun x hx => ?_⟩
    rcases List.mem_append.mp hx with q | q
    · exact l2 x q
    · rw [List.mem_singleton.mp q]; exact (List.mem_filter.mp hz).1
theorem bags_rep {xs : List Int} {M : Int} (hM : M ∈ xs) : ∀ k : Nat, List.replicate k M ∈ bagsL xs k
  | 0 => by simp [bagsL]
  | k + 1 => by
    refine List.mem_flatMap.mpr ⟨List.replicate k M, bags_rep hM k, List.mem_map.mpr ⟨M, List.mem_filter.mpr ⟨hM, decide_eq_true ?_⟩, by rw [List.replicate_succ']⟩⟩
    cases k with
    | zero => exact .inl rfl
    | succ k =>
      right
      rw [List.getLast?_replicate]
      simp
theorem bags_len {xs : List Int} (hx : xs.length ≤ 4) : ∀ k, (bagsL xs k).length ≤ 4 ^ k
  | 0 => Nat.le_refl _
  | k + 1 => by
    have ih := bags_len hx k
    unfold bagsL bagStep
    refine Nat.le_trans (flat_len _ 4 _ fun row _ => ?_) (by rw [Nat.pow_succ]; omega)
    rw [List.length_map]
    exact Nat.le_trans (List.length_filter_le _ _) hx
theorem best_all {feet pairs xs : List Int} {k : Nat} {m : Int} (hx : ∀ x ∈ xs, x ≤ 1000000) (hM : (1000000 : Int) ∈ xs)
    (h1 : m ∈ (bagsL xs k).map fun b => fewN feet (pairs ++ b)) (h2 : ∀ y ∈ (bagsL xs k).map fun b => fewN feet (pairs ++ b), y ≤ m) : m = fewM feet pairs k := by
  obtain ⟨b, hb, rfl⟩ := List.mem_map.mp h1
  obtain ⟨l1, l2⟩ := bags_ok hb
  have h3 := h2 _ (List.mem_map_of_mem (bags_rep hM k))
  have h4 : fewN feet (pairs ++ b) ≤ fewM feet pairs k := few_mono fun s => by
    rw [cP_append, cP_append, cP_rep]
    by_cases hs : s ≤ 1000000
    · rw [if_pos hs]
      have := cP_le b s
      omega
    · rw [if_neg hs, cP_zero (l := b) fun x hx' => by have := hx x (l2 x hx'); omega]
      exact Nat.le_refl _
  have h5 : fewM feet pairs k ≤ fewN feet (pairs ++ b) := h3
  omega
theorem first_of {n : Nat} (p : Nat → Bool) (enc : Nat → PyData) : atI (((List.range n).filter p).map enc ++ [PyData.none]) 0 = some (match (List.range n).find? p with | none => .none | some k => enc k) := by
  have e : ((List.range n).filter p).head? = (List.range n).find? p := List.head?_filter
  unfold atI ixN
  rw [if_pos (Int.le_refl 0), if_pos (by rw [List.length_append]; show (0 : Int) < ((_ + 1 : Nat) : Int); omega)]
  show (((List.range n).filter p).map enc ++ [PyData.none])[0]? = _
  cases h : (List.range n).filter p with
  | nil => rw [h] at e; rw [← e]; rfl
  | cons a l => rw [h] at e; rw [← e]; rfl
theorem cz_filter : ∀ F Q : List Int, ((F.zip Q).filter fun q => decide (q.1 ≤ q.2)).length = cz F Q
  | [], _ => by unfold cz; rfl
  | f :: fs, [] => by unfold cz; rfl
  | f :: fs, p :: ps => by
    rw [List.zip_cons_cons, List.filter_cons]
    show _ = cz fs ps + if f ≤ p then 1 else 0
    have ih := cz_filter fs ps
    by_cases h : f ≤ p
    · rw [if_pos (decide_eq_true h), if_pos h, List.length_cons, ih]
    · rw [if_neg (by simpa using h), if_neg h, ih]; rfl
theorem eqv_nilT (ds : List PyData) : PyData.eqv (.tuple ds) (.tuple []) = ds.isEmpty := by
  cases ds <;> rfl
theorem sh_tints (ns : List Int) : Sh (.tuple (ns.map .int)) :=
  Bool.and_eq_true_iff.mpr ⟨by simp only [PyData.canLay0]; exact canAll fun d hd => by obtain ⟨_, _, rfl⟩ := List.mem_map.mp hd; rfl, decide_eq_true (by
    simp only [PyData.depth]
    exact Nat.le_trans (Nat.succ_le_succ (depthAll_le (k := 0) fun d hd => by obtain ⟨_, _, rfl⟩ := List.mem_map.mp hd; exact Nat.le_refl _)) (by decide))⟩
theorem flat_take {α β : Type} {f : α → List β} {xs : List α} {k : Nat} {x : α} (h : xs[k]? = some x) : (xs.take (k + 1)).flatMap f = (xs.take k).flatMap f ++ f x := by
  rw [List.take_add_one, h, List.flatMap_append]
  simp
theorem line2 {n : Nat} (h : n ≤ 10000000) : n ≤ sizeLine := Nat.le_trans h (by decide)
theorem small2 {n : Nat} (h : n ≤ 10000000) : n < sizeLine := Nat.lt_of_le_of_lt h (by decide)
theorem atI_range {f : Nat → PyData} {n k : Nat} (h : k < n) : atI ((List.range n).map f) (0 + (k : Int)) = some (f k) := by
  rw [Int.zero_add]
  unfold atI ixN
  rw [if_pos (by omega), if_pos (by rw [List.length_map, List.length_range]; omega)]
  show ((List.range n).map f)[(k : Int).toNat]? = _
  rw [Int.toNat_natCast, List.getElem?_map, List.getElem?_range h]
  rfl
theorem first_opt {n : Nat} (p : Nat → Bool) : atI (((List.range n).filter p).map (fun (k : Nat) => PyData.int (0 + (k : Int))) ++ [PyData.none]) 0 = some (optD ((List.range n).find? p)) := by
  rw [first_of]
  cases (List.range n).find? p with
  | none => rfl
  | some k => show some (PyData.int (0 + (k : Int))) = some (.int (k : Nat)); rw [Int.zero_add]
theorem tame_opt {o : Option Nat} (h : ∀ k, o = some k → k ≤ 1000) : Tame 1000000 60 (optD o) := by
  cases o with
  | none => exact tame_none.mono (by decide) (by decide)
  | some k => exact (tame_int (m := 20) (by have := h k rfl; omega) (by decide) (by decide)).mono (by decide) (by decide)
theorem hall_rep0 (feet pairs : List Int) (k : Nat) : PyData.tuple [sizesD feet, .tuple (pairs.map .int ++ (List.replicate (0 + (k : Int)).toNat [PyData.int 1000000]).flatten)] = hallD feet (pairs ++ repM k) := by
  rw [← hall_rep, Int.zero_add, Int.toNat_natCast]
theorem rep0_len (k : Nat) (a : PyData) : (List.replicate (0 + (k : Int)).toNat [a]).flatten.length = k := by
  rw [Int.zero_add, Int.toNat_natCast, flat_one, List.length_replicate]
theorem hall_repM {feet pairs : List Int} (hh : HallOk feet pairs) {k : Nat} (hk : pairs.length + k ≤ 40) : HallOk feet (pairs ++ repM k) := ⟨hh.f1, hh.f2, by rw [List.length_append, List.length_replicate]; exact hk, hh.fi, fun x hx => by
  rcases List.mem_append.mp hx with h | h
  · exact hh.pi x h
  · rw [List.eq_of_mem_replicate h]; decide⟩
/-! kept pairs -/
def keptStep (rows : List (List Int × Nat)) (z : Int) : List (List Int × Nat) := rows.flatMap fun q => (q.1 ++ [z], q.2) :: (if 0 < q.2 then [(q.1, q.2 - 1)] else [])
def keptF (xs : List Int) (k : Nat) : List (List Int × Nat) := xs.foldl keptStep [([], k)]
def keptL (xs : List Int) (k : Nat) : List (List Int) := ((keptF xs k).filter fun q => decide (q.2 = 0)).map (·.1)
def kD (q : List Int × Nat) : PyData := .tuple [sizesD q.1, .int (q.2 : Nat)]
theorem keptF_snoc (xs : List Int) (z : Int) (k : Nat) : keptF (xs ++ [z]) k = keptStep (keptF xs k) z := by
  unfold keptF
  rw [List.foldl_append]
  rfl
theorem sub_one {l : List Int} {z : Int} (h : l.Sublist [z]) : l = [] ∨ l = [z] := by
  cases h with
  | cons _ h => exact .inl (List.sublist_nil.mp h)
  | cons_cons _ h => exact .inr (by rw [List.sublist_nil.mp h])
theorem mem_kept {k : Nat} : ∀ (n : Nat) (xs : List Int), xs.length = n → ∀ {row : List Int} {l : Nat}, (row, l) ∈ keptF xs k ↔ (row.Sublist xs ∧ row.length + k = xs.length + l)
  | 0, xs, hx, row, l => by
    rw [List.eq_nil_of_length_eq_zero hx]
    show (row, l) ∈ [([], k)] ↔ _
    rw [List.mem_singleton, Prod.mk.injEq, List.sublist_nil]
    constructor
    · rintro ⟨rfl, rfl⟩; exact ⟨rfl, rfl⟩
    · rintro ⟨rfl, h⟩; exact ⟨rfl, by simpa using h.symm⟩
  | n + 1, xs, hx, row, l => by
    have hne : xs ≠ [] := fun e => by rw [e] at hx; cases hx
    obtain ⟨ys, z, rfl⟩ : ∃ ys z, xs = ys ++ [z] := ⟨xs.dropLast, xs.getLast hne, (List.dropLast_concat_getLast hne).symm⟩
    have hy : ys.length = n := by simpa using hx
    rw [keptF_snoc]
    unfold keptStep
    rw [List.mem_flatMap]
    constructor
    · rintro ⟨⟨r, j⟩, hq, h⟩
      obtain ⟨s1, s2⟩ := (mem_kept n ys hy).mp hq
      rcases List.mem_cons.mp h with h | h
      · cases h
        exact ⟨s1.append (List.Sublist.refl _), by simp only [List.length_append, List.length_singleton]; omega⟩
      · by_cases hj : 0 < j
        · rw [if_pos hj] at h
          cases List.mem_singleton.mp h
          exact ⟨s1.trans (List.sublist_append_left _ _), by simp only [List.length_append, List.length_singleton]; omega⟩
        · rw [if_neg hj] at h; cases h
    · rintro ⟨s, hl⟩
      rw [List.length_append, List.length_singleton] at hl
      obtain ⟨l1, l2, rfl, h1, h2⟩ := List.sublist_append_iff.mp s
      rcases sub_one h2 with rfl | rfl
      · rw [List.append_nil] at hl ⊢
        exact ⟨(l1, l + 1), (mem_kept n ys hy).mpr ⟨h1, by omega⟩, List.mem_cons_of_mem _ (by rw [if_pos (Nat.succ_pos l)]; simp)⟩
      · rw [List.length_append, List.length_singleton] at hl
        exact ⟨(l1, l), (mem_kept n ys hy).mpr ⟨h1, by omega⟩, by simp⟩
theorem mem_keptL {xs row : List Int} {k : Nat} : row ∈ keptL xs k ↔ (row.Sublist xs ∧ row.length + k = xs.length) := by
  unfold keptL
  rw [List.mem_map]
  constructor
  · rintro ⟨⟨r, l⟩, h, rfl⟩
    obtain ⟨h1, h2⟩ := List.mem_filter.mp h
    have h2 : l = 0 := of_decide_eq_true h2
    subst h2
    exact (mem_kept _ xs rfl).mp h1
  · rintro ⟨h1, h2⟩
    exact ⟨(row, 0), List.mem_filter.mpr ⟨(mem_kept _ xs rfl).mpr ⟨h1, h2⟩, rfl⟩, rfl⟩
theorem kept_len (k : Nat) : ∀ (n : Nat) (xs : List Int), xs.length = n → (keptF xs k).length ≤ 2 ^ n
  | 0, xs, hx => by rw [List.eq_nil_of_length_eq_zero hx]; exact Nat.le_refl _
  | n + 1, xs, hx => by
    have hne : xs ≠ [] := fun e => by rw [e] at hx; cases hx
    obtain ⟨ys, z, rfl⟩ : ∃ ys z, xs = ys ++ [z] := ⟨xs.dropLast, xs.getLast hne, (List.dropLast_concat_getLast hne).symm⟩
    have ih := kept_len k n ys (by simpa using hx)
    rw [keptF_snoc]
    unfold keptStep
    refine Nat.le_trans (flat_len _ 2 _ fun q _ => ?_) (by rw [Nat.pow_succ]; omega)
    rw [List.length_cons]
    split
    · exact Nat.le_refl _
    · exact Nat.le_succ _
theorem sub_perm : ∀ {a b : List Int}, a.Perm b → ∀ {l : List Int}, l.Sublist a → ∃ l' : List Int, l'.Perm l ∧ l'.Sublist b := by
  intro a b p
  induction p with
  | nil => intro l h; exact ⟨l, List.Perm.refl _, h⟩
  | cons x p ih =>
    intro l h
    cases h with
    | cons _ h => obtain ⟨l', p1, s1⟩ := ih h; exact ⟨l', p1, s1.cons _⟩
    | cons_cons _ h => obtain ⟨l', p1, s1⟩ := ih h; exact ⟨x :: l', p1.cons _, s1.cons_cons _⟩
  | swap x y t =>
    intro l h
    cases h with
    | cons _ h =>
      cases h with
      | cons _ h => exact ⟨_, List.Perm.refl _, (h.cons _).cons _⟩
      | cons_cons _ h => exact ⟨_, List.Perm.refl _, (h.cons _).cons_cons _⟩
    | cons_cons _ h =>
      cases h with
      | cons _ h => exact ⟨_, List.Perm.refl _, (h.cons_cons _).cons _⟩
      | cons_cons _ h => exact ⟨_, List.Perm.swap _ _ _, (h.cons_cons _).cons_cons _⟩
  | trans p1 p2 ih1 ih2 =>
    intro l h
    obtain ⟨l1, q1, s1⟩ := ih1 h
    obtain ⟨l2, q2, s2⟩ := ih2 s1
    exact ⟨l2, q2.trans q1, s2⟩
theorem drop_cP (P : List Int) {k : Nat} (hk : k ≤ P.length) (s : Int) : cP ((srt P).drop k) s = min (cP P s) (P.length - k) := by
  have hl : (srt P).length = P.length := (srt_perm P).length_eq
  have ht : cP P s = cP ((srt P).take k) s + cP ((srt P).drop k) s := by rw [← cP_append, List.take_append_drop, cP_perm (srt_perm P)]
  have hle := cP_le ((srt P).drop k) s
  rw [List.length_drop, hl] at hle
  by_cases hd : ∀ x ∈ (srt P).drop k, s ≤ x
  · rw [cP_all hd, List.length_drop, hl] at *
    omega
  · obtain ⟨x, hx⟩ := Classical.not_forall.mp hd
    obtain ⟨hx1, hx2⟩ := Classical.not_imp.mp hx
    have h0 : cP ((srt P).take k) s = 0 := cP_zero fun y hy => by
      have hp := srt_sorted P
      rw [← List.take_append_drop k (srt P)] at hp
      have := (List.pairwise_append.mp hp).2.2 y hy x hx1
      omega
    omega
theorem best_larger {feet pairs xs : List Int} {k : Nat} (hk : k ≤ pairs.length) {m : Int} (hx : ∀ x ∈ xs, x ≤ 1000000) (hM : (1000000 : Int) ∈ xs)
    (h1 : m ∈ (keptL pairs k).flatMap fun row => (bagsL xs k).map fun b => fewN feet (row ++ b)) (h2 : ∀ y ∈ (keptL pairs k).flatMap fun row => (bagsL xs k).map fun b => fewN feet (row ++ b), y ≤ m) : m = fewL feet pairs k := by
  have hl : (srt pairs).length = pairs.length := (srt_perm pairs).length_eq
  obtain ⟨row, hrow, h1⟩ := List.mem_flatMap.mp h1
  obtain ⟨b, hb, rfl⟩ := List.mem_map.mp h1
  obtain ⟨l1, l2⟩ := bags_ok hb
  obtain ⟨s1, s2⟩ := mem_keptL.mp hrow
  obtain ⟨r', p1, s3⟩ := sub_perm (srt_perm pairs) (List.drop_sublist k (srt pairs))
  have hr' : r' ∈ keptL pairs k := mem_keptL.mpr ⟨s3, by rw [p1.length_eq, List.length_drop, hl]; omega⟩
  have h3 := h2 _ (List.mem_flatMap.mpr ⟨r', hr', List.mem_map_of_mem (bags_rep hM k)⟩)
  have h4 : fewN feet (row ++ b) ≤ fewL feet pairs k := few_mono fun s => by
    rw [cP_append, cP_append, cP_rep, drop_cP pairs hk]
    have q1 := cP_sub s1 s
    have q2 := cP_le row s
    by_cases hs : s ≤ 1000000
    · rw [if_pos hs]
      have := cP_le b s
      omega
    · rw [if_neg hs, cP_zero (l := b) fun x hx' => by have := hx x (l2 x hx'); omega]
      omega
  have h5 : fewL feet pairs k ≤ fewN feet (r' ++ repM k) := few_mono fun s => by
    rw [cP_append, cP_append, cP_perm p1]
    exact Nat.le_refl _
  have h6 : fewN feet (r' ++ repM k) ≤ fewN feet (row ++ b) := h3
  omega
/-! who can go without -/
def bySz (pairs ps : List Int) : List Int := ps.mergeSort fun a b => decide (Lx (getI pairs) a b)
theorem Lx_trans {key : Int → Int} {a b c : Int} (h1 : Lx key a b) (h2 : Lx key b c) : Lx key a c := by unfold Lx at *; omega
theorem Lx_tot (key : Int → Int) (a b : Int) : (decide (Lx key a b) || decide (Lx key b a)) = true := by
  rw [Bool.or_eq_true, decide_eq_true_eq, decide_eq_true_eq]
  unfold Lx
  omega
theorem bySz_perm (pairs ps : List Int) : (bySz pairs ps).Perm ps := List.mergeSort_perm _ _
theorem bySz_sorted (pairs ps : List Int) : (bySz pairs ps).Pairwise (Lx (getI pairs)) :=
  (List.pairwise_mergeSort (le := fun a b : Int => decide (Lx (getI pairs) a b)) (fun a b c h1 h2 => decide_eq_true (Lx_trans (of_decide_eq_true h1) (of_decide_eq_true h2))) (Lx_tot (getI pairs)) ps).imp fun h => of_decide_eq_true h
theorem bySz_of {pairs ps : List Int} {qs : List (Int × Int)} (hp : qs.Perm (ps.map fun j => (getI pairs j, j))) (hs : qs.Pairwise fun p q => p.1 < q.1 ∨ (p.1 = q.1 ∧ p.2 ≤ q.2)) : qs.map (·.2) = bySz pairs ps := by
  have hp2 : (qs.map (·.2)).Perm ps := by
    have := hp.map (·.2)
    rw [List.map_map] at this
    rwa [show ((fun x : Int × Int => x.2) ∘ fun j => (getI pairs j, j)) = id from rfl, List.map_id] at this
  refine Lx_uniq (hp2.trans (bySz_perm pairs ps).symm) ?_ (bySz_sorted pairs ps)
  rw [List.pairwise_map]
  refine hs.imp_of_mem fun {a b} ha hb h => ?_
  obtain ⟨x, _, rfl⟩ := List.mem_map.mp (hp.mem_iff.mp ha)
  obtain ⟨y, _, rfl⟩ := List.mem_map.mp (hp.mem_iff.mp hb)
  exact h
def fitL (feet pairs : List Int) (g : Int) : List Int := (intsN pairs.length).filter fun j => decide (getI feet g ≤ getI pairs j)
def smallL (feet pairs : List Int) (g : Int) : List Int := (intsN pairs.length).filter fun j => decide (getI pairs j < getI feet g)
def othersG (n : Nat) (g : Int) : List Int := (intsN n).filter fun o => decide (o ≠ g)
def againstO (feet : List Int) (others : List Int) : List Int := (obf feet).filter fun o => decide (o ∈ others)
def againstR (feet pairs others : List Int) (g : Int) : List (Int × Int) := byL feet pairs (bySz pairs (fitL feet pairs g) ++ smallL feet pairs g) (againstO feet others ++ [g])
def canTake (F S : List Int) : Bool := S.all fun z => decide ((S.filter fun o => decide (o ≤ z)).length ≤ (F.filter fun f => decide (f ≤ z)).length)
/-- who leaves first the pairs that fit g -/
def rlG (feet pairs : List Int) (g : Int) (i j : Int) : Prop := getI feet g ≤ getI pairs j → (getI feet g ≤ getI pairs i ∧ getI pairs i ≤ getI pairs j)
theorem rlG_refl (feet pairs : List Int) (g a : Int) : rlG feet pairs g a a := fun h => ⟨h, Int.le_refl _⟩
theorem liking_rl (feet pairs : List Int) (g : Int) : (bySz pairs (fitL feet pairs g) ++ smallL feet pairs g).Pairwise (rlG feet pairs g) := by
  rw [List.pairwise_append]
  refine ⟨(bySz_sorted pairs _).imp_of_mem fun {a b} ha hb h => fun _ => ?_, ?_, ?_⟩
  · have ha := of_decide_eq_true (List.mem_filter.mp ((bySz_perm pairs _).mem_iff.mp ha)).2
    unfold Lx at h
    exact ⟨ha, by omega⟩
  · refine List.pairwise_iff_forall_sublist.mpr fun {a b} h hb => ?_
    have := of_decide_eq_true (List.mem_filter.mp (h.subset (show b ∈ [a, b] by simp))).2
    omega
  · intro a ha b hb h
    have := of_decide_eq_true (List.mem_filter.mp hb).2
    omega
theorem liking_perm (feet pairs : List Int) (g : Int) : (bySz pairs (fitL feet pairs g) ++ smallL feet pairs g).Perm (intsN pairs.length) := by
  refine ((bySz_perm pairs _).append_right _).trans ?_
  unfold fitL smallL
  have h := List.filter_append_perm (fun j => decide (getI feet g ≤ getI pairs j)) (intsN pairs.length)
  have e : (intsN pairs.length).filter (fun j => decide (getI pairs j < getI feet g)) = (intsN pairs.length).filter (fun j => !decide (getI feet g ≤ getI pairs j)) := by
    refine List.filter_congr fun x _ => ?_
    by_cases q : getI feet g ≤ getI pairs x
    · rw [decide_eq_true q, decide_eq_false (by omega)]; rfl
    · rw [decide_eq_false q, decide_eq_true (by omega)]; rfl
  rw [e]
  exact h
theorem order_perm {n : Nat} {l : List Int} (h : l.Perm (intsN n)) {g : Int} (hg : g ∈ intsN n) : (l.filter (fun o => decide (o ∈ othersG n g)) ++ [g]).Perm (intsN n) := by
  have nd : (intsN n).Nodup := (intsN_lt n).imp fun h => Int.ne_of_lt h
  have e : l.filter (fun o => decide (o ∈ othersG n g)) = l.filter fun o => decide (o ≠ g) := by
    refine List.filter_congr fun x hx => ?_
    refine decide_eq_decide.mpr ?_
    unfold othersG
    rw [List.mem_filter, decide_eq_true_eq]
    exact ⟨fun q => q.2, fun q => ⟨h.mem_iff.mp hx, q⟩⟩
  rw [e, ← erase_filter (h.nodup_iff.mpr nd)]
  exact (List.perm_append_comm.trans (List.perm_cons_erase (h.mem_iff.mpr hg)).symm).trans h
/-- the run against g -/
theorem against_v {feet pairs : List Int} {g : Int} (hg : g ∈ intsN feet.length) : RunV (rlG feet pairs g) feet pairs (againstR feet pairs (othersG feet.length g) g) := by
  unfold againstR
  refine ⟨by rw [byL_fst]; exact order_perm (obf_perm feet) hg, ?_⟩
  exact (byL_gs (rlG_refl feet pairs g) feet pairs _ _ (liking_rl feet pairs g)).perm (liking_perm feet pairs g)
theorem byL_last (feet pairs : List Int) (g : Int) : ∀ (order left : List Int), ∃ (a : List (Int × Int)) (j : Int), byL feet pairs left (order ++ [g]) = a ++ [(g, j)]
  | [], left => by
    show ∃ a j, byL feet pairs left [g] = a ++ [(g, j)]
    cases e : left.filter fun j => decide (getI feet g ≤ getI pairs j) with
    | nil => exact ⟨[], -1, by rw [byL_nil e]; rfl⟩
    | cons j js => exact ⟨[], j, by rw [byL_cons e]; rfl⟩
  | o :: order, left => by
    rw [List.cons_append]
    cases e : left.filter fun j => decide (getI feet o ≤ getI pairs j) with
    | nil =>
      obtain ⟨a, j, h⟩ := byL_last feet pairs g order left
      exact ⟨(o, -1) :: a, j, by rw [byL_nil e, h]; rfl⟩
    | cons i is =>
      obtain ⟨a, j, h⟩ := byL_last feet pairs g order (left.erase i)
      exact ⟨(o, i) :: a, j, by rw [byL_cons e, h]; rfl⟩
def tkn (a : List (Int × Int)) : List Int := (a.filter fun q => decide (q.2 ≠ -1)).map (·.2)
theorem gs_after {rl : Int → Int → Prop} {feet pairs : List Int} {q : Int × Int} {b : List (Int × Int)} : ∀ {a : List (Int × Int)} {left : List Int}, left.Nodup → (∀ j ∈ left, 0 ≤ j) → Gs rl feet pairs left (a ++ q :: b) →
    ∃ left', (∀ j, j ∈ left' ↔ (j ∈ left ∧ j ∉ tkn a)) ∧ (tkn a).Nodup ∧ (∀ j ∈ tkn a, j ∈ left) ∧ Gs rl feet pairs left' (q :: b) ∧
      (∀ p ∈ a, p.2 ≠ -1 → fitG feet pairs p.1 p.2 = true) ∧ (∀ p ∈ a, ∀ i ∈ left', fitG feet pairs p.1 i = true → p.2 ≠ -1 ∧ rl p.2 i)
  | [], left, nd, h0, h => ⟨left, fun j => by simp [tkn], List.nodup_nil, fun _ h => (nomatch h), h, fun _ h => (nomatch h), fun _ h => (nomatch h)⟩
  | p :: a, left, nd, h0, h => by
    rcases h with ⟨x, y, z⟩ | ⟨x, y, u, z⟩
    · obtain ⟨l', m1, m2, m3, m4, m5, m6⟩ := gs_after nd h0 z
      have e : tkn (p :: a) = tkn a := by unfold tkn; rw [List.filter_cons, if_neg (by simp [y])]
      refine ⟨l', by rw [e]; exact m1, by rw [e]; exact m2, by rw [e]; exact m3, m4, fun r hr => ?_, fun r hr i hi hf => ?_⟩
      · rcases List.mem_cons.mp hr with rfl | hr
        · exact fun q => absurd y q
        · exact m5 r hr
      · rcases List.mem_cons.mp hr with rfl | hr
        · have := x i ((m1 i).mp hi).1
          rw [this] at hf; exact absurd hf Bool.false_ne_true
        · exact m6 r hr i hi hf
    · have hp0 := h0 p.2 x
      have hne : p.2 ≠ -1 := by omega
      obtain ⟨l', m1, m2, m3, m4, m5, m6⟩ := gs_after (nd.sublist List.erase_sublist) (fun j hj => h0 j (List.mem_of_mem_erase hj)) z
      have e : tkn (p :: a) = p.2 :: tkn a := by unfold tkn; rw [List.filter_cons, if_pos (by simpa using hne)]; rfl
      have me : ∀ j, j ∈ left.erase p.2 ↔ (j ∈ left ∧ j ≠ p.2) := fun j => by rw [nd.mem_erase_iff]; exact And.comm
      refine ⟨l', fun j => ?_, ?_, fun j hj => ?_, m4, fun r hr => ?_, fun r hr i hi hf => ?_⟩
      · rw [e, m1 j, me j, List.mem_cons]
        constructor
        · rintro ⟨⟨q1, q2⟩, q3⟩; exact ⟨q1, fun q => q.elim q2 q3⟩
        · rintro ⟨q1, q2⟩; exact ⟨⟨q1, fun q => q2 (.inl q)⟩, fun q => q2 (.inr q)⟩
      · rw [e, List.nodup_cons]
        exact ⟨fun q => ((me _).mp (m3 _ q)).2 rfl, m2⟩
      · rw [e] at hj
        rcases List.mem_cons.mp hj with rfl | hj
        · exact x
        · exact List.mem_of_mem_erase (m3 j hj)
      · rcases List.mem_cons.mp hr with rfl | hr
        · exact fun _ => y
        · exact m5 r hr
      · rcases List.mem_cons.mp hr with rfl | hr
        · exact ⟨hne, u i (List.mem_of_mem_erase ((m1 i).mp hi).1) hf⟩
        · exact m6 r hr i hi hf
/-- feet of the others, sizes that fit -/
def othF (feet : List Int) (g : Int) : List Int := (othersG feet.length g).map (getI feet)
def fitS (feet pairs : List Int) (g : Int) : List Int := pairs.filter fun z => decide (getI feet g ≤ z)
theorem fitS_eq (feet pairs : List Int) (g : Int) : fitS feet pairs g = (fitL feet pairs g).map (getI pairs) := by
  unfold fitS fitL
  conv => lhs; rw [← szL_ints pairs]
  unfold szL
  rw [List.filter_map]
  rfl
theorem cnt_S (feet pairs : List Int) (g z : Int) : ((fitS feet pairs g).filter fun o => decide (o ≤ z)).length = ((fitL feet pairs g).filter fun j => decide (getI pairs j ≤ z)).length := by
  rw [fitS_eq, List.filter_map, List.length_map]
  rfl
theorem cnt_F (feet : List Int) (g z : Int) : ((othF feet g).filter fun f => decide (f ≤ z)).length = ((othersG feet.length g).filter fun o => decide (getI feet o ≤ z)).length := by
  unfold othF
  rw [List.filter_map, List.length_map]
  rfl
theorem take_iff {F S : List Int} : canTake F S = true ↔ ∀ z ∈ S, (S.filter fun o => decide (o ≤ z)).length ≤ (F.filter fun f => decide (f ≤ z)).length := by
  unfold canTake
  rw [List.all_eq_true]
  exact ⟨fun h z hz => of_decide_eq_true (h z hz), fun h z hz => decide_eq_true (h z hz)⟩
theorem tkn_mem {a : List (Int × Int)} {j : Int} : j ∈ tkn a ↔ ∃ p ∈ a, p.2 ≠ -1 ∧ p.2 = j := by
  unfold tkn
  rw [List.mem_map]
  constructor
  · rintro ⟨p, hp, rfl⟩
    obtain ⟨h1, h2⟩ := List.mem_filter.mp hp
    exact ⟨p, h1, of_decide_eq_true h2, rfl⟩
  · rintro ⟨p, hp, h, rfl⟩
    exact ⟨p, List.mem_filter.mpr ⟨hp, decide_eq_true h⟩, rfl⟩
theorem fst_split {n : Nat} {a b : List (Int × Int)} {q : Int × Int} (h : ((a ++ q :: b).map (·.1)).Perm (intsN n)) : (a.map (·.1)).Nodup ∧ ∀ p ∈ a, p.1 ∈ othersG n q.1 := by
  have nd := h.nodup_iff.mpr ((intsN_lt n).imp fun h => Int.ne_of_lt h)
  rw [List.map_append, List.nodup_append] at nd
  refine ⟨nd.1, fun p hp => List.mem_filter.mpr ⟨h.mem_iff.mp (List.mem_map_of_mem (List.mem_append_left _ hp)), decide_eq_true fun e => ?_⟩⟩
  exact nd.2.2 p.1 (List.mem_map_of_mem hp) q.1 (by simp) e
/-- who goes without in a run: the others could take all pairs that fit -/
theorem miss_take {rl : Int → Int → Prop} {feet pairs : List Int} {run : List (Int × Int)} (h : RunV rl feet pairs run) {g : Int} (hm : (g, (-1 : Int)) ∈ run) : canTake (othF feet g) (fitS feet pairs g) = true := by
  obtain ⟨a, b, rfl⟩ := List.append_of_mem hm
  obtain ⟨l', m1, m2, m3, m4, m5, m6⟩ := gs_after ((intsN_lt _).imp fun h => Int.ne_of_lt h) (fun j hj => (mem_intsN hj).1) h.s
  obtain ⟨n1, n2⟩ := fst_split h.g
  have hno : ∀ j ∈ l', fitG feet pairs g j = false := by
    rcases m4 with ⟨x, _, _⟩ | ⟨x, _, _, _⟩
    · exact x
    · have := (mem_intsN ((m1 _).mp x).1).1
      exact absurd (show (0 : Int) ≤ -1 from this) (by decide)
  rw [take_iff]
  intro z _
  rw [cnt_S, cnt_F]
  -- the takers
  have t1 : ((fitL feet pairs g).filter fun j => decide (getI pairs j ≤ z)).length ≤ ((a.filter fun q => decide (getI feet q.1 ≤ z)).map (·.2)).length := by
    refine nodup_len ?_ fun j hj => ?_
    · exact (((intsN_lt _).imp fun h => Int.ne_of_lt h).filter _).filter _
    · obtain ⟨q1, q2⟩ := List.mem_filter.mp hj
      obtain ⟨q3, q4⟩ := List.mem_filter.mp q1
      have q2 := of_decide_eq_true q2
      have hj' : j ∈ tkn a := Classical.byContradiction fun hn => by
        have := hno j ((m1 j).mpr ⟨q3, hn⟩)
        unfold fitG at this
        rw [this] at q4
        exact absurd q4 Bool.false_ne_true
      obtain ⟨p, hp, hp1, rfl⟩ := tkn_mem.mp hj'
      have hf := of_decide_eq_true (m5 p hp hp1)
      exact List.mem_map_of_mem (List.mem_filter.mpr ⟨hp, decide_eq_true (by omega)⟩)
  have t2 : ((a.filter fun q => decide (getI feet q.1 ≤ z)).map (·.1)).length ≤ ((othersG feet.length g).filter fun o => decide (getI feet o ≤ z)).length := by
    refine nodup_len (n1.sublist (List.filter_sublist.map _)) fun o ho => ?_
    obtain ⟨p, hp, rfl⟩ := List.mem_map.mp ho
    obtain ⟨q1, q2⟩ := List.mem_filter.mp hp
    exact List.mem_filter.mpr ⟨n2 p q1, q2⟩
  rw [List.length_map] at t1 t2
  omega
/-- who leaves last, after the others took what fits, goes without if they can take all -/
theorem take_miss {feet pairs : List Int} {g j : Int} {a : List (Int × Int)} (h : RunV (rlG feet pairs g) feet pairs (a ++ [(g, j)])) (ht : canTake (othF feet g) (fitS feet pairs g) = true) : j = -1 := by
  obtain ⟨l', m1, m2, m3, m4, m5, m6⟩ := gs_after ((intsN_lt _).imp fun h => Int.ne_of_lt h) (fun j hj => (mem_intsN hj).1) h.s
  obtain ⟨n1, n2⟩ := fst_split h.g
  rcases m4 with ⟨_, y, _⟩ | ⟨x, y, _, _⟩
  · exact y
  exfalso
  have x : j ∈ l' := x
  have y : getI feet g ≤ getI pairs j := of_decide_eq_true y
  obtain ⟨x1, x2⟩ := (m1 j).mp x
  have hjf : j ∈ fitL feet pairs g := List.mem_filter.mpr ⟨x1, decide_eq_true y⟩
  have hz := (take_iff.mp ht) (getI pairs j) (by rw [fitS_eq]; exact List.mem_map_of_mem hjf)
  rw [cnt_S, cnt_F] at hz
  -- all others with feet up to this size took another such pair
  have hlen : (a.map (·.1)).length = (othersG feet.length g).length := by
    have h1 := h.g.length_eq
    rw [List.map_append, List.length_append, intsN_len] at h1
    have h2 := (order_perm (List.Perm.refl (intsN feet.length)) (g := g) (h.g.mem_iff.mp (by simp))).length_eq
    rw [List.length_append, intsN_len] at h2
    have e : (intsN feet.length).filter (fun o => decide (o ∈ othersG feet.length g)) = othersG feet.length g := by
      conv => rhs; unfold othersG
      refine List.filter_congr fun x hx => decide_eq_decide.mpr ?_
      unfold othersG
      rw [List.mem_filter, decide_eq_true_eq]
      exact ⟨fun q => q.2, fun q => ⟨hx, q⟩⟩
    rw [e] at h2
    have h3 : ([(g, j)].map (·.1)).length = 1 := rfl
    have h4 : [g].length = 1 := rfl
    omega
  have hall : ∀ o ∈ othersG feet.length g, o ∈ a.map (·.1) := fun o ho => by
    have nd : (othersG feet.length g).Nodup := ((intsN_lt _).imp fun h => Int.ne_of_lt h).filter _
    exact (nodup_perm n1 nd (fun x hx => by obtain ⟨p, hp, rfl⟩ := List.mem_map.mp hx; exact n2 p hp) (by omega)).mem_iff.mpr ho
  have t1 : ((othersG feet.length g).filter fun o => decide (getI feet o ≤ getI pairs j)).length ≤ ((a.filter fun q => decide (getI feet q.1 ≤ getI pairs j)).map (·.1)).length := by
    refine nodup_len (((intsN_lt _).imp fun h => Int.ne_of_lt h).filter _ |>.filter _) fun o ho => ?_
    obtain ⟨q1, q2⟩ := List.mem_filter.mp ho
    obtain ⟨p, hp, rfl⟩ := List.mem_map.mp (hall o q1)
    exact List.mem_map_of_mem (List.mem_filter.mpr ⟨hp, q2⟩)
  have t2 : (j :: (a.filter fun q => decide (getI feet q.1 ≤ getI pairs j)).map (·.2)).length ≤ ((fitL feet pairs g).filter fun i => decide (getI pairs i ≤ getI pairs j)).length := by
    have hg2 : ∀ p ∈ a.filter (fun q => decide (getI feet q.1 ≤ getI pairs j)), p ∈ a ∧ p.2 ≠ -1 ∧ rlG feet pairs g p.2 j := fun p hp => by
      obtain ⟨q1, q2⟩ := List.mem_filter.mp hp
      obtain ⟨r1, r2⟩ := m6 p q1 j x q2
      exact ⟨q1, r1, r2⟩
    have sub : ((a.filter fun q => decide (getI feet q.1 ≤ getI pairs j)).map (·.2)).Sublist (tkn a) := by
      unfold tkn
      have e : (a.filter fun q => decide (getI feet q.1 ≤ getI pairs j)) = (a.filter fun q => decide (q.2 ≠ -1)).filter fun q => decide (getI feet q.1 ≤ getI pairs j) := by
        rw [List.filter_filter]
        refine List.filter_congr fun p hp => ?_
        by_cases c : getI feet p.1 ≤ getI pairs j
        · have := (hg2 p (List.mem_filter.mpr ⟨hp, decide_eq_true c⟩)).2.1
          rw [decide_eq_true c, decide_eq_true this]; rfl
        · rw [decide_eq_false c]; rfl
      rw [e]
      exact List.filter_sublist.map _
    refine nodup_len (List.nodup_cons.mpr ⟨fun q => x2 (sub.subset q), m2.sublist sub⟩) fun i hi => ?_
    rcases List.mem_cons.mp hi with rfl | hi
    · exact List.mem_filter.mpr ⟨hjf, decide_eq_true (Int.le_refl _)⟩
    · obtain ⟨p, hp, rfl⟩ := List.mem_map.mp hi
      obtain ⟨r1, r2, r3⟩ := hg2 p hp
      obtain ⟨r4, r5⟩ := r3 y
      exact List.mem_filter.mpr ⟨List.mem_filter.mpr ⟨m3 _ (tkn_mem.mpr ⟨p, r1, r2, rfl⟩), decide_eq_true r4⟩, decide_eq_true r5⟩
  rw [List.length_map] at t1
  rw [List.length_cons, List.length_map] at t2
  omega
theorem eqvA_ints : ∀ a b : List Int, PyData.eqvAll (a.map .int) (b.map .int) = decide (a = b)
  | [], [] => by rfl
  | [], _ :: _ => by rfl
  | _ :: _, [] => by rfl
  | x :: xs, y :: ys => by
    show (decide (x = y) && PyData.eqvAll (xs.map .int) (ys.map .int)) = _
    rw [eqvA_ints xs ys]
    by_cases h : x = y <;> by_cases h2 : xs = ys <;> simp [h, h2]
theorem eqv_ints (a b : List Int) : PyData.eqv (.list (a.map .int)) (.list (b.map .int)) = decide (a = b) := eqvA_ints a b
theorem eqv_pr (a b c d : Int) : PyData.eqv (.tuple [.int a, .int b]) (.tuple [.int c, .int d]) = (decide (a = c) && decide (b = d)) := by
  rw [show PyData.eqv (.tuple [.int a, .int b]) (.tuple [.int c, .int d]) = (decide (a = c) && (decide (b = d) && true)) from rfl, Bool.and_true]
theorem any_pr (run : List (Int × Int)) (a b : Int) : ((run.map prD).any fun z => PyData.eqv z (.tuple [.int a, .int b])) = decide ((a, b) ∈ run) := by
  rw [List.any_map]
  by_cases h : (a, b) ∈ run
  · rw [decide_eq_true h, List.any_eq_true]
    refine ⟨(a, b), h, ?_⟩
    show PyData.eqv (.tuple [.int a, .int b]) (.tuple [.int a, .int b]) = true
    rw [eqv_pr]; simp
  · rw [decide_eq_false h, List.any_eq_false]
    intro q hq
    show ¬ PyData.eqv (.tuple [.int q.1, .int q.2]) (.tuple [.int a, .int b]) = true
    rw [eqv_pr]
    intro e
    rw [Bool.and_eq_true, decide_eq_true_eq, decide_eq_true_eq] at e
    exact h (by rw [← e.1, ← e.2]; exact hq)
theorem sh_run (run : List (Int × Int)) : Sh (runD run) :=
  Bool.and_eq_true_iff.mpr ⟨by show PyData.canLay0 (.tuple (run.map prD)) = true; simp only [PyData.canLay0]; exact canAll fun d hd => by obtain ⟨_, _, rfl⟩ := List.mem_map.mp hd; rfl, decide_eq_true (by
    show PyData.depth (.tuple (run.map prD)) ≤ 64
    simp only [PyData.depth]
    exact Nat.le_trans (Nat.succ_le_succ (depthAll_le (k := 1) fun d hd => by obtain ⟨_, _, rfl⟩ := List.mem_map.mp hd; exact Nat.le_refl _)) (by decide))⟩
theorem atI_lastG {α : Type} (l : List α) (p : α) : atI (l ++ [p]) (-1) = some p := by
  unfold atI ixN
  rw [if_neg (by decide)]
  rw [List.length_append, List.length_singleton, if_pos (by omega), show (-1 + ((l.length + 1 : Nat) : Int)).toNat = l.length by omega]
  show (l ++ [p])[l.length]? = _
  rw [List.getElem?_append_right (Nat.le_refl _), Nat.sub_self]
  rfl
def withoutD (feet pairs : List Int) (g : Int) : PyData := if canTake (othF feet g) (fitS feet pairs g) = true then runD (againstR feet pairs (othersG feet.length g) g) else .none
theorem leftT_next (m : Nat) (T : List Int) (j : Int) : (leftT m T).filter (fun o => decide (o ≠ j)) = leftT m (T ++ [j]) := by
  rw [← leftT_erase, erase_filter ((leftT_lt m T).imp fun h => Int.ne_of_lt h)]
theorem gs_ok {feet pairs : List Int} {m : Nat} {run : List (Int × Int)} : ∀ {k : Nat} {q : Int × Int}, run[k]? = some q → Gs anyR feet pairs (leftT m []) run → okq feet pairs (leftT m ((run.take k).map (·.2))) q := fun {k q} hq h => by
  have hs : run = run.take k ++ q :: run.drop (k + 1) := by
    obtain ⟨h1, h2⟩ := List.getElem?_eq_some_iff.mp hq
    conv => lhs; rw [← List.take_append_drop k run, List.drop_eq_getElem_cons h1, h2]
  have pre : ∀ (a b : List (Int × Int)) (T : List Int), Gs anyR feet pairs (leftT m T) (a ++ b) → Gs anyR feet pairs (leftT m (T ++ a.map (·.2))) b := by
    intro a
    induction a with
    | nil => intro b T h; simpa using h
    | cons p a ih =>
      intro b T h
      have e : T ++ (p :: a).map (·.2) = T ++ [p.2] ++ a.map (·.2) := by simp
      rw [e]
      rcases h with ⟨x, y, z⟩ | ⟨x, y, u, z⟩
      · refine ih b (T ++ [p.2]) ?_
        have e1 : leftT m T = leftT m (T ++ [p.2]) := by rw [← leftT_erase, y, List.erase_of_not_mem (neg_not m T)]
        rw [← e1]; exact z
      · refine ih b (T ++ [p.2]) ?_
        rw [← leftT_erase]; exact z
  rw [hs] at h
  have := pre _ _ _ h
  rw [List.nil_append] at this
  rcases this with ⟨x, y, _⟩ | ⟨x, y, _, _⟩
  · exact .inl ⟨x, y⟩
  · exact .inr ⟨x, y⟩
theorem takeL_eq {hall : List Int} {g : Int} : (enumD (hall.map .int)) = (intsN hall.length).map fun j => .tuple [.int j, .int (getI hall j)] := enum_ints hall
theorem without_form {feet pairs : List Int} {g : Int} (hg : g ∈ intsN feet.length) : (canTake (othF feet g) (fitS feet pairs g) = true ∧ ∃ W, withoutD feet pairs g = runD W ∧ RunV anyR feet pairs W ∧ (g, (-1 : Int)) ∈ W) ∨ (canTake (othF feet g) (fitS feet pairs g) = false ∧ withoutD feet pairs g = .none) := by
  unfold withoutD
  cases hc : canTake (othF feet g) (fitS feet pairs g) with
  | true =>
    have hv := against_v (pairs := pairs) hg
    obtain ⟨a, j, ha⟩ : ∃ a j, againstR feet pairs (othersG feet.length g) g = a ++ [(g, j)] := byL_last feet pairs g _ _
    refine .inl ⟨rfl, _, if_pos rfl, hv.any, ?_⟩
    rw [ha] at hv ⊢
    rw [take_miss hv hc]
    simp
  | false => exact .inr ⟨rfl, if_neg (by decide)⟩
theorem any_miss {feet pairs : List Int} {g : Int} (hg : g ∈ intsN feet.length) : ((allRuns feet pairs).filter fun r => decide ((g, (-1 : Int)) ∈ r)).isEmpty = !canTake (othF feet g) (fitS feet pairs g) := by
  rcases without_form (pairs := pairs) hg with ⟨h, W, _, hv, hm⟩ | ⟨h, _⟩
  · rw [h]
    have : W ∈ (allRuns feet pairs).filter fun r => decide ((g, (-1 : Int)) ∈ r) := List.mem_filter.mpr ⟨mem_all.mpr hv, decide_eq_true hm⟩
    cases e : (allRuns feet pairs).filter fun r => decide ((g, (-1 : Int)) ∈ r) with
    | nil => rw [e] at this; cases this
    | cons _ _ => rfl
  · rw [h]
    have : (allRuns feet pairs).filter (fun r => decide ((g, (-1 : Int)) ∈ r)) = [] := List.filter_eq_nil_iff.mpr fun r hr hm => by
      have := miss_take (mem_all.mp hr) (of_decide_eq_true hm)
      rw [h] at this
      exact absurd this Bool.false_ne_true
    rw [this]
    rfl
theorem sh_runs (rs : List (List (Int × Int))) : Sh (.list (rs.map runD)) :=
  Bool.and_eq_true_iff.mpr ⟨by show PyData.canLay0 (.list (rs.map runD)) = true; simp only [PyData.canLay0]; exact canAll fun d hd => by obtain ⟨r, _, rfl⟩ := List.mem_map.mp hd; exact (Bool.and_eq_true_iff.mp (sh_run r)).1, decide_eq_true (by
    show PyData.depth (.list (rs.map runD)) ≤ 64
    simp only [PyData.depth]
    exact Nat.le_trans (Nat.succ_le_succ (depthAll_le (k := 2) fun d hd => by
      obtain ⟨r, _, rfl⟩ := List.mem_map.mp hd
      show PyData.depth (.tuple (r.map prD)) ≤ 2
      simp only [PyData.depth]
      exact Nat.succ_le_succ (depthAll_le (k := 1) fun d hd => by obtain ⟨_, _, rfl⟩ := List.mem_map.mp hd; exact Nat.le_refl _))) (by decide))⟩
theorem mem_ints {n : Nat} {g : Int} (h1 : 0 ≤ g) (h2 : g < n) : g ∈ intsN n := List.mem_map.mpr ⟨g.toNat, List.mem_range.mpr (by omega), by omega⟩
theorem rpick {k : Nat} {a b : PyData} : ∃ d, atI [a, b] ((0 + (k : Int)) % 2) = some d ∧ (((0 + (k : Int)) % 2 = 0 ∧ d = a) ∨ ((0 + (k : Int)) % 2 ≠ 0 ∧ d = b)) := by
  have h : (0 + (k : Int)) % 2 = 0 ∨ (0 + (k : Int)) % 2 = 1 := by omega
  rcases h with h | h
  · rw [h]; exact ⟨a, rfl, .inl ⟨rfl, rfl⟩⟩
  · rw [h]; exact ⟨b, rfl, .inr ⟨by decide, rfl⟩⟩
theorem zip_same {α : Type} (f g : α → PyData) : ∀ l : List α, zipD (l.map f) (l.map g) = l.map fun x => .tuple [f x, g x]
  | [] => rfl
  | a :: l => by
    have ih := zip_same f g l
    unfold zipD at ih ⊢
    rw [List.map_cons, List.map_cons, List.zip_cons_cons, List.map_cons, ih]
    rfl
theorem word_in (feet : List Int) (num s : Int) : ([PyData.str "feet", PyData.str "pairs"].any fun z => PyData.eqv z (.str (wordAt feet num s))) = true := by
  unfold wordAt
  split
  · decide +kernel
  · decide +kernel
theorem word_ix (feet : List Int) (num s : Int) : ∃ j : Nat, (["feet", "pairs"] : List Str)[j]? = some (wordAt feet num s) ∧ (∀ m, m < j → (["feet", "pairs"] : List Str)[m]? ≠ some (wordAt feet num s)) ∧ ((num ≤ (cF feet s : Int) ∧ j = 0) ∨ (¬ num ≤ (cF feet s : Int) ∧ j = 1)) := by
  unfold wordAt
  by_cases h : num ≤ (cF feet s : Int)
  · rw [if_pos h]
    exact ⟨0, rfl, fun m hm => absurd hm (Nat.not_lt_zero _), .inl ⟨h, rfl⟩⟩
  · rw [if_neg h]
    refine ⟨1, rfl, fun m hm => ?_, .inr ⟨h, rfl⟩⟩
    obtain rfl : m = 0 := by omega
    intro e
    have e : ("feet" : Str) = "pairs" := Option.some.inj e
    exact absurd e (by decide +kernel)
theorem sh_word (feet : List Int) (num s : Int) : Sh (.str (wordAt feet num s)) := by
  unfold wordAt
  split
  · exact (by decide +kernel : Sh (.str "feet"))
  · exact (by decide +kernel : Sh (.str "pairs"))
/-! pairs that can be left -/
def canServe (F S : List Int) : Bool := F.all fun f => decide ((F.filter fun o => decide (f ≤ o)).length ≤ (S.filter fun z => decide (f ≤ z)).length)
theorem serve_iff {F S : List Int} : canServe F S = true ↔ ∀ f ∈ F, (F.filter fun o => decide (f ≤ o)).length ≤ (S.filter fun z => decide (f ≤ z)).length := by
  unfold canServe
  rw [List.all_eq_true]
  exact ⟨fun h z hz => of_decide_eq_true (h z hz), fun h z hz => decide_eq_true (h z hz)⟩
def firstF (feet pairs : List Int) (p : Int) : List Int := feet.filter fun f => decide (f ≤ getI pairs p)
def othS (pairs : List Int) (p : Int) : List Int := (othersG pairs.length p).map (getI pairs)
def leavingR (feet pairs : List Int) (p : Int) : List (Int × Int) := byL feet pairs (bySz pairs (othersG pairs.length p) ++ [p]) (obf feet)
def leavingD (feet pairs : List Int) (p : Int) : PyData := if canServe (firstF feet pairs p) (othS pairs p) = true then runD (leavingR feet pairs p) else .none
def leaves (run : List (Int × Int)) (p : Int) : Bool := decide (p ∉ run.map (·.2))
/-- the smallest of the others first, p last -/
def rlP (pairs : List Int) (p i j : Int) : Prop := (i = j) ∨ (i ≠ p ∧ (j ≠ p → getI pairs i ≤ getI pairs j))
theorem likeP_rl (pairs : List Int) (p : Int) : (bySz pairs (othersG pairs.length p) ++ [p]).Pairwise (rlP pairs p) := by
  have hm : ∀ j ∈ bySz pairs (othersG pairs.length p), j ≠ p := fun j hj => of_decide_eq_true (List.mem_filter.mp ((bySz_perm pairs _).mem_iff.mp hj)).2
  rw [List.pairwise_append]
  refine ⟨(bySz_sorted pairs _).imp_of_mem fun {a b} ha hb h => .inr ⟨hm a ha, fun _ => by unfold Lx at h; omega⟩, List.pairwise_singleton _ _, fun a ha b hb => .inr ⟨hm a ha, fun q => absurd (List.mem_singleton.mp hb) q⟩⟩
theorem others_snoc {m : Nat} {p : Int} (hp : p ∈ intsN m) : (othersG m p ++ [p]).Perm (intsN m) := by
  have nd : (intsN m).Nodup := (intsN_lt m).imp fun h => Int.ne_of_lt h
  unfold othersG
  rw [← erase_filter nd]
  exact List.perm_append_comm.trans (List.perm_cons_erase hp).symm
theorem likeP_perm {pairs : List Int} {p : Int} (hp : p ∈ intsN pairs.length) : (bySz pairs (othersG pairs.length p) ++ [p]).Perm (intsN pairs.length) :=
  ((bySz_perm pairs _).append_right _).trans (others_snoc hp)
theorem leaving_v {feet pairs : List Int} {p : Int} (hp : p ∈ intsN pairs.length) : RunV (rlP pairs p) feet pairs (leavingR feet pairs p) := by
  unfold leavingR
  exact ⟨by rw [byL_fst]; exact obf_perm feet, (byL_gs (fun a => .inl rfl) feet pairs _ _ (likeP_rl pairs p)).perm (likeP_perm hp)⟩
theorem leaves_tkn {run : List (Int × Int)} {p : Int} (hp : 0 ≤ p) : leaves run p = true ↔ p ∉ tkn run := by
  unfold leaves
  rw [decide_eq_true_eq, tkn_mem, List.mem_map]
  constructor
  · rintro h ⟨q, hq, _, e⟩
    exact h ⟨q, hq, e⟩
  · rintro h ⟨q, hq, e⟩
    exact h ⟨q, hq, by omega, e⟩
theorem cnt_first (feet pairs : List Int) (p f : Int) : ((firstF feet pairs p).filter fun o => decide (f ≤ o)).length = ((intsN feet.length).filter fun g => decide (f ≤ getI feet g) && decide (getI feet g ≤ getI pairs p)).length := by
  unfold firstF
  rw [List.filter_filter]
  conv => lhs; rw [← szL_ints feet]
  unfold szL
  rw [List.filter_map, List.length_map]
  rfl
theorem cnt_oth (pairs : List Int) (p f : Int) : ((othS pairs p).filter fun z => decide (f ≤ z)).length = ((othersG pairs.length p).filter fun j => decide (f ≤ getI pairs j)).length := by
  unfold othS
  rw [List.filter_map, List.length_map]
  rfl
theorem gs_end {rl : Int → Int → Prop} {feet pairs : List Int} : ∀ {a : List (Int × Int)} {left : List Int}, left.Nodup → (∀ j ∈ left, 0 ≤ j) → Gs rl feet pairs left a →
    (tkn a).Nodup ∧ (∀ j ∈ tkn a, j ∈ left) ∧ (∀ p ∈ a, p.2 ≠ -1 → fitG feet pairs p.1 p.2 = true) ∧ (∀ p ∈ a, ∀ i ∈ left, i ∉ tkn a → fitG feet pairs p.1 i = true → p.2 ≠ -1)
  | [], left, nd, h0, h => ⟨List.nodup_nil, fun _ h => (nomatch h), fun _ h => (nomatch h), fun _ h => (nomatch h)⟩
  | p :: a, left, nd, h0, h => by
    rcases h with ⟨x, y, z⟩ | ⟨x, y, u, z⟩
    · obtain ⟨m2, m3, m5, m6⟩ := gs_end nd h0 z
      have e : tkn (p :: a) = tkn a := by unfold tkn; rw [List.filter_cons, if_neg (by simp [y])]
      refine ⟨by rw [e]; exact m2, by rw [e]; exact m3, fun r hr => ?_, fun r hr i hi hn hf => ?_⟩
      · rcases List.mem_cons.mp hr with rfl | hr
        · exact fun q => absurd y q
        · exact m5 r hr
      · rcases List.mem_cons.mp hr with rfl | hr
        · have := x i hi
          rw [this] at hf; exact absurd hf Bool.false_ne_true
        · exact m6 r hr i hi (by rw [e] at hn; exact hn) hf
    · have hp0 := h0 p.2 x
      have hne : p.2 ≠ -1 := by omega
      obtain ⟨m2, m3, m5, m6⟩ := gs_end (nd.sublist List.erase_sublist) (fun j hj => h0 j (List.mem_of_mem_erase hj)) z
      have e : tkn (p :: a) = p.2 :: tkn a := by unfold tkn; rw [List.filter_cons, if_pos (by simpa using hne)]; rfl
      refine ⟨?_, fun j hj => ?_, fun r hr => ?_, fun r hr i hi hn hf => ?_⟩
      · rw [e, List.nodup_cons]
        exact ⟨fun q => (nd.mem_erase_iff.mp (m3 _ q)).1 rfl, m2⟩
      · rw [e] at hj
        rcases List.mem_cons.mp hj with rfl | hj
        · exact x
        · exact List.mem_of_mem_erase (m3 j hj)
      · rcases List.mem_cons.mp hr with rfl | hr
        · exact fun _ => y
        · exact m5 r hr
      · rcases List.mem_cons.mp hr with rfl | hr
        · exact hne
        · rw [e, List.mem_cons] at hn
          exact m6 r hr i (nd.mem_erase_iff.mpr ⟨fun q => hn (.inl q), hi⟩) (fun q => hn (.inr q)) hf
/-- a pair that is left: the others serve all whom it fits -/
theorem left_serve {rl : Int → Int → Prop} {feet pairs : List Int} {run : List (Int × Int)} (h : RunV rl feet pairs run) {p : Int} (hp : p ∈ intsN pairs.length) (hl : leaves run p = true) : canServe (firstF feet pairs p) (othS pairs p) = true := by
  obtain ⟨m2, m3, m5, m6⟩ := gs_end ((intsN_lt _).imp fun h => Int.ne_of_lt h) (fun j hj => (mem_intsN hj).1) h.s
  have hpt := (leaves_tkn (mem_intsN hp).1).mp hl
  have nd := h.nd
  rw [serve_iff]
  intro f _
  rw [cnt_first, cnt_oth]
  have hall : ∀ g ∈ intsN feet.length, ∃ q ∈ run, q.1 = g := fun g hg => by
    obtain ⟨q, hq, e⟩ := List.mem_map.mp (h.g.mem_iff.mpr hg)
    exact ⟨q, hq, e⟩
  have t1 : ((intsN feet.length).filter fun g => decide (f ≤ getI feet g) && decide (getI feet g ≤ getI pairs p)).length ≤ ((run.filter fun q => decide (f ≤ getI feet q.1) && decide (getI feet q.1 ≤ getI pairs p)).map (·.1)).length := by
    refine nodup_len (((intsN_lt _).imp fun h => Int.ne_of_lt h).filter _) fun g hg => ?_
    obtain ⟨q1, q2⟩ := List.mem_filter.mp hg
    obtain ⟨q, hq, rfl⟩ := hall g q1
    exact List.mem_map_of_mem (List.mem_filter.mpr ⟨hq, q2⟩)
  have hg2 : ∀ q ∈ run.filter (fun q => decide (f ≤ getI feet q.1) && decide (getI feet q.1 ≤ getI pairs p)), q ∈ run ∧ q.2 ≠ -1 ∧ f ≤ getI pairs q.2 := fun q hq => by
    obtain ⟨q1, q2⟩ := List.mem_filter.mp hq
    rw [Bool.and_eq_true, decide_eq_true_eq, decide_eq_true_eq] at q2
    have hne := m6 q q1 p hp hpt (decide_eq_true q2.2)
    have := of_decide_eq_true (m5 q q1 hne)
    exact ⟨q1, hne, by omega⟩
  have sub : ((run.filter fun q => decide (f ≤ getI feet q.1) && decide (getI feet q.1 ≤ getI pairs p)).map (·.2)).Sublist (tkn run) := by
    unfold tkn
    have e : (run.filter fun q => decide (f ≤ getI feet q.1) && decide (getI feet q.1 ≤ getI pairs p)) = (run.filter fun q => decide (q.2 ≠ -1)).filter fun q => decide (f ≤ getI feet q.1) && decide (getI feet q.1 ≤ getI pairs p) := by
      rw [List.filter_filter]
      refine List.filter_congr fun q hq => ?_
      cases c : (decide (f ≤ getI feet q.1) && decide (getI feet q.1 ≤ getI pairs p)) with
      | true => rw [decide_eq_true (hg2 q (List.mem_filter.mpr ⟨hq, c⟩)).2.1]; rfl
      | false => rfl
    rw [e]
    exact List.filter_sublist.map _
  have t2 : ((run.filter fun q => decide (f ≤ getI feet q.1) && decide (getI feet q.1 ≤ getI pairs p)).map (·.2)).length ≤ ((othersG pairs.length p).filter fun j => decide (f ≤ getI pairs j)).length := by
    refine nodup_len (m2.sublist sub) fun j hj => ?_
    have hjt := sub.subset hj
    obtain ⟨q, hq, rfl⟩ := List.mem_map.mp hj
    exact List.mem_filter.mpr ⟨List.mem_filter.mpr ⟨m3 _ hjt, decide_eq_true fun e => hpt (e ▸ hjt)⟩, decide_eq_true (hg2 q hq).2.2⟩
  rw [List.length_map] at t1 t2
  omega
/-- who takes p: a small run of the others till then -/
theorem without_p {feet pairs : List Int} {p h : Int} {b : List (Int × Int)} : ∀ {a : List (Int × Int)} {left : List Int}, left.Nodup → (∀ j ∈ left, 0 ≤ j) → p ∈ left → p ∉ tkn a → Gs (rlP pairs p) feet pairs left (a ++ (h, p) :: b) →
    Gs (fun i j => getI pairs i ≤ getI pairs j) feet pairs (left.erase p) (a ++ [(h, -1)])
  | [], left, nd, h0, hp, _, g => by
    rcases g with ⟨_, y, _⟩ | ⟨_, _, u, _⟩
    · have := h0 p hp; exact absurd (show p = -1 from y) (by omega)
    · refine .inl ⟨fun i hi => Bool.eq_false_iff.mpr fun hf => ?_, rfl, trivial⟩
      obtain ⟨i1, i2⟩ := nd.mem_erase_iff.mp hi
      rcases u i i2 hf with e | ⟨e, _⟩
      · exact i1 e.symm
      · exact e rfl
  | q :: a, left, nd, h0, hp, ht, g => by
    rcases g with ⟨x, y, z⟩ | ⟨x, y, u, z⟩
    · have e : tkn (q :: a) = tkn a := by unfold tkn; rw [List.filter_cons, if_neg (by simp [y])]
      exact .inl ⟨fun j hj => x j (List.mem_of_mem_erase hj), y, without_p nd h0 hp (by rw [e] at ht; exact ht) z⟩
    · have hq0 := h0 q.2 x
      have e : tkn (q :: a) = q.2 :: tkn a := by unfold tkn; rw [List.filter_cons, if_pos (by simp; omega)]; rfl
      rw [e, List.mem_cons] at ht
      have hne : q.2 ≠ p := fun q => ht (.inl q.symm)
      refine .inr ⟨nd.mem_erase_iff.mpr ⟨hne, x⟩, y, fun i hi hf => ?_, ?_⟩
      · obtain ⟨i1, i2⟩ := nd.mem_erase_iff.mp hi
        rcases u i i2 hf with e | ⟨_, e⟩
        · rw [e]; exact Int.le_refl _
        · exact e i1
      · rw [List.erase_comm]
        exact without_p (nd.sublist List.erase_sublist) (fun j hj => h0 j (List.mem_of_mem_erase hj)) (nd.mem_erase_iff.mpr ⟨fun q => hne q.symm, hp⟩) (fun q => ht (.inr q)) z
theorem srv_tkn (a : List (Int × Int)) : srv a ≤ a.length := List.length_filter_le _ _
theorem cF_cnt (F : List Int) (s : Int) : cF F s + (F.filter fun x => decide (s ≤ x)).length = F.length := by
  unfold cF
  induction F with
  | nil => rfl
  | cons x F ih =>
    rw [List.filter_cons, List.filter_cons, List.length_cons]
    by_cases h : x < s
    · rw [if_pos (decide_eq_true h), if_neg (by simp; omega), List.length_cons]; omega
    · rw [if_neg (by simp; omega), if_pos (decide_eq_true (by omega)), List.length_cons]; omega
theorem least_ge : ∀ (F : List Int) (s : Int), (F.filter fun x => decide (s ≤ x)) ≠ [] → ∃ t ∈ F, s ≤ t ∧ ∀ x ∈ F, s ≤ x → t ≤ x
  | [], _, h => absurd rfl h
  | a :: F, s, h => by
    by_cases hF : (F.filter fun x => decide (s ≤ x)) = []
    · rw [List.filter_cons, hF] at h
      by_cases ha : s ≤ a
      · refine ⟨a, by simp, ha, fun x hx hs => ?_⟩
        rcases List.mem_cons.mp hx with rfl | hx
        · exact Int.le_refl _
        · exact absurd (decide_eq_true hs) (List.filter_eq_nil_iff.mp hF x hx)
      · rw [if_neg (by simpa using ha)] at h; exact absurd rfl h
    · obtain ⟨t, ht, h1, h2⟩ := least_ge F s hF
      by_cases ha : s ≤ a ∧ a < t
      · refine ⟨a, by simp, ha.1, fun x hx hs => ?_⟩
        rcases List.mem_cons.mp hx with rfl | hx
        · exact Int.le_refl _
        · have := h2 x hx hs; omega
      · refine ⟨t, by simp [ht], h1, fun x hx hs => ?_⟩
        rcases List.mem_cons.mp hx with rfl | hx
        · omega
        · exact h2 x hx hs
/-- if the others serve all whom p fits, p is left -/
theorem serve_left {feet pairs : List Int} {p : Int} (hp : p ∈ intsN pairs.length) (hc : canServe (firstF feet pairs p) (othS pairs p) = true) : leaves (leavingR feet pairs p) p = true := by
  have hv := leaving_v (feet := feet) hp
  have hrise : (ftR feet (leavingR feet pairs p)).Pairwise (· ≤ ·) := by
    have e : ftR feet (leavingR feet pairs p) = (obf feet).map (getI feet) := by
      unfold ftR leavingR
      conv => rhs; rw [← byL_fst feet pairs (obf feet) (bySz pairs (othersG pairs.length p) ++ [p]), List.map_map]
      rfl
    rw [e, List.pairwise_map]
    exact (likeO_sorted _ _).imp fun h => by unfold Lx at h; omega
  generalize leavingR feet pairs p = run at hv hrise ⊢
  have hp0 := (mem_intsN hp).1
  rw [leaves_tkn hp0, tkn_mem]
  rintro ⟨⟨h, p'⟩, hq, hne, e⟩
  have e : p' = p := e
  subst e
  obtain ⟨a, b, rfl⟩ := List.append_of_mem hq
  have nd : (intsN pairs.length).Nodup := (intsN_lt _).imp fun h => Int.ne_of_lt h
  obtain ⟨l', m1, m2, m3, m4, m5, m6⟩ := gs_after nd (fun j hj => (mem_intsN hj).1) hv.s
  have hpt : p' ∉ tkn a := by
    rcases m4 with ⟨_, y, _⟩ | ⟨x, _⟩
    · exact absurd (show p' = -1 from y) (by omega)
    · exact ((m1 _).mp x).2
  have hfit : getI feet h ≤ getI pairs p' := by
    rcases m4 with ⟨_, y, _⟩ | ⟨_, x, _⟩
    · exact absurd (show p' = -1 from y) (by omega)
    · exact of_decide_eq_true x
  have hs := without_p nd (fun j hj => (mem_intsN hj).1) hp hpt hv.s
  have eo : (intsN pairs.length).erase p' = othersG pairs.length p' := by unfold othersG; rw [erase_filter nd]
  rw [eo] at hs
  obtain ⟨top, ht⟩ := exists_top ((othersG pairs.length p').map (getI pairs))
  obtain ⟨s, hss⟩ := gs_small (left := othersG pairs.length p') top (fun j hj => (mem_intsN (List.mem_filter.mp hj).1).1) (fun j hj => ht _ (List.mem_map_of_mem hj)) hs
  have hsrv : srv (a ++ [(h, -1)]) ≤ a.length := by
    have e : srv (a ++ [(h, -1)]) = srv a := by unfold srv; rw [List.filter_append]; simp
    rw [e]; exact srv_tkn a
  have hcF := cF_cnt (ftR feet (a ++ [(h, -1)])) s
  have hlen : (ftR feet (a ++ [(h, -1)])).length = a.length + 1 := by unfold ftR; rw [List.length_map, List.length_append]; rfl
  have hle : ∀ x ∈ ftR feet (a ++ [(h, -1)]), x ≤ getI pairs p' := fun x hx => by
    unfold ftR at hx hrise
    rw [List.map_append, List.mem_append] at hx
    rw [List.map_append, List.map_cons, List.pairwise_append] at hrise
    rcases hx with hx | hx
    · have := hrise.2.2 x hx (getI feet h) (by simp)
      omega
    · have : x = getI feet h := by simpa using hx
      omega
  have hne2 : ((ftR feet (a ++ [(h, -1)])).filter fun x => decide (s ≤ x)) ≠ [] := fun q => by
    rw [q] at hcF
    simp only [List.length_nil] at hcF
    omega
  obtain ⟨t, htm, ht1, ht2⟩ := least_ge _ _ hne2
  -- t is the foot of a guest whom p fits
  obtain ⟨q, hqm, hqt⟩ := List.mem_map.mp htm
  have hgm : ∀ q ∈ a ++ [(h, (-1 : Int))], q.1 ∈ intsN feet.length := fun q hq => by
    refine hv.g.mem_iff.mp ?_
    rw [List.map_append, List.map_cons]
    rcases List.mem_append.mp hq with hq | hq
    · exact List.mem_append_left _ (List.mem_map_of_mem hq)
    · rw [List.mem_singleton.mp hq]; simp
  have htf : t ∈ firstF feet pairs p' := by
    refine List.mem_filter.mpr ⟨?_, decide_eq_true (hle t htm)⟩
    rw [← hqt]
    have := hgm q hqm
    have h2 := mem_intsN this
    unfold getI
    rw [List.getElem?_eq_getElem (show q.1.toNat < feet.length by omega)]
    exact List.getElem_mem _
  have hc := (serve_iff.mp hc) t htf
  rw [cnt_first, cnt_oth] at hc
  have u1 : ((ftR feet (a ++ [(h, -1)])).filter fun x => decide (s ≤ x)).length ≤ ((intsN feet.length).filter fun g => decide (t ≤ getI feet g) && decide (getI feet g ≤ getI pairs p')).length := by
    have e : ((ftR feet (a ++ [(h, -1)])).filter fun x => decide (s ≤ x)).length = (((a ++ [(h, (-1 : Int))]).filter fun q => decide (s ≤ getI feet q.1)).map (·.1)).length := by
      unfold ftR
      rw [List.filter_map, List.length_map, List.length_map]
      rfl
    rw [e]
    refine nodup_len ?_ fun g hg => ?_
    · have nd2 := hv.nd
      have sub : ((a ++ [(h, (-1 : Int))]).map (·.1)).Sublist ((a ++ (h, p') :: b).map (·.1)) := by
        rw [List.map_append, List.map_append, List.map_cons]
        exact (List.Sublist.refl _).append (by simp)
      exact nd2.sublist ((List.filter_sublist.map _).trans sub)
    · obtain ⟨q, hq, rfl⟩ := List.mem_map.mp hg
      obtain ⟨q1, q2⟩ := List.mem_filter.mp hq
      have hx : getI feet q.1 ∈ ftR feet (a ++ [(h, (-1 : Int))]) := List.mem_map_of_mem (f := fun q : Int × Int => getI feet q.1) q1
      refine List.mem_filter.mpr ⟨hgm q q1, ?_⟩
      rw [Bool.and_eq_true, decide_eq_true_eq, decide_eq_true_eq]
      exact ⟨ht2 _ hx (of_decide_eq_true q2), hle _ hx⟩
  have u2 : ((othersG pairs.length p').filter fun j => decide (t ≤ getI pairs j)).length ≤ cP (szL pairs (othersG pairs.length p')) s := by
    unfold cP szL
    rw [List.filter_map, List.length_map]
    refine nodup_len ((nd.filter _).filter _) fun j hj => ?_
    obtain ⟨q1, q2⟩ := List.mem_filter.mp hj
    exact List.mem_filter.mpr ⟨q1, decide_eq_true (by have := of_decide_eq_true q2; show s ≤ getI pairs j; omega)⟩
  omega
theorem leaving_form {feet pairs : List Int} {p : Int} (hp : p ∈ intsN pairs.length) : (canServe (firstF feet pairs p) (othS pairs p) = true ∧ leavingD feet pairs p = runD (leavingR feet pairs p) ∧ RunV anyR feet pairs (leavingR feet pairs p) ∧ leaves (leavingR feet pairs p) p = true) ∨ (canServe (firstF feet pairs p) (othS pairs p) = false ∧ leavingD feet pairs p = .none) := by
  unfold leavingD
  cases hc : canServe (firstF feet pairs p) (othS pairs p) with
  | true => exact .inl ⟨rfl, if_pos rfl, (leaving_v hp).any, serve_left hp hc⟩
  | false => exact .inr ⟨rfl, if_neg (by decide)⟩
theorem any_left {feet pairs : List Int} {p : Int} (hp : p ∈ intsN pairs.length) : ((allRuns feet pairs).filter fun r => leaves r p).isEmpty = !canServe (firstF feet pairs p) (othS pairs p) := by
  rcases leaving_form (feet := feet) hp with ⟨h, _, hv, hm⟩ | ⟨h, _⟩
  · rw [h]
    have : leavingR feet pairs p ∈ (allRuns feet pairs).filter fun r => leaves r p := List.mem_filter.mpr ⟨mem_all.mpr hv, hm⟩
    cases e : (allRuns feet pairs).filter fun r => leaves r p with
    | nil => rw [e] at this; cases this
    | cons _ _ => rfl
  · rw [h]
    have : (allRuns feet pairs).filter (fun r => leaves r p) = [] := List.filter_eq_nil_iff.mpr fun r hr hm => by
      have := left_serve (mem_all.mp hr) hp hm
      rw [h] at this
      exact absurd this Bool.false_ne_true
    rw [this]
    rfl
theorem leftL_mem {m : Nat} {run : List (Int × Int)} {p : Int} (hp : p ∈ intsN m) : p ∈ leftL m run ↔ leaves run p = true := by
  unfold leftL leaves
  rw [List.mem_filter, decide_eq_true_eq]
  constructor
  · rintro ⟨_, h⟩ hm
    obtain ⟨q, hq, e⟩ := List.mem_map.mp hm
    have : (run.any fun q => decide (q.2 = p)) = true := List.any_eq_true.mpr ⟨q, hq, decide_eq_true e⟩
    rw [this] at h; cases h
  · intro h
    refine ⟨hp, ?_⟩
    have : (run.any fun q => decide (q.2 = p)) = false := List.any_eq_false.mpr fun q hq e => h (List.mem_map.mpr ⟨q, hq, of_decide_eq_true e⟩)
    rw [this]; rfl
/-! guests and pairs exchanged -/
def exZ (z : Int) : Int := 1000001 - z
def exI (xs : List Int) : List Int := xs.map exZ
theorem exI_exI (xs : List Int) : exI (exI xs) = xs := by
  unfold exI
  rw [List.map_map]
  conv => rhs; rw [← List.map_id xs]
  refine List.map_congr_left fun x _ => ?_
  show exZ (exZ x) = x
  unfold exZ; omega
theorem exI_len (xs : List Int) : (exI xs).length = xs.length := List.length_map ..
theorem exI_in {xs : List Int} (h : In1 (10 ^ 6) xs) : In1 (10 ^ 6) (exI xs) := fun x hx => by
  obtain ⟨y, hy, rfl⟩ := List.mem_map.mp hx
  have := h y hy
  unfold exZ; omega
theorem getI_ex {xs : List Int} {j : Int} (h0 : 0 ≤ j) (h1 : j < xs.length) : getI (exI xs) j = exZ (getI xs j) := by
  unfold getI exI
  rw [List.getElem?_map, List.getElem?_eq_getElem (show j.toNat < xs.length by omega)]
  rfl
theorem cF_ex (P : List Int) (s : Int) : cF (exI P) (1000002 - s) = cP P s := by
  unfold cF cP exI
  rw [List.filter_map, List.length_map]
  congr 1
  refine List.filter_congr fun x _ => decide_eq_decide.mpr ?_
  unfold exZ; omega
theorem cP_ex (F : List Int) (s : Int) : cP (exI F) (1000002 - s) = cF F s := by
  unfold cF cP exI
  rw [List.filter_map, List.length_map]
  congr 1
  refine List.filter_congr fun x _ => decide_eq_decide.mpr ?_
  unfold exZ; omega
theorem most_ex {F P : List Int} {m : Int} (h : IsMost F P m) : IsMost (exI P) (exI F) m := by
  obtain ⟨⟨s, e⟩, a⟩ := h
  refine ⟨⟨1000002 - s, by rw [cF_ex, cP_ex]; omega⟩, fun s' => ?_⟩
  have e2 : s' = 1000002 - (1000002 - s') := by omega
  rw [e2, cF_ex, cP_ex]
  have := a (1000002 - s')
  omega
theorem few_ex {F P : List Int} {m : Int} (h : IsFew F P m) : IsFew (exI P) (exI F) m := by
  obtain ⟨⟨s, e⟩, a⟩ := h
  refine ⟨⟨1000002 - s, by rw [cF_ex, cP_ex, Nat.max_comm]; exact e⟩, fun s' => ?_⟩
  have e2 : s' = 1000002 - (1000002 - s') := by omega
  rw [e2, cF_ex, cP_ex, Nat.max_comm]
  exact a (1000002 - s')
theorem hall_ex {F P : List Int} (h : HallOk F P) (hp : 1 ≤ P.length) : HallOk (exI P) (exI F) := ⟨by rw [exI_len]; exact hp, by rw [exI_len]; exact h.p2, by rw [exI_len]; exact h.f2, exI_in h.pi, exI_in h.fi⟩
theorem firstF_ex {F P : List Int} {g : Int} (h0 : 0 ≤ g) (h1 : g < F.length) : firstF (exI P) (exI F) g = exI (fitS F P g) := by
  unfold firstF fitS
  rw [getI_ex h0 h1]
  unfold exI
  rw [List.filter_map]
  congr 1
  refine List.filter_congr fun x _ => decide_eq_decide.mpr ?_
  unfold exZ; omega
theorem othS_ex (F : List Int) (g : Int) : othS (exI F) g = exI (othF F g) := by
  unfold othS othF
  rw [exI_len]
  unfold exI
  rw [List.map_map]
  refine List.map_congr_left fun x hx => ?_
  obtain ⟨a, b⟩ := mem_intsN (List.mem_filter.mp hx).1
  exact getI_ex a b
theorem serve_ex (F S : List Int) : canServe (exI S) (exI F) = canTake F S := by
  rw [Bool.eq_iff_iff, serve_iff, take_iff]
  have c : ∀ (X : List Int) (z : Int), ((exI X).filter fun o => decide (exZ z ≤ o)).length = (X.filter fun o => decide (o ≤ z)).length := fun X z => by
    unfold exI
    rw [List.filter_map, List.length_map]
    congr 1
    refine List.filter_congr fun x _ => decide_eq_decide.mpr ?_
    unfold exZ; omega
  constructor
  · intro h z hz
    have := h (exZ z) (List.mem_map_of_mem hz)
    rwa [c, c] at this
  · intro h z hz
    obtain ⟨y, hy, rfl⟩ := List.mem_map.mp hz
    rw [c, c]
    exact h y hy
theorem miss_ex {F P : List Int} {g : Int} (h0 : 0 ≤ g) (h1 : g < F.length) : canServe (firstF (exI P) (exI F) g) (othS (exI F) g) = canTake (othF F g) (fitS F P g) := by
  rw [firstF_ex h0 h1, othS_ex, serve_ex]
theorem miss_ex2 {F P : List Int} {p : Int} (h0 : 0 ≤ p) (h1 : p < P.length) : canTake (othF (exI P) p) (fitS (exI P) (exI F) p) = canServe (firstF F P p) (othS P p) := by
  have := miss_ex (F := exI P) (P := exI F) (g := p) h0 (by rw [exI_len]; exact h1)
  rw [exI_exI, exI_exI] at this
  exact this.symm
/-! the run turned round -/
def turnR (m : Nat) (run : List (Int × Int)) : List (Int × Int) := ((run.filter fun q => decide (0 ≤ q.2)).map fun q => (q.2, q.1)) ++ (leftL m run).map fun p => (p, -1)
theorem gs_served {feet pairs : List Int} {m : Nat} {rest : List (Int × Int)} : ∀ (l : List (Int × Int)) (T : List Int), (∀ q ∈ l, fitG feet pairs q.1 q.2 = true) → (l.map (·.2)).Nodup → (∀ q ∈ l, q.2 ∈ leftT m T) → Gs anyR feet pairs (leftT m (T ++ l.map (·.2))) rest → Gs anyR feet pairs (leftT m T) (l ++ rest)
  | [], T, _, _, _, h => by rwa [List.map_nil, List.append_nil] at h
  | q :: l, T, h1, h2, h3, h => by
    rw [List.map_cons, List.nodup_cons] at h2
    refine .inr ⟨h3 q (by simp), h1 q (by simp), fun _ _ _ => trivial, ?_⟩
    rw [leftT_erase]
    refine gs_served l (T ++ [q.2]) (fun p hp => h1 p (List.mem_cons_of_mem _ hp)) h2.2 (fun p hp => ?_) (by rw [List.append_assoc]; exact h)
    rw [← leftT_erase]
    exact (List.Nodup.mem_erase_iff ((leftT_lt m T).imp fun h => Int.ne_of_lt h)).mpr ⟨fun e => h2.1 (e ▸ List.mem_map_of_mem hp), h3 p (List.mem_cons_of_mem _ hp)⟩
theorem gs_none {feet pairs : List Int} : ∀ (l : List (Int × Int)) (left : List Int), (∀ q ∈ l, q.2 = -1 ∧ ∀ j ∈ left, fitG feet pairs q.1 j = false) → Gs anyR feet pairs left l
  | [], _, _ => trivial
  | q :: l, left, h => .inl ⟨(h q (by simp)).2, (h q (by simp)).1, gs_none l left fun p hp => h p (List.mem_cons_of_mem _ hp)⟩
theorem tkn_nn {feet pairs : List Int} {run : List (Int × Int)} (h : RunV anyR feet pairs run) : (run.filter fun q => decide (0 ≤ q.2)) = run.filter fun q => decide (q.2 ≠ -1) := by
  refine List.filter_congr fun q hq => decide_eq_decide.mpr ?_
  have := h.snd hq
  omega
theorem fit_ex {F P : List Int} {g j : Int} (g0 : 0 ≤ g) (g1 : g < F.length) (j0 : 0 ≤ j) (j1 : j < P.length) : fitG (exI P) (exI F) j g = fitG F P g j := by
  unfold fitG
  rw [getI_ex g0 g1, getI_ex j0 j1]
  refine decide_eq_decide.mpr ?_
  unfold exZ; omega
theorem turn_v {F P : List Int} {run : List (Int × Int)} (h : RunV anyR F P run) : RunV anyR (exI P) (exI F) (turnR P.length run) := by
  have ndm : ∀ m, (intsN m).Nodup := fun m => (intsN_lt m).imp fun h => Int.ne_of_lt h
  obtain ⟨m2, m3, m5, m6⟩ := gs_end (ndm _) (fun j hj => (mem_intsN hj).1) h.s
  have hs : (run.filter fun q => decide (0 ≤ q.2)).map (·.2) = tkn run := by rw [tkn_nn h]; rfl
  have hl : ∀ p, p ∈ leftL P.length run ↔ (p ∈ intsN P.length ∧ p ∉ tkn run) := fun p => by
    constructor
    · intro hp
      have h1 := (List.mem_filter.mp hp).1
      refine ⟨h1, fun ht => ?_⟩
      have := (leftL_mem h1).mp hp
      obtain ⟨q, hq, _, e⟩ := tkn_mem.mp ht
      unfold leaves at this
      exact of_decide_eq_true this (e ▸ List.mem_map_of_mem hq)
    · rintro ⟨h1, h2⟩
      refine (leftL_mem h1).mpr (decide_eq_true fun hm => ?_)
      obtain ⟨q, hq, e⟩ := List.mem_map.mp hm
      have := (mem_intsN h1).1
      exact h2 (tkn_mem.mpr ⟨q, hq, by omega, e⟩)
  have served : ∀ q ∈ run.filter (fun q => decide (0 ≤ q.2)), q ∈ run ∧ 0 ≤ q.2 := fun q hq => ⟨(List.mem_filter.mp hq).1, of_decide_eq_true (List.mem_filter.mp hq).2⟩
  constructor
  · rw [exI_len]
    unfold turnR
    rw [List.map_append, List.map_map, List.map_map]
    show ((run.filter fun q => decide (0 ≤ q.2)).map (·.2) ++ (leftL P.length run).map id).Perm _
    rw [hs, List.map_id]
    refine (List.perm_ext_iff_of_nodup ?_ (ndm _)).mpr fun p => ?_
    · rw [List.nodup_append]
      exact ⟨m2, (ndm _).filter _, fun a ha b hb e => ((hl b).mp hb).2 (e ▸ ha)⟩
    · rw [List.mem_append, hl]
      constructor
      · rintro (q | q)
        · exact m3 p q
        · exact q.1
      · intro q
        by_cases ht : p ∈ tkn run
        · exact .inl ht
        · exact .inr ⟨q, ht⟩
  · rw [exI_len, ← leftT_nil]
    unfold turnR
    refine gs_served _ [] (fun q hq => ?_) ?_ (fun q hq => ?_) ?_
    · obtain ⟨p, hp, rfl⟩ := List.mem_map.mp hq
      obtain ⟨p1, p2⟩ := served p hp
      obtain ⟨g0, g1⟩ := h.fst p1
      have := h.snd p1
      show fitG (exI P) (exI F) p.2 p.1 = true
      rw [fit_ex g0 g1 p2 (by omega)]
      exact m5 p p1 (by omega)
    · rw [List.map_map]
      show ((run.filter fun q => decide (0 ≤ q.2)).map (·.1)).Nodup
      exact h.nd.sublist (List.filter_sublist.map _)
    · obtain ⟨p, hp, rfl⟩ := List.mem_map.mp hq
      rw [leftT_nil]
      exact h.g.mem_iff.mp (List.mem_map_of_mem (served p hp).1)
    · refine gs_none _ _ fun q hq => ?_
      obtain ⟨p, hp, rfl⟩ := List.mem_map.mp hq
      refine ⟨rfl, fun g hg => ?_⟩
      obtain ⟨hp1, hp2⟩ := (hl p).mp hp
      obtain ⟨hg1, hg2⟩ := List.mem_filter.mp hg
      have hg2 := of_decide_eq_true hg2
      obtain ⟨r, hr, hrg⟩ := List.mem_map.mp (h.g.mem_iff.mpr hg1)
      have hrg : r.1 = g := hrg
      have hr2 : r.2 = -1 := by
        have := h.snd hr
        refine Classical.byContradiction fun hne => hg2 ?_
        rw [List.nil_append, List.map_map]
        exact List.mem_map.mpr ⟨r, List.mem_filter.mpr ⟨hr, decide_eq_true (by omega)⟩, hrg⟩
      show fitG (exI P) (exI F) p g = false
      obtain ⟨a, b⟩ := mem_intsN hg1
      obtain ⟨c, d⟩ := mem_intsN hp1
      rw [fit_ex a b c d]
      refine Bool.eq_false_iff.mpr fun ht => ?_
      exact m6 r hr p hp1 hp2 (hrg ▸ ht) hr2
theorem RunV.ok {rl : Int → Int → Prop} {F P : List Int} {run : List (Int × Int)} (h : RunV rl F P run) : RunOk F.length P.length run := ⟨h.g, fun _ hq => h.snd hq⟩
theorem shod_len {f p : Nat} {run : List (Int × Int)} (h : RunOk f p run) : (shodL f run).length = srv run := by
  rw [← shod_uniq h (srt_perm _) (srt_sorted _), (srt_perm _).length_eq, List.length_map]
  rfl
theorem srv_turn {F P : List Int} {run : List (Int × Int)} (h : RunV anyR F P run) : srv (turnR P.length run) = srv run := by
  unfold srv turnR
  rw [List.filter_append, List.length_append, List.filter_map, List.length_map, List.filter_map, List.length_map]
  have e1 : (run.filter fun q => decide (0 ≤ q.2)).filter ((fun q => decide (q.2 ≠ -1)) ∘ fun q : Int × Int => (q.2, q.1)) = run.filter fun q => decide (0 ≤ q.2) := List.filter_eq_self.mpr fun q hq => by
    have := h.fst (List.mem_filter.mp hq).1
    exact decide_eq_true (show q.1 ≠ -1 by omega)
  have e2 : (leftL P.length run).filter ((fun q : Int × Int => decide (q.2 ≠ -1)) ∘ fun p => (p, -1)) = [] := List.filter_eq_nil_iff.mpr fun p _ => by simp
  rw [e1, e2, tkn_nn h]
  rfl
theorem eqv_tints (a b : List Int) : PyData.eqv (.tuple (a.map .int)) (.tuple (b.map .int)) = decide (a = b) := eqvA_ints a b
theorem eqv_hall (F P : List Int) : PyData.eqv (hallD F P) (hallD F P) = true := by
  show (PyData.eqv (.tuple (F.map .int)) (.tuple (F.map .int)) && (PyData.eqv (.tuple (P.map .int)) (.tuple (P.map .int)) && true)) = true
  rw [eqv_tints, eqv_tints, decide_eq_true rfl, decide_eq_true rfl]
  rfl
theorem sh_prs (l : List (Int × Int)) : Sh (.list (l.map prD)) :=
  Bool.and_eq_true_iff.mpr ⟨by simp only [PyData.canLay0]; exact canAll fun d hd => by obtain ⟨_, _, rfl⟩ := List.mem_map.mp hd; rfl, decide_eq_true (by
    simp only [PyData.depth]
    exact Nat.le_trans (Nat.succ_le_succ (depthAll_le (k := 1) fun d hd => by obtain ⟨_, _, rfl⟩ := List.mem_map.mp hd; exact Nat.le_refl _)) (by decide))⟩
theorem pop_perm {l : List Int} {r : Int} (h0 : 0 ≤ r) (h1 : r < l.length) : (getI l r :: l.eraseIdx r.toNat).Perm l := by
  have hk : r.toNat < l.length := by omega
  have := cons_erase (l := l) hk
  unfold getI
  rw [List.getElem?_eq_getElem hk]
  exact this
theorem seq_at {r : Int} {m : Nat} (h0 : 0 ≤ r) (h1 : r < m) : PySem.seqIndex? r m = some r.toNat := by
  have e : (if r < 0 then r + (m : Int) else r) = r := if_neg (by omega)
  show (if (decide (0 ≤ (if r < 0 then r + (m : Int) else r)) && decide ((if r < 0 then r + (m : Int) else r) < (m : Int))) = true then some (if r < 0 then r + (m : Int) else r).toNat else none) = _
  rw [e, decide_eq_true h0, decide_eq_true h1]
  rfl
theorem sh_hall (F P : List Int) : Sh (hallD F P) :=
  Bool.and_eq_true_iff.mpr ⟨by
    show PyData.canLay0 (.tuple [sizesD F, sizesD P]) = true
    simp only [PyData.canLay0]
    exact canAll fun d hd => by
      simp only [List.mem_cons, List.not_mem_nil, or_false] at hd
      rcases hd with rfl | rfl
      · exact (Bool.and_eq_true_iff.mp (sh_tints F)).1
      · exact (Bool.and_eq_true_iff.mp (sh_tints P)).1, decide_eq_true (by
    show PyData.depth (.tuple [sizesD F, sizesD P]) ≤ 64
    have hd1 : ∀ X : List Int, PyData.depth (sizesD X) ≤ 1 := fun X => by
      show PyData.depth (.tuple (X.map .int)) ≤ 1
      simp only [PyData.depth]
      exact Nat.succ_le_succ (depthAll_le (k := 0) fun d hd => by obtain ⟨_, _, rfl⟩ := List.mem_map.mp hd; exact Nat.le_refl _)
    show PyData.depth (.tuple [sizesD F, sizesD P]) ≤ 64
    simp only [PyData.depth]
    exact Nat.le_trans (Nat.succ_le_succ (depthAll_le (k := 1) fun d hd => by
      simp only [List.mem_cons, List.not_mem_nil, or_false] at hd
      rcases hd with rfl | rfl
      · exact hd1 F
      · exact hd1 P)) (by decide))⟩
theorem without_isN {F P : List Int} {g : Int} (hg : g ∈ intsN F.length) : isN (withoutD F P g) = !canTake (othF F g) (fitS F P g) := by
  rcases without_form (pairs := P) hg with ⟨h, W, e, _⟩ | ⟨h, e⟩
  · rw [e, h]; rfl
  · rw [e, h]; rfl
theorem leaving_isN {F P : List Int} {p : Int} (hp : p ∈ intsN P.length) : isN (leavingD F P p) = !canServe (firstF F P p) (othS P p) := by
  rcases leaving_form (feet := F) hp with ⟨h, e, _⟩ | ⟨h, e⟩
  · rw [e, h]; rfl
  · rw [e, h]; rfl
theorem miss_isN {F P : List Int} {g : Int} (h0 : 0 ≤ g) (h1 : g < F.length) : isN (withoutD F P g) = isN (leavingD (exI P) (exI F) g) := by
  rw [without_isN (mem_ints h0 h1), leaving_isN (mem_ints h0 (by rw [exI_len]; exact h1)), miss_ex h0 h1]
theorem miss_isN2 {F P : List Int} {p : Int} (h0 : 0 ≤ p) (h1 : p < P.length) : isN (leavingD F P p) = isN (withoutD (exI P) (exI F) p) := by
  rw [leaving_isN (mem_ints h0 h1), without_isN (mem_ints h0 (by rw [exI_len]; exact h1)), miss_ex2 h0 h1]
/-! certificates, held -/
def standB (feet pairs : List Int) (num z : Int) (w : Str) : Bool := if w = "feet" then decide (num ≤ (cF feet z : Int)) else decide (num ≤ (cP pairs z : Int))
def tabB (feet pairs : List Int) (num : Int) (ws : List Str) : Bool := decide (num ≤ feet.length) && ((sd feet).zip ws).all fun p => standB feet pairs num p.1 p.2
inductive Cv where
  | run (r : List (Int × Int))
  | tab (ws : List Str)
  | siz (z : Int)
def Cv.d : Cv → PyData
  | .run r => .tuple [.str "run", runD r]
  | .tab ws => .tuple [.str "table", .tuple (ws.map .str)]
  | .siz z => .tuple [.str "size", .int z]
def Cv.okS (feet pairs : List Int) : Cv → Prop
  | .run r => RunV anyR feet pairs r
  | .tab ws => ws.length = (sd feet).length ∧ ∀ w ∈ ws, w = "feet" ∨ w = "pairs"
  | .siz _ => False
def Cv.okP (feet pairs : List Int) : Cv → Prop
  | .run r => RunV anyR feet pairs r
  | .tab _ => False
  | .siz z => 1 ≤ z ∧ z ≤ 1000001
def Cv.sure (feet pairs : List Int) (num : Int) : Cv → Bool
  | .run r => decide ((srv r : Int) < num)
  | .tab ws => tabB feet pairs num ws
  | .siz _ => false
def Cv.pos (feet pairs : List Int) (num : Int) : Cv → Bool
  | .run r => decide (num ≤ (srv r : Int))
  | .tab _ => false
  | .siz z => decide ((cF feet z : Int) + cP pairs z < num)
theorem oEqS {a b : Str} {R : PyData → Prop} (h : R (.bool (decide (a = b)))) : oEqA false (.dat (.str a)) (.dat (.str b)) R := h
/-- what is sure, told -/
def sureV (feet pairs : List Int) (m num : Int) : Cv := if m < num then .run (largeR feet pairs) else .tab ((sd feet).map (wordAt feet num))
theorem sureV_d (feet pairs : List Int) (m num : Int) : (sureV feet pairs m num).d = sureD feet pairs m num := by
  unfold sureV sureD
  by_cases h : m < num
  · rw [if_pos h, if_pos h]; rfl
  · rw [if_neg h, if_neg h]
    show PyData.tuple [.str "table", .tuple (((sd feet).map (wordAt feet num)).map .str)] = _
    rw [List.map_map]; rfl
theorem wordAt_or (feet : List Int) (num s : Int) : wordAt feet num s = "feet" ∨ wordAt feet num s = "pairs" := by
  unfold wordAt
  by_cases h : num ≤ (cF feet s : Int)
  · rw [if_pos h]; exact .inl rfl
  · rw [if_neg h]; exact .inr rfl
theorem sureV_ok {feet pairs : List Int} {m num : Int} : (sureV feet pairs m num).okS feet pairs := by
  unfold sureV
  by_cases h : m < num
  · rw [if_pos h]; exact (large_v feet pairs).any
  · rw [if_neg h]
    refine ⟨List.length_map .., fun w hw => ?_⟩
    obtain ⟨s, _, rfl⟩ := List.mem_map.mp hw
    exact wordAt_or feet num s
theorem few_le_len {feet pairs : List Int} (hh : HallOk feet pairs) {m : Int} (hm : IsFew feet pairs m) : m ≤ feet.length := by
  have := hm.2 1000001
  have h1 : cF feet 1000001 = feet.length := cF_all fun x hx => by have := (hh.fi x hx).2; omega
  have h2 : cP pairs 1000001 = 0 := cP_zero fun x hx => by have := (hh.pi x hx).2; omega
  rw [h1, h2] at this
  omega
theorem all_zip_map {α : Type} (l : List Int) (f : Int → α) (p : Int × α → Bool) (h : ∀ x ∈ l, p (x, f x) = true) : ((l.zip (l.map f)).all p) = true := by
  rw [List.all_eq_true]
  intro q hq
  rw [List.zip_map_right] at hq
  obtain ⟨r, hr, rfl⟩ := List.mem_map.mp hq
  have e : ∀ (l : List Int) (r : Int × Int), r ∈ l.zip l → r.1 ∈ l ∧ r.2 = r.1 := fun l => by
    induction l with
    | nil => intro r hr; exact nomatch hr
    | cons a l ih =>
      intro r hr
      rw [List.zip_cons_cons] at hr
      rcases List.mem_cons.mp hr with rfl | hr
      · exact ⟨by simp, rfl⟩
      · exact ⟨List.mem_cons_of_mem _ (ih r hr).1, (ih r hr).2⟩
  obtain ⟨e1, e2⟩ := e l r hr
  have := h r.1 e1
  show p (r.1, f r.2) = true
  rw [e2]; exact this
/-- a sure certificate holds for its number, and beyond -/
theorem sureV_on {feet pairs : List Int} (hh : HallOk feet pairs) {m num o : Int} (hm : IsFew feet pairs m) (h : (m < num ∧ num ≤ o) ∨ (¬ m < num ∧ o ≤ num)) : (sureV feet pairs m num).sure feet pairs o = true := by
  have hl := few_le_len hh hm
  unfold sureV
  rcases h with ⟨h, ho⟩ | ⟨h, ho⟩
  · rw [if_pos h]
    have := large_n hm
    exact decide_eq_true (show (srv (largeR feet pairs) : Int) < o by omega)
  · rw [if_neg h]
    show tabB feet pairs o _ = true
    unfold tabB
    rw [decide_eq_true (show o ≤ (feet.length : Int) by omega), Bool.true_and]
    refine all_zip_map _ _ _ fun s _ => ?_
    show standB feet pairs o s (wordAt feet num s) = true
    have := hm.2 s
    unfold wordAt standB
    by_cases q : num ≤ (cF feet s : Int)
    · rw [if_pos q, if_pos rfl]; exact decide_eq_true (by omega)
    · rw [if_neg q, if_neg (by decide +kernel)]; exact decide_eq_true (by omega)
/-- no table where a run is -/
theorem no_table {feet pairs : List Int} (hh : HallOk feet pairs) {m num : Int} (hm : IsFew feet pairs m) (h : m < num) {ws : List Str} (hl : ws.length = (sd feet).length) : tabB feet pairs num ws = false := by
  refine Bool.eq_false_iff.mpr fun ht => ?_
  unfold tabB at ht
  rw [Bool.and_eq_true, decide_eq_true_eq, List.all_eq_true] at ht
  obtain ⟨s0, h0, h1⟩ := few_at (feet := feet) (pairs := pairs) (top := 1000001) fun x hx => by have := hh.pi x hx; omega
  obtain ⟨⟨s, e⟩, _⟩ := hm
  have hs := h1 s
  rw [← e] at hs
  rcases h0 with h0 | rfl
  · obtain ⟨k, hk, hke⟩ := List.getElem_of_mem (mem_sd.mpr h0)
    have hz : ((sd feet).zip ws)[k]? = some (s0, ws[k]'(by omega)) := by
      rw [List.getElem?_eq_getElem (by rw [List.length_zip]; omega), List.getElem_zip, hke]
    have := ht.2 _ (List.mem_of_getElem? hz)
    unfold standB at this
    split at this
    · have := of_decide_eq_true this; simp only at this; omega
    · have := of_decide_eq_true this; simp only at this; omega
  · have h2 : cF feet 1000001 = feet.length := cF_all fun x hx => by have := (hh.fi x hx).2; omega
    rw [h2] at hs
    omega
/-- what is possible, told -/
def posV (feet pairs : List Int) (num : Int) : Cv := match exc feet pairs num with
  | [] => .run (smallR feet pairs)
  | s :: _ => .siz s
theorem posV_d (feet pairs : List Int) (num : Int) : (posV feet pairs num).d = posD feet pairs num := by
  unfold posV posD
  cases exc feet pairs num <;> rfl
theorem posV_cases {feet pairs : List Int} (hh : HallOk feet pairs) {num m : Int} (hm : IsMost feet pairs m) : (num ≤ m ∧ posV feet pairs num = .run (smallR feet pairs)) ∨ (m < num ∧ ∃ s, posV feet pairs num = .siz s ∧ 1 ≤ s ∧ s ≤ 1000001 ∧ (cF feet s : Int) + cP pairs s < num) := by
  have hex := exc_nil hh (num := num) hm
  have hmm : ∀ s, s ∈ exc feet pairs num → 1 ≤ s ∧ s ≤ 1000001 ∧ (cF feet s : Int) + cP pairs s < num := fun s h => exc_mem hh h
  unfold posV
  cases e : exc feet pairs num with
  | nil => exact .inl ⟨hex.mp e, rfl⟩
  | cons s l =>
    refine .inr ⟨?_, s, rfl, hmm s (by rw [e]; simp)⟩
    refine Classical.byContradiction fun q => ?_
    have := hex.mpr (by omega)
    rw [e] at this
    exact absurd this (by simp)
theorem posV_ok {feet pairs : List Int} (hh : HallOk feet pairs) {num m : Int} (hm : IsMost feet pairs m) : (posV feet pairs num).okP feet pairs := by
  rcases posV_cases hh (num := num) hm with ⟨_, e⟩ | ⟨_, s, e, h1, h2, _⟩
  · rw [e]; exact (small_v feet pairs).any
  · rw [e]; exact ⟨h1, h2⟩
theorem posV_on {feet pairs : List Int} (hh : HallOk feet pairs) {m num o : Int} (hm : IsMost feet pairs m) (h : (m < num ∧ num ≤ o) ∨ (¬ m < num ∧ o ≤ num)) : (posV feet pairs num).pos feet pairs o = true := by
  rcases posV_cases hh (num := num) hm with ⟨h1, e⟩ | ⟨h1, s, e, h2, h3, h4⟩
  · rw [e]
    have := small_n hm
    exact decide_eq_true (show o ≤ (srv (smallR feet pairs) : Int) by omega)
  · rw [e]
    exact decide_eq_true (show (cF feet s : Int) + cP pairs s < o by omega)
theorem strs_of : ∀ {ys : List PyData}, (∀ y ∈ ys, ∃ w : Str, y = .str w ∧ (w = "feet" ∨ w = "pairs")) → ∃ ws : List Str, ys = ws.map .str ∧ ∀ w ∈ ws, w = "feet" ∨ w = "pairs"
  | [], _ => ⟨[], rfl, fun _ h => (nomatch h)⟩
  | y :: ys, h => by
    obtain ⟨w, rfl, hw⟩ := h y (by simp)
    obtain ⟨ws, rfl, hws⟩ := strs_of fun z hz => h z (List.mem_cons_of_mem _ hz)
    exact ⟨w :: ws, rfl, fun u hu => (List.mem_cons.mp hu).elim (fun e => e ▸ hw) (hws u)⟩
theorem sureV_form (feet pairs : List Int) (m num : Int) : ∃ (w : Str) (d : PyData), (sureV feet pairs m num).d = .tuple [.str w, d] ∧ ((m < num ∧ w = "run") ∨ (¬ m < num ∧ w = "table")) := by
  unfold sureV
  by_cases h : m < num
  · rw [if_pos h]; exact ⟨_, _, rfl, .inl ⟨h, rfl⟩⟩
  · rw [if_neg h]; exact ⟨_, _, rfl, .inr ⟨h, rfl⟩⟩
/-! large first, then small -/
theorem leftL_leftT (m : Nat) (run : List (Int × Int)) : leftL m run = leftT m (run.map (·.2)) := by
  unfold leftL leftT
  refine List.filter_congr fun j _ => ?_
  rw [Bool.eq_iff_iff, Bool.not_eq_true', decide_eq_true_eq, List.any_eq_false]
  constructor
  · intro h hm
    obtain ⟨q, hq, e⟩ := List.mem_map.mp hm
    exact h q hq (decide_eq_true e)
  · intro h q hq e
    exact h (of_decide_eq_true e ▸ List.mem_map_of_mem hq)
theorem gs_pre {rl : Int → Int → Prop} {feet pairs : List Int} {b : List (Int × Int)} : ∀ (a : List (Int × Int)) (left : List Int), Gs rl feet pairs left (a ++ b) → Gs rl feet pairs left a
  | [], _, _ => trivial
  | q :: a, left, h => by
    rcases h with ⟨x, y, z⟩ | ⟨x, y, u, z⟩
    · exact .inl ⟨x, y, gs_pre a _ z⟩
    · exact .inr ⟨x, y, u, gs_pre a _ z⟩
theorem gs_app {feet pairs : List Int} {m : Nat} {b : List (Int × Int)} : ∀ (a : List (Int × Int)) (T : List Int), Gs anyR feet pairs (leftT m T) a → Gs anyR feet pairs (leftT m (T ++ a.map (·.2))) b → Gs anyR feet pairs (leftT m T) (a ++ b)
  | [], T, _, h => by rwa [List.map_nil, List.append_nil] at h
  | q :: a, T, h, hb => by
    have e : T ++ (q :: a).map (·.2) = (T ++ [q.2]) ++ a.map (·.2) := by rw [List.append_assoc]; rfl
    rw [e] at hb
    have e2 : (leftT m T).erase q.2 = leftT m (T ++ [q.2]) := leftT_erase m T q.2
    rcases h with ⟨x, y, z⟩ | ⟨x, y, u, z⟩
    · have e3 : leftT m (T ++ [q.2]) = leftT m T := by rw [← e2, y, List.erase_of_not_mem (neg_not m T)]
      have ih := gs_app a (T ++ [q.2]) (by rw [e3]; exact z) hb
      rw [e3] at ih
      exact .inl ⟨x, y, ih⟩
    · rw [e2] at z
      have ih := gs_app a (T ++ [q.2]) z hb
      rw [← e2] at ih
      exact .inr ⟨x, y, u, ih⟩
def bigA (feet pairs : List Int) (k : Nat) : List (Int × Int) := (largeR feet pairs).take k
def smallB (feet pairs : List Int) (k : Nat) : List (Int × Int) := byL feet pairs (bySz pairs (leftL pairs.length (bigA feet pairs k))) ((obf feet).drop k)
def ltsR (feet pairs : List Int) (k : Nat) : List (Int × Int) := bigA feet pairs k ++ smallB feet pairs k
theorem large_fst (feet pairs : List Int) : (largeR feet pairs).map (·.1) = obf feet := by
  unfold largeR
  rw [ruled_byL, byL_fst]
theorem smallB_gs (feet pairs : List Int) (k : Nat) : Gs (fun a b => getI pairs a ≤ getI pairs b) feet pairs (leftL pairs.length (bigA feet pairs k)) (smallB feet pairs k) := by
  have h := byL_gs (rl := Lx (getI pairs)) (fun a => .inr ⟨rfl, Int.le_refl a⟩) feet pairs ((obf feet).drop k) _ (bySz_sorted pairs (leftL pairs.length (bigA feet pairs k)))
  exact (h.perm (bySz_perm _ _)).mono fun a b h => by unfold Lx at h; omega
theorem bigA_gs (feet pairs : List Int) (k : Nat) : Gs anyR feet pairs (leftT pairs.length []) (bigA feet pairs k) := by
  have h := (large_v feet pairs).any.s
  rw [← leftT_nil, show largeR feet pairs = bigA feet pairs k ++ (largeR feet pairs).drop k from (List.take_append_drop k _).symm] at h
  exact gs_pre _ _ h
theorem lts_v (feet pairs : List Int) (k : Nat) : RunV anyR feet pairs (ltsR feet pairs k) := by
  constructor
  · unfold ltsR smallB
    rw [List.map_append, byL_fst]
    unfold bigA
    rw [List.map_take, large_fst, List.take_append_drop]
    exact obf_perm feet
  · rw [← leftT_nil]
    refine gs_app _ [] (bigA_gs feet pairs k) ?_
    rw [List.nil_append, ← leftL_leftT]
    exact (smallB_gs feet pairs k).mono fun _ _ _ => trivial
theorem lts_zero {feet pairs : List Int} {m : Int} (hm : IsMost feet pairs m) : (srv (ltsR feet pairs 0) : Int) = m := by
  have e : ltsR feet pairs 0 = smallB feet pairs 0 := rfl
  rw [e]
  refine run_small ⟨?_, ?_⟩ hm
  · unfold smallB
    rw [byL_fst]
    exact obf_perm feet
  · have := smallB_gs feet pairs 0
    rwa [leftL_leftT, show (bigA feet pairs 0).map (·.2) = [] from rfl, leftT_nil] at this
theorem lts_all {feet pairs : List Int} {m : Int} (hm : IsFew feet pairs m) : (srv (ltsR feet pairs feet.length) : Int) = m := by
  have l1 : (largeR feet pairs).length = feet.length := (large_v feet pairs).len
  have l2 : (obf feet).length = feet.length := by rw [(obf_perm feet).length_eq, intsN_len]
  unfold ltsR smallB bigA
  rw [List.drop_of_length_le (by omega), List.take_of_length_le (by omega)]
  show (srv (largeR feet pairs ++ []) : Int) = m
  rw [List.append_nil]
  exact large_n hm
theorem srv_append (a b : List (Int × Int)) : srv (a ++ b) = srv a + srv b := by
  unfold srv
  rw [List.filter_append, List.length_append]
theorem smallB_ft (feet pairs : List Int) (k : Nat) : ftR feet (smallB feet pairs k) = ((obf feet).drop k).map (getI feet) := by
  unfold ftR smallB
  conv => rhs; rw [← byL_fst feet pairs ((obf feet).drop k) (bySz pairs (leftL pairs.length (bigA feet pairs k)))]
  rw [List.map_map]
  rfl
/-- one guest more who takes the largest: at most one less -/
theorem lts_step {feet pairs : List Int} {k : Nat} (hk : k < feet.length) : srv (ltsR feet pairs k) ≤ srv (ltsR feet pairs (k + 1)) + 1 := by
  have l1 : (largeR feet pairs).length = feet.length := (large_v feet pairs).len
  have l2 : (obf feet).length = feet.length := by rw [(obf_perm feet).length_eq, intsN_len]
  obtain ⟨q, hq⟩ : ∃ q, (largeR feet pairs)[k]? = some q := ⟨_, List.getElem?_eq_getElem (by omega)⟩
  have hA : bigA feet pairs (k + 1) = bigA feet pairs k ++ [q] := by
    unfold bigA
    rw [List.take_add_one, hq]
    rfl
  have hg : (obf feet).drop k = q.1 :: (obf feet).drop (k + 1) := by
    have h2 : (obf feet)[k]? = some q.1 := by rw [← large_fst feet pairs, List.getElem?_map, hq]; rfl
    obtain ⟨h3, h4⟩ := List.getElem?_eq_some_iff.mp h2
    rw [List.drop_eq_getElem_cons h3, h4]
  have hG := bigA_gs feet pairs (k + 1)
  rw [hA] at hG
  obtain ⟨_, hok⟩ := (gs_append q (bigA feet pairs k) []).mp hG
  rw [List.nil_append, ← leftL_leftT] at hok
  have hL : leftL pairs.length (bigA feet pairs (k + 1)) = (leftL pairs.length (bigA feet pairs k)).erase q.2 := by
    rw [leftL_leftT, leftL_leftT, hA, List.map_append, leftT_erase]
    rfl
  unfold ltsR
  rw [srv_append, srv_append, hA, srv_append]
  rcases hok with ⟨h1, h2⟩ | ⟨h1, h2⟩
  · -- nothing fits
    have hL2 : leftL pairs.length (bigA feet pairs (k + 1)) = leftL pairs.length (bigA feet pairs k) := by
      rw [hL, h2, leftL_leftT, List.erase_of_not_mem (neg_not _ _)]
    have e : smallB feet pairs k = (q.1, -1) :: smallB feet pairs (k + 1) := by
      unfold smallB
      rw [hL2, hg]
      refine byL_nil (List.filter_eq_nil_iff.mpr fun j hj => ?_)
      have := h1 j ((bySz_perm _ _).mem_iff.mp hj)
      unfold fitG at this
      rw [this]; exact Bool.false_ne_true
    rw [e, srv_cons, if_pos rfl]
    omega
  · have hq0 : q.2 ≠ -1 := by
      have := (mem_intsN (List.mem_filter.mp h1).1).1
      omega
    have e1 : srv [q] = 1 := by
      rw [show [q] = q :: [] from rfl, srv_cons, if_neg hq0]
      rfl
    have nn : ∀ n, ∀ j ∈ leftL pairs.length (bigA feet pairs n), 0 ≤ j := fun n j hj => (mem_intsN (List.mem_filter.mp hj).1).1
    obtain ⟨top, ht⟩ := exists_top pairs
    obtain ⟨s, hs⟩ := gs_small top (nn (k + 1)) (fun j hj => getI_lt ht (List.mem_filter.mp hj).1) (smallB_gs feet pairs (k + 1))
    have hu := gs_upper (nn k) (smallB_gs feet pairs k) s
    rw [smallB_ft] at hs hu
    rw [hg, List.map_cons] at hu
    rw [hL] at hs
    rw [cP_erase pairs h1 s] at hu
    have hc : cF (getI feet q.1 :: ((obf feet).drop (k + 1)).map (getI feet)) s ≤ cF (((obf feet).drop (k + 1)).map (getI feet)) s + 1 := by
      unfold cF
      rw [List.filter_cons]
      split
      · rw [List.length_cons]; omega
      · omega
    have hc2 : (if s ≤ getI pairs q.2 then 1 else 0) ≤ 1 := by split <;> omega
    omega
/-- each number between occurs -/
theorem lts_between {feet pairs : List Int} {f m num : Int} (hf : IsFew feet pairs f) (hm : IsMost feet pairs m) (h1 : f ≤ num) (h2 : num ≤ m) : ∃ k, k ≤ feet.length ∧ (srv (ltsR feet pairs k) : Int) = num := by
  have h0 := lts_zero hm
  have hn := lts_all hf
  refine Classical.byContradiction fun hno => ?_
  have hall : ∀ k, k ≤ feet.length → num < (srv (ltsR feet pairs k) : Int) := by
    intro k
    induction k with
    | zero =>
      intro hk
      have : (srv (ltsR feet pairs 0) : Int) ≠ num := fun e => hno ⟨0, hk, e⟩
      omega
    | succ k ih =>
      intro hk
      have i1 := ih (by omega)
      have i2 := lts_step (feet := feet) (pairs := pairs) (k := k) (by omega)
      have : (srv (ltsR feet pairs (k + 1)) : Int) ≠ num := fun e => hno ⟨k + 1, hk, e⟩
      omega
  have := hall feet.length (Nat.le_refl _)
  omega
/-- what run_with finds -/
def withR (feet pairs : List Int) (num : Int) : Option Nat := (List.range (feet.length + 1)).find? fun k => decide ((srv (ltsR feet pairs k) : Int) = num)
def withD (feet pairs : List Int) (num : Int) : PyData := match withR feet pairs num with
  | some k => runD (ltsR feet pairs k)
  | none => .none
theorem with_form {feet pairs : List Int} {f m : Int} (hf : IsFew feet pairs f) (hm : IsMost feet pairs m) (num : Int) : (f ≤ num ∧ num ≤ m ∧ ∃ W, withD feet pairs num = runD W ∧ RunV anyR feet pairs W ∧ (srv W : Int) = num) ∨ (¬ (f ≤ num ∧ num ≤ m) ∧ withD feet pairs num = .none) := by
  unfold withD
  cases e : withR feet pairs num with
  | some k =>
    obtain ⟨_, h2, _⟩ := of_some e
    have h2 := of_decide_eq_true h2
    have hv := lts_v feet pairs k
    have := run_few hv hf
    have := run_most hv hm
    exact .inl ⟨by omega, by omega, _, rfl, hv, h2⟩
  | none =>
    refine .inr ⟨fun ⟨a, b⟩ => ?_, rfl⟩
    obtain ⟨k, hk, he⟩ := lts_between hf hm a b
    have := of_none e k (by omega)
    rw [decide_eq_true he] at this
    exact absurd this (by decide)
/-- the least of the sums at 1 and behind each pair -/
def mostC (feet pairs : List Int) : List Int := (pairs.length : Int) :: pairs.map fun z => (((feet.filter fun f => decide (f ≤ z)).length : Nat) : Int) + ((pairs.filter fun o => decide (z < o)).length : Nat)
theorem mostC_least {feet pairs : List Int} (hh : HallOk feet pairs) {m : Int} (h1 : m ∈ mostC feet pairs) (h2 : ∀ y ∈ mostC feet pairs, m ≤ y) : IsMost feet pairs m := by
  have f1 : ∀ z : Int, (feet.filter fun f => decide (f ≤ z)).length = cF feet (z + 1) := fun z => by
    unfold cF
    exact congrArg List.length (List.filter_congr fun x _ => decide_eq_decide.mpr (by omega))
  have p1 : ∀ z : Int, (pairs.filter fun o => decide (z < o)).length = cP pairs (z + 1) := fun z => by
    unfold cP
    exact congrArg List.length (List.filter_congr fun x _ => decide_eq_decide.mpr (by omega))
  have z1 : cF feet 1 = 0 := cF_zero fun x hx => (hh.fi x hx).1
  have z2 : cP pairs 1 = pairs.length := by
    unfold cP
    rw [List.filter_eq_self.mpr fun x hx => decide_eq_true (hh.pi x hx).1]
  constructor
  · rcases List.mem_cons.mp h1 with rfl | h1
    · exact ⟨1, by rw [z1, z2]; omega⟩
    · obtain ⟨z, _, rfl⟩ := List.mem_map.mp h1
      exact ⟨z + 1, by rw [f1, p1]⟩
  · intro s
    by_cases hn : ∃ z ∈ pairs, z < s
    · -- the greatest below s
      obtain ⟨z, hz, hzs, hmax⟩ : ∃ z ∈ pairs, z < s ∧ ∀ y ∈ pairs, y < s → y ≤ z := by
        have key : ∀ l : List Int, (∃ z ∈ l, z < s) → ∃ z ∈ l, z < s ∧ ∀ y ∈ l, y < s → y ≤ z := by
          intro l
          induction l with
          | nil => rintro ⟨z, hz, _⟩; exact nomatch hz
          | cons a l ih =>
            rintro _
            by_cases hl : ∃ z ∈ l, z < s
            · obtain ⟨z, hz, hzs, hm⟩ := ih hl
              by_cases ha : a < s ∧ z ≤ a
              · refine ⟨a, by simp, ha.1, fun y hy hys => ?_⟩
                rcases List.mem_cons.mp hy with rfl | hy
                · exact Int.le_refl _
                · exact Int.le_trans (hm y hy hys) ha.2
              · refine ⟨z, List.mem_cons_of_mem _ hz, hzs, fun y hy hys => ?_⟩
                rcases List.mem_cons.mp hy with rfl | hy
                · omega
                · exact hm y hy hys
            · rename_i hx
              obtain ⟨z, hz, hzs⟩ := hx
              rcases List.mem_cons.mp hz with rfl | hz
              · refine ⟨z, by simp, hzs, fun y hy hys => ?_⟩
                rcases List.mem_cons.mp hy with rfl | hy
                · exact Int.le_refl _
                · exact absurd ⟨y, hy, hys⟩ hl
              · exact absurd ⟨z, hz, hzs⟩ hl
        exact key pairs hn
      have := h2 _ (List.mem_cons_of_mem _ (List.mem_map_of_mem hz))
      rw [f1, p1] at this
      have a1 : cF feet (z + 1) ≤ cF feet s := by
        unfold cF
        have e : (feet.filter fun x => decide (x < z + 1)) = (feet.filter fun x => decide (x < s)).filter fun x => decide (x < z + 1) := by
          rw [List.filter_filter]
          refine List.filter_congr fun x _ => ?_
          by_cases q : x < z + 1
          · rw [decide_eq_true q, decide_eq_true (show x < s by omega)]; rfl
          · rw [decide_eq_false q]; rfl
        rw [e]
        exact List.length_filter_le _ _
      have a2 : cP pairs (z + 1) ≤ cP pairs s := by
        unfold cP
        rw [List.filter_congr (q := fun x => decide (s ≤ x)) fun x hx => decide_eq_decide.mpr ⟨fun q => by
          refine Classical.byContradiction fun q2 => ?_
          have := hmax x hx (by omega)
          omega, fun q => by omega⟩]
        exact Nat.le_refl _
      omega
    · have := h2 _ (List.mem_cons_self ..)
      have a2 : cP pairs s = pairs.length := by
        unfold cP
        rw [List.filter_eq_self.mpr fun x hx => decide_eq_true (Classical.byContradiction fun q => hn ⟨x, hx, by omega⟩)]
      rw [a2]
      omega
/-! how many runs a small hall has -/
def facN : Nat → Nat
  | 0 => 1
  | r + 1 => (r + 1) * facN r
def manyN : Nat → Nat → Nat
  | 0, _ => 1
  | r + 1, p => max (manyN r p) (p * manyN r (p - 1))
def wR (feet pairs : List Int) (k : Nat) (row : List (Int × Int)) : Nat := facN (feet.length - k) * manyN (feet.length - k) (leftT pairs.length (row.map (·.2))).length
theorem sum_flat {α β : Type} (f : α → List β) (w : α → Nat) (w' : β → Nat) : ∀ l : List α, (∀ x ∈ l, ((f x).map w').sum ≤ w x) → ((l.flatMap f).map w').sum ≤ (l.map w).sum
  | [], _ => Nat.le_refl _
  | a :: l, h => by
    rw [List.flatMap_cons, List.map_append, List.sum_append, List.map_cons, List.sum_cons]
    exact Nat.add_le_add (h a (by simp)) (sum_flat f w w' l fun x hx => h x (by simp [hx]))
theorem sum_le {α : Type} (w : α → Nat) (c : Nat) : ∀ l : List α, (∀ x ∈ l, w x ≤ c) → (l.map w).sum ≤ l.length * c
  | [], _ => Nat.zero_le _
  | a :: l, h => by
    rw [List.map_cons, List.sum_cons, List.length_cons, Nat.succ_mul, Nat.add_comm]
    exact Nat.add_le_add (sum_le w c l fun x hx => h x (by simp [hx])) (h a (by simp))
theorem sum_some {β : Type} (P : Int → Prop) [DecidablePred P] (F : Int → List β) (w : β → Nat) (B : Nat) : ∀ l : List Int, (∀ g ∈ l, ¬ P g → ((F g).map w).sum ≤ B) → ((l.flatMap fun g => if P g then [] else F g).map w).sum ≤ (l.filter fun g => !decide (P g)).length * B
  | [], _ => Nat.zero_le _
  | a :: l, h => by
    have ih := sum_some P F w B l fun x hx => h x (by simp [hx])
    rw [List.flatMap_cons, List.map_append, List.sum_append, List.filter_cons]
    by_cases q : P a
    · rw [if_pos q, decide_eq_true q]
      simpa using ih
    · rw [if_neg q, decide_eq_false q]
      have := h a (by simp) q
      show _ ≤ (a :: l.filter fun g => !decide (P g)).length * B
      rw [List.length_cons, Nat.succ_mul, Nat.add_comm]
      exact Nat.add_le_add ih this
theorem begun_sum {feet pairs : List Int} {k : Nat} (hk : k < feet.length) (row : List (Int × Int)) (g : Int) : ((begun1 feet pairs row g).map (wR feet pairs (k + 1))).sum ≤ facN (feet.length - (k + 1)) * manyN (feet.length - k) (leftT pairs.length (row.map (·.2))).length := by
  have er : feet.length - k = (feet.length - (k + 1)) + 1 := by omega
  rw [er]
  generalize hr : feet.length - (k + 1) = r
  have ew : ∀ j, wR feet pairs (k + 1) (row ++ [(g, j)]) = facN r * manyN r (leftT pairs.length (row.map (·.2) ++ [j])).length := fun j => by
    unfold wR
    rw [hr, List.map_append]
    rfl
  unfold begun1
  rw [List.map_map]
  unfold choices
  split
  · show (wR feet pairs (k + 1) (row ++ [(g, -1)])) + 0 ≤ _
    rw [ew, ← leftT_erase, List.erase_of_not_mem (neg_not _ _)]
    exact Nat.mul_le_mul_left _ (Nat.le_max_left _ _)
  · refine Nat.le_trans (sum_le _ (facN r * manyN r ((leftT pairs.length (row.map (·.2))).length - 1)) _ fun j hj => ?_) ?_
    · show wR feet pairs (k + 1) (row ++ [(g, j)]) ≤ _
      rw [ew, ← leftT_erase, List.length_erase_of_mem (List.mem_filter.mp hj).1]
      exact Nat.le_refl _
    · have := List.length_filter_le (fitG feet pairs g) (leftT pairs.length (row.map (·.2)))
      refine Nat.le_trans (Nat.mul_le_mul_right _ this) ?_
      rw [Nat.mul_left_comm]
      exact Nat.mul_le_mul_left _ (Nat.le_max_right _ _)
theorem step_sum {feet pairs : List Int} {k : Nat} (hk : k < feet.length) {row : List (Int × Int)} (hr : PreV feet pairs k row) :
    (((intsN feet.length).flatMap fun g => if g ∈ row.map (·.1) then [] else begunR feet pairs [row] g).map (wR feet pairs (k + 1))).sum ≤ wR feet pairs k row := by
  refine Nat.le_trans (sum_some (fun g => g ∈ row.map (·.1)) _ _ (facN (feet.length - (k + 1)) * manyN (feet.length - k) (leftT pairs.length (row.map (·.2))).length) _ fun g _ _ => ?_) ?_
  · unfold begunR
    rw [List.flatMap_cons, List.flatMap_nil, List.append_nil]
    exact begun_sum hk row g
  · have h1 : ((intsN feet.length).filter fun g => decide (g ∈ row.map (·.1))).length + ((intsN feet.length).filter fun g => !decide (g ∈ row.map (·.1))).length = feet.length := by
      have := (List.filter_append_perm (fun g => decide (g ∈ row.map (·.1))) (intsN feet.length)).length_eq
      rwa [List.length_append, intsN_len] at this
    have h2 : (row.map (·.1)).length ≤ ((intsN feet.length).filter fun g => decide (g ∈ row.map (·.1))).length := nodup_len hr.nd fun x hx => List.mem_filter.mpr ⟨hr.mem x hx, decide_eq_true hx⟩
    rw [List.length_map, hr.len] at h2
    have h3 : ((intsN feet.length).filter fun g => !decide (g ∈ row.map (·.1))).length ≤ feet.length - k := by omega
    refine Nat.le_trans (Nat.mul_le_mul_right _ h3) ?_
    unfold wR
    rw [← Nat.mul_assoc]
    refine Nat.mul_le_mul_right _ ?_
    rw [show feet.length - k = (feet.length - (k + 1)) + 1 by omega]
    exact Nat.le_refl _
theorem runs_sum (feet pairs : List Int) : ∀ k, k ≤ feet.length → ((runsR feet pairs k).map (wR feet pairs k)).sum ≤ wR feet pairs 0 []
  | 0, _ => by
    show wR feet pairs 0 [] + 0 ≤ _
    exact Nat.le_refl _
  | k + 1, hk => by
    refine Nat.le_trans ?_ (runs_sum feet pairs k (by omega))
    exact sum_flat _ _ _ _ fun row hr => step_sum (by omega) (mem_runsR.mp hr)
theorem sum_one {α : Type} (w : α → Nat) : ∀ l : List α, (∀ x ∈ l, w x = 1) → (l.map w).sum = l.length
  | [], _ => rfl
  | a :: l, h => by
    rw [List.map_cons, List.sum_cons, List.length_cons, h a (by simp), sum_one w l fun x hx => h x (by simp [hx]), Nat.add_comm]
theorem all_len {feet pairs : List Int} (hf : feet.length ≤ 4) (hp : pairs.length ≤ 4) : (allRuns feet pairs).length ≤ 576 := by
  have h := runs_sum feet pairs feet.length (Nat.le_refl _)
  rw [sum_one (wR feet pairs feet.length) _ fun x _ => by unfold wR; rw [Nat.sub_self]; rfl] at h
  refine Nat.le_trans h ?_
  unfold wR
  show facN (feet.length - 0) * manyN (feet.length - 0) (leftT pairs.length []).length ≤ 576
  rw [leftT_nil, intsN_len, Nat.sub_zero]
  generalize feet.length = a at hf ⊢
  generalize pairs.length = b at hp ⊢
  have ha : a = 0 ∨ a = 1 ∨ a = 2 ∨ a = 3 ∨ a = 4 := by omega
  have hb : b = 0 ∨ b = 1 ∨ b = 2 ∨ b = 3 ∨ b = 4 := by omega
  rcases ha with rfl | rfl | rfl | rfl | rfl <;> rcases hb with rfl | rfl | rfl | rfl | rfl <;> decide
end DL
set_option maxHeartbeats 0
namespace DL
open PySem PySem.Spec PyProof.Rows L2
/-! runs, judged -/
theorem pre_take {feet pairs : List Int} {n k : Nat} {r : List (Int × Int)} (h : PreV feet pairs n r) (hk : k ≤ n) : PreV feet pairs k (r.take k) := by
  have e : r.take k ++ r.drop k = r := List.take_append_drop k r
  refine ⟨by rw [List.length_take, h.len]; omega, ?_, fun g hg => ?_, ?_⟩
  · have := h.nd
    rw [← e, List.map_append] at this
    exact (List.nodup_append.mp this).1
  · rw [List.map_take] at hg
    exact h.mem g (List.mem_of_mem_take hg)
  · have := h.s
    rw [← e] at this
    exact gs_pre _ _ this
def mayB (feet pairs staying left : List Int) (q : Int × Int) : Bool := decide (q.1 ∈ staying) && decide (q.2 ∈ choices feet pairs left q.1)
theorem pre_step {feet pairs : List Int} {k : Nat} {r : List (Int × Int)} {q : Int × Int} (h : PreV feet pairs k r) :
    mayB feet pairs (leftT feet.length (r.map (·.1))) (leftT pairs.length (r.map (·.2))) q = true ↔ PreV feet pairs (k + 1) (r ++ [q]) := by
  unfold mayB
  rw [Bool.and_eq_true, decide_eq_true_eq, decide_eq_true_eq, mem_choices]
  have hg := gs_append (feet := feet) (pairs := pairs) (m := pairs.length) q r []
  constructor
  · rintro ⟨a, b⟩
    obtain ⟨a1, a2⟩ := List.mem_filter.mp a
    have a2 := of_decide_eq_true a2
    refine ⟨by rw [List.length_append, h.len]; rfl, ?_, fun x hx => ?_, hg.mpr ⟨h.s, b⟩⟩
    · rw [List.map_append, List.nodup_append]
      refine ⟨h.nd, by simp, fun x hx y hy => ?_⟩
      simp at hy
      rintro rfl
      exact a2 (hy ▸ hx)
    · rw [List.map_append] at hx
      rcases List.mem_append.mp hx with z | z
      · exact h.mem x z
      · simp at z; rw [z]; exact a1
  · intro h2
    have hnd := h2.nd
    rw [List.map_append, List.nodup_append] at hnd
    refine ⟨List.mem_filter.mpr ⟨h2.mem q.1 (by simp), decide_eq_true fun hx => hnd.2.2 q.1 hx q.1 (by simp) rfl⟩, (hg.mp h2.s).2⟩
theorem take_succ' {α : Type} {l : List α} {k : Nat} {x : α} (h : l[k]? = some x) : l.take (k + 1) = l.take k ++ [x] := by
  rw [List.take_add_one, h]; rfl
theorem eqvA_prs : ∀ a b : List (Int × Int), PyData.eqvAll (a.map prD) (b.map prD) = decide (a = b)
  | [], [] => rfl
  | [], _ :: _ => rfl
  | _ :: _, [] => rfl
  | (x1, x2) :: xs, (y1, y2) :: ys => by
    show (PyData.eqv (.tuple [.int x1, .int x2]) (.tuple [.int y1, .int y2]) && PyData.eqvAll (xs.map prD) (ys.map prD)) = _
    rw [eqv_pr, eqvA_prs xs ys]
    by_cases h1 : x1 = y1 <;> by_cases h2 : x2 = y2 <;> by_cases h3 : xs = ys <;> simp [h1, h2, h3]
theorem eqv_run (a b : List (Int × Int)) : PyData.eqv (runD a) (runD b) = decide (a = b) := eqvA_prs a b
theorem inR_runs (l : List (List (Int × Int))) (r : List (Int × Int)) : ((l.map runD).any fun z => PyData.eqv z (runD r)) = decide (r ∈ l) := by
  rw [Bool.eq_iff_iff, List.any_eq_true, decide_eq_true_iff]
  constructor
  · rintro ⟨z, hz, he⟩
    obtain ⟨y, hy, rfl⟩ := List.mem_map.mp hz
    rw [eqv_run] at he
    exact of_decide_eq_true he ▸ hy
  · intro h
    exact ⟨runD r, List.mem_map_of_mem h, by rw [eqv_run]; exact decide_eq_true rfl⟩
theorem flat_filter {β : Type} (P : List Int) (f g : Int → List β) : ∀ (l : List Int), (∀ x ∈ l, f x = g x) → (l.flatMap fun x => if x ∈ P then [] else f x) = (l.filter fun x => decide (x ∉ P)).flatMap g := by
  intro l
  induction l with
  | nil => intro _; rfl
  | cons a l ih =>
    intro h
    have ih := ih fun x hx => h x (by simp [hx])
    rw [List.flatMap_cons, ih]
    by_cases ha : a ∈ P
    · rw [if_pos ha, List.filter_cons_of_neg (by simp [ha]), List.nil_append]
    · rw [if_neg ha, List.filter_cons_of_pos (by simp [ha]), List.flatMap_cons, h a (by simp)]
theorem suited_choices (feet pairs T : List Int) (g : Int) : ((intsN pairs.length).filter fun j => decide (j ∉ T) && fitG feet pairs g j) = (leftT pairs.length T).filter (fitG feet pairs g) := by
  unfold leftT
  rw [List.filter_filter]
  exact List.filter_congr fun x _ => by rw [Bool.and_comm]
theorem large_srvF {feet pairs : List Int} {m : Int} (hm : IsFew feet pairs m) : (srv (largeR feet pairs) : Int) = m := run_large (large_v feet pairs) (obf_rise _ _ _) hm
/-! tables of words -/
def wordsD (ws : List Str) : PyData := .tuple (ws.map .str)
def tabsL : Nat → List (List Str)
  | 0 => [[]]
  | k + 1 => (tabsL k).map (fun t : List Str => t ++ [("feet" : Str)]) ++ (tabsL k).map fun t : List Str => t ++ [("pairs" : Str)]
theorem tabs_succ (k : Nat) : tabsL (k + 1) = (tabsL k).map (fun t : List Str => t ++ [("feet" : Str)]) ++ (tabsL k).map fun t : List Str => t ++ [("pairs" : Str)] := rfl
theorem tabs_len : ∀ k, (tabsL k).length = 2 ^ k
  | 0 => rfl
  | k + 1 => by
    show ((tabsL k).map (fun t : List Str => t ++ [("feet" : Str)]) ++ (tabsL k).map fun t : List Str => t ++ [("pairs" : Str)]).length = _
    rw [List.length_append, List.length_map, List.length_map, tabs_len k, Nat.pow_succ]; omega
theorem mem_tabs : ∀ {k : Nat} {ws : List Str}, ws ∈ tabsL k ↔ (ws.length = k ∧ ∀ w ∈ ws, w = "feet" ∨ w = "pairs")
  | 0, ws => by
    show ws ∈ [[]] ↔ _
    rw [List.mem_singleton]
    constructor
    · rintro rfl
      exact ⟨rfl, fun _ h => (nomatch h)⟩
    · exact fun h => List.eq_nil_of_length_eq_zero h.1
  | k + 1, ws => by
    show ws ∈ (tabsL k).map (fun t : List Str => t ++ [("feet" : Str)]) ++ (tabsL k).map (fun t : List Str => t ++ [("pairs" : Str)]) ↔ _
    rw [List.mem_append, List.mem_map, List.mem_map]
    have two : ∀ t : List Str, ∀ w : Str, (w = "feet" ∨ w = "pairs") → t ∈ tabsL k → ((t ++ [w]).length = k + 1 ∧ ∀ x ∈ t ++ [w], x = "feet" ∨ x = "pairs") := fun t w hw ht => by
      obtain ⟨h1, h2⟩ := mem_tabs.mp ht
      refine ⟨by rw [List.length_append, h1]; rfl, fun x hx => ?_⟩
      rcases List.mem_append.mp hx with z | z
      · exact h2 x z
      · rw [List.mem_singleton.mp z]; exact hw
    constructor
    · rintro (⟨t, ht, rfl⟩ | ⟨t, ht, rfl⟩)
      · exact two t _ (.inl rfl) ht
      · exact two t _ (.inr rfl) ht
    · rintro ⟨h1, h2⟩
      have hne : ws ≠ [] := fun e => by rw [e] at h1; cases h1
      obtain ⟨t, w, rfl⟩ : ∃ t w, ws = t ++ [w] := ⟨ws.dropLast, ws.getLast hne, (List.dropLast_concat_getLast hne).symm⟩
      have ht : t ∈ tabsL k := mem_tabs.mpr ⟨by rw [List.length_append] at h1; simpa using h1, fun x hx => h2 x (List.mem_append_left _ hx)⟩
      rcases h2 w (by simp) with rfl | rfl
      · exact .inl ⟨t, ht, rfl⟩
      · exact .inr ⟨t, ht, rfl⟩
theorem eqvA_strs : ∀ a b : List Str, PyData.eqvAll (a.map .str) (b.map .str) = decide (a = b)
  | [], [] => rfl
  | [], _ :: _ => rfl
  | _ :: _, [] => rfl
  | x :: xs, y :: ys => by
    show (decide (x = y) && PyData.eqvAll (xs.map .str) (ys.map .str)) = _
    rw [eqvA_strs xs ys]
    by_cases h1 : x = y <;> by_cases h3 : xs = ys <;> simp [h1, h3]
theorem eqv_words (a b : List Str) : PyData.eqv (wordsD a) (wordsD b) = decide (a = b) := eqvA_strs a b
theorem inW_tabs (l : List (List Str)) (r : List Str) : ((l.map wordsD).any fun z => PyData.eqv z (wordsD r)) = decide (r ∈ l) := by
  rw [Bool.eq_iff_iff, List.any_eq_true, decide_eq_true_iff]
  constructor
  · rintro ⟨z, hz, he⟩
    obtain ⟨y, hy, rfl⟩ := List.mem_map.mp hz
    rw [eqv_words] at he
    exact of_decide_eq_true he ▸ hy
  · intro h
    exact ⟨wordsD r, List.mem_map_of_mem h, by rw [eqv_words]; exact decide_eq_true rfl⟩
theorem sh_words1 (ws : List Str) (h : ∀ w ∈ ws, w = "feet" ∨ w = "pairs") : PyData.canLay0 (wordsD ws) = true ∧ PyData.depth (wordsD ws) ≤ 1 := by
  unfold wordsD
  refine ⟨?_, ?_⟩
  · simp only [PyData.canLay0]
    exact canAll fun d hd => by
      obtain ⟨w, hw, rfl⟩ := List.mem_map.mp hd
      rcases h w hw with rfl | rfl <;> decide +kernel
  · simp only [PyData.depth]
    exact Nat.succ_le_succ (depthAll_le (k := 0) fun d hd => by obtain ⟨_, _, rfl⟩ := List.mem_map.mp hd; exact Nat.le_refl _)
theorem sh_words (ws : List Str) (h : ∀ w ∈ ws, w = "feet" ∨ w = "pairs") : Sh (wordsD ws) :=
  Bool.and_eq_true_iff.mpr ⟨(sh_words1 ws h).1, decide_eq_true (Nat.le_trans (sh_words1 ws h).2 (by decide))⟩
theorem sh_tabs (l : List (List Str)) (h : ∀ ws ∈ l, ∀ w ∈ ws, w = "feet" ∨ w = "pairs") : Sh (.list (l.map wordsD)) :=
  Bool.and_eq_true_iff.mpr ⟨by
    simp only [PyData.canLay0]
    exact canAll fun d hd => by obtain ⟨ws, hw, rfl⟩ := List.mem_map.mp hd; exact (sh_words1 ws (h ws hw)).1, decide_eq_true (by
    simp only [PyData.depth]
    exact Nat.le_trans (Nat.succ_le_succ (depthAll_le (k := 1) fun d hd => by obtain ⟨ws, hw, rfl⟩ := List.mem_map.mp hd; exact (sh_words1 ws (h ws hw)).2)) (by decide))⟩
/-! numbers from f to m -/
def spanL (f m : Int) : List Int := (List.range (m + 1 - f).toNat).map fun (j : Nat) => f + (j : Int)
theorem mem_span {f m x : Int} : x ∈ spanL f m ↔ (f ≤ x ∧ x ≤ m) := by
  unfold spanL
  rw [List.mem_map]
  constructor
  · rintro ⟨j, hj, rfl⟩
    have := List.mem_range.mp hj
    omega
  · rintro ⟨q1, q2⟩
    exact ⟨(x - f).toNat, List.mem_range.mpr (by omega), by omega⟩
theorem span_lt (f m : Int) : (spanL f m).Pairwise (· < ·) := by
  unfold spanL
  rw [List.pairwise_map]
  exact (List.pairwise_lt_range).imp fun h => by omega
theorem span_uniq {f m : Int} {ms : List Int} (h : ms.Pairwise (· < ·)) (hm : ∀ k, k ∈ ms ↔ (f ≤ k ∧ k ≤ m)) : ms = spanL f m := by
  have e1 := sd_uniq (xs := spanL f m) h fun k => (hm k).trans mem_span.symm
  have e2 := sd_uniq (xs := spanL f m) (span_lt f m) fun k => Iff.rfl
  rw [e1]; exact e2.symm
theorem span_rng (f m : Int) : rngD f (m + 1 - f).toNat = (spanL f m).map .int := by
  unfold rngD spanL
  rw [List.map_map]
  rfl
theorem span_len (f m : Int) : (spanL f m).length = (m + 1 - f).toNat := by unfold spanL; rw [List.length_map, List.length_range]
theorem span_first {f m : Int} (h : f ≤ m) : atI ((spanL f m).map PyData.int) 0 = some (.int f) := by
  rw [atI_get (by decide) (by rw [span_len]; omega)]
  unfold getI spanL
  rw [List.getElem?_map, List.getElem?_range (by omega)]
  simp
theorem span_last {f m : Int} (h : f ≤ m) : atI ((spanL f m).map PyData.int) (-1) = some (.int m) := by
  have e : spanL f m = spanL f (m - 1) ++ [m] := by
    unfold spanL
    rw [show (m + 1 - f).toNat = (m - 1 + 1 - f).toNat + 1 by omega, List.range_succ, List.map_append]
    congr 1
    show [f + (((m - 1 + 1 - f).toNat : Nat) : Int)] = [m]
    congr 1
    omega
  rw [e]
  exact atI_last _ _
end DL
set_option maxHeartbeats 0
namespace DL
open PySem PySem.Spec PyProof.Rows L2
/-! ## runs, judged: any value -/
def numB : PyData → Bool
  | .int _ => true
  | _ => false
def tupB (d : PyData) (a b : Int) : Bool := match d with
  | .tuple ds => decide (a ≤ ds.length) && decide ((ds.length : Int) ≤ b)
  | _ => false
/-- an item as numbers -/
def itemP : PyData → Option (Int × Int)
  | .tuple [.int g, .int p] => some (g, p)
  | _ => none
def mayD (F P staying left : List Int) (d : PyData) : Bool := match itemP d with
  | some q => mayB F P staying left q
  | none => false
/-- the items that are still to come, behind a beginning -/
def goK (F P : List Int) : List (Int × Int) → List PyData → Bool
  | _, [] => true
  | r, d :: ds => match itemP d with
    | some q => mayB F P (leftT F.length (r.map (·.1))) (leftT P.length (r.map (·.2))) q && goK F P (r ++ [q]) ds
    | none => false
def runJ (F P : List Int) (d : PyData) : Bool := match d with
  | .tuple ds => decide (ds.length = F.length) && goK F P [] ds
  | _ => false
theorem itemP_some {d : PyData} {q : Int × Int} (h : itemP d = some q) : d = prD q := by
  unfold itemP at h
  split at h
  · cases h; rfl
  · cases h
theorem itemP_pr (q : Int × Int) : itemP (prD q) = some q := rfl
theorem goK_cons {F P : List Int} {r : List (Int × Int)} {d : PyData} {ds : List PyData} : goK F P r (d :: ds) = (mayD F P (leftT F.length (r.map (·.1))) (leftT P.length (r.map (·.2))) d && (match itemP d with | some q => goK F P (r ++ [q]) ds | none => false)) := by
  rw [goK]
  unfold mayD
  cases itemP d with
  | none => rfl
  | some q => rfl
theorem drop_cons' {α : Type} {l : List α} {k : Nat} {x : α} (h : l[k]? = some x) : l.drop k = x :: l.drop (k + 1) := by
  obtain ⟨h1, h2⟩ := List.getElem?_eq_some_iff.mp h
  rw [List.drop_eq_getElem_cons h1, h2]
def numIn (d : PyData) (a b : Int) : Bool := match d with
  | .int z => decide (a ≤ z) && decide (z ≤ b)
  | _ => false
theorem tupB_true {d : PyData} {a b : Int} (h : tupB d a b = true) : ∃ ds, d = .tuple ds ∧ a ≤ ds.length ∧ (ds.length : Int) ≤ b := by
  unfold tupB at h
  split at h
  · rw [Bool.and_eq_true, decide_eq_true_eq, decide_eq_true_eq] at h
    exact ⟨_, rfl, h⟩
  · cases h
theorem tupB_false {F P : List Int} {d : PyData} (h : tupB d F.length F.length = false) : runJ F P d = false := by
  unfold runJ
  split
  · rename_i ds
    unfold tupB at h
    have h : (decide ((F.length : Int) ≤ ds.length) && decide ((ds.length : Int) ≤ F.length)) = false := h
    rw [decide_eq_false, Bool.false_and]
    intro e
    rw [e, decide_eq_true (Int.le_refl _)] at h
    cases h
  · rfl
theorem two_of {ds : List PyData} (h : (2 : Int) ≤ ds.length) (h2 : (ds.length : Int) ≤ 2) : ∃ x y, ds = [x, y] := by
  match ds, h, h2 with
  | [x, y], _, _ => exact ⟨x, y, rfl⟩
  | [], h, _ => exact absurd h (by decide)
  | [_], h, _ => exact absurd h (by show ¬ (2 : Int) ≤ 1; decide)
  | _ :: _ :: _ :: r, _, h => simp at h; omega
theorem itemP_not {d : PyData} (h : tupB d 2 2 = false) : itemP d = none := by
  unfold itemP
  split
  · exact absurd h (show ¬ true = false by decide)
  · rfl
theorem numB_false {x : PyData} (h : numB x = false) : ∀ i, x ≠ .int i := fun i e => by rw [e] at h; cases h
theorem numB_true {x : PyData} (h : numB x = true) : ∃ i, x = .int i := by
  unfold numB at h
  split at h
  · exact ⟨_, rfl⟩
  · cases h
theorem itemP_l {x y : PyData} (h : numB x = false) : itemP (.tuple [x, y]) = none := by
  unfold itemP
  split
  · rename_i g p e
    injection e with e1
    injection e1 with e2
    exact absurd e2 (numB_false h _)
  · rfl
theorem itemP_r {x y : PyData} (h : numB y = false) : itemP (.tuple [x, y]) = none := by
  unfold itemP
  split
  · rename_i g p e
    injection e with e1
    injection e1 with e2 e3
    injection e3 with e4
    exact absurd e4 (numB_false h _)
  · rfl
section
variable {F P : List Int} {r : List (Int × Int)} {g p : Int}
abbrev mayR (F P : List Int) (r : List (Int × Int)) (g p : Int) : Bool := mayB F P (leftT F.length (r.map (·.1))) (leftT P.length (r.map (·.2))) (g, p)
abbrev suitR (F P : List Int) (r : List (Int × Int)) (g : Int) : List Int := (leftT P.length (r.map (·.2))).filter (fitG F P g)
theorem may_split : mayR F P r g p = (decide (g ∈ leftT F.length (r.map (·.1))) && decide (p ∈ choices F P (leftT P.length (r.map (·.2))) g)) := rfl
theorem may_in : g ∈ leftT F.length (r.map (·.1)) ↔ ((0 ≤ g ∧ g < F.length) ∧ g ∉ r.map (·.1)) := by
  unfold leftT
  rw [List.mem_filter, decide_eq_true_eq]
  exact ⟨fun ⟨a, b⟩ => ⟨mem_intsN a, b⟩, fun ⟨a, b⟩ => ⟨mem_ints a.1 a.2, b⟩⟩
theorem may_ch : p ∈ choices F P (leftT P.length (r.map (·.2))) g ↔ ((suitR F P r g = [] ∧ p = -1) ∨ p ∈ suitR F P r g) := by
  unfold choices
  by_cases h : suitR F P r g = []
  · have h2 : List.filter (fitG F P g) (leftT P.length (r.map (·.2))) = [] := h
    rw [if_pos h2, List.mem_singleton]
    exact ⟨fun q => .inl ⟨h, q⟩, fun q => q.elim (·.2) fun z => by rw [h] at z; cases z⟩
  · have h2 : ¬ List.filter (fitG F P g) (leftT P.length (r.map (·.2))) = [] := h
    rw [if_neg h2]
    exact ⟨fun q => .inr q, fun q => q.elim (fun z => absurd z.1 h) id⟩
theorem suit_in (h : p ∈ suitR F P r g) : 0 ≤ p ∧ p < P.length := mem_intsN (List.mem_filter.mp (List.mem_filter.mp h).1).1
theorem may_false (h : ¬ (((0 ≤ g ∧ g < F.length) ∧ g ∉ r.map (·.1)) ∧ ((suitR F P r g = [] ∧ p = -1) ∨ p ∈ suitR F P r g))) : mayR F P r g p = false := by
  rw [may_split]
  refine Bool.eq_false_iff.mpr fun q => h ?_
  rw [Bool.and_eq_true, decide_eq_true_eq, decide_eq_true_eq, may_in, may_ch] at q
  exact q
theorem may_true (h1 : 0 ≤ g ∧ g < F.length) (h2 : g ∉ r.map (·.1)) (h3 : (suitR F P r g = [] ∧ p = -1) ∨ p ∈ suitR F P r g) : mayR F P r g p = true := by
  rw [may_split, Bool.and_eq_true, decide_eq_true_eq, decide_eq_true_eq, may_in, may_ch]
  exact ⟨⟨h1, h2⟩, h3⟩
theorem goK_false {d : PyData} {ds : List PyData} (h : ∀ q, itemP d = some q → mayR F P r q.1 q.2 = false) : goK F P r (d :: ds) = false := by
  rw [goK]
  cases e : itemP d with
  | none => rfl
  | some q =>
    have := h q e
    show (mayR F P r q.1 q.2 && _) = false
    rw [this]; rfl
theorem goK_true {ds : List PyData} (h : mayR F P r g p = true) : goK F P r (.tuple [.int g, .int p] :: ds) = goK F P (r ++ [(g, p)]) ds := by
  rw [goK]
  show (mayR F P r g p && _) = _
  rw [h]; rfl
end
theorem numIn_true {d : PyData} {a b : Int} (h : numIn d a b = true) : ∃ z, d = .int z ∧ a ≤ z ∧ z ≤ b := by
  unfold numIn at h
  split at h
  · rw [Bool.and_eq_true, decide_eq_true_eq, decide_eq_true_eq] at h
    exact ⟨_, rfl, h⟩
  · cases h
theorem numIn_false {z a b : Int} (h : numIn (.int z) a b = false) : ¬ (a ≤ z ∧ z ≤ b) := fun q => by
  have h : (decide (a ≤ z) && decide (z ≤ b)) = false := h
  rw [decide_eq_true q.1, decide_eq_true q.2] at h
  cases h
theorem itemP_two {a b : PyData} {q : Int × Int} (h : itemP (.tuple [a, b]) = some q) : a = .int q.1 ∧ b = .int q.2 := by
  have := itemP_some h
  injection this with e
  injection e with e1 e2
  injection e2 with e3
  exact ⟨e1, e3⟩
/-! odd values -/
def odds : List PyData := ([.none, .bool true, .bool false, .int (-1), .int 0, .int 1, .int ((10 : Int) ^ (6 : Int).toNat), .int ((10 : Int) ^ (6 : Int).toNat + 1), .int ((10 : Int) ^ (39 : Int).toNat), .str "", .str "1", .tuple [], .list [], .dict [], .tuple [.int 0], .list [.int 1], .tuple [.bool true]] ++ [.tuple [.int 0, .int 1]]) ++
  [.tuple [.tuple [.int 1], .tuple []], .tuple [.tuple [.int 1], .tuple [.int 1]], .tuple [.int 1, .int 1], .tuple [.int 0, .int (-1)], .tuple [.tuple []], .dict [(.str "a", .int 1)]]
theorem tameE_int {i : Int} {m : Nat} (h : i.natAbs < 2 ^ m) (hm : m ≤ 1000) (h0 : 0 < m) : TameE (m + 3) 0 (.int i) := (tame_int h hm h0).e
theorem odd_tame (d : PyData) (h : d ∈ odds) : TameE 500 4 d := by
  have key : (odds.all fun d => d.showable && decide (d.depth ≤ 4) && decide (d.shown.length ≤ 500)) = true := by decide +kernel
  have := List.all_eq_true.mp key d h
  rw [Bool.and_eq_true, Bool.and_eq_true, decide_eq_true_eq, decide_eq_true_eq] at this
  exact ⟨this.1.1, this.1.2, this.2⟩
theorem mem_cut {α : Type} {xs : List α} {lo hi : Option Int} {x : α} (h : x ∈ cutG xs lo hi) : x ∈ xs := by
  unfold cutG at h
  exact List.mem_of_mem_drop (List.mem_of_mem_take h)
theorem len_cut {α : Type} (xs : List α) (lo hi : Option Int) : (cutG xs lo hi).length ≤ xs.length := by
  unfold cutG
  rw [List.length_take, List.length_drop]
  omega
abbrev ItE (d : PyData) : Prop := TameE 1100 5 d
theorem itE_int {z : Int} (h1 : -1 ≤ z) (h2 : z ≤ 1000001) : ItE (.int z) := (tameE_int (m := 20) (by omega) (by decide) (by decide)).mono (by decide) (by decide)
theorem itE_t {ds : List PyData} (h : ∀ d ∈ ds, TameE 500 4 d) (hl : ds.length ≤ 2) : ItE (.tuple ds) := (tameE_tuple h hl).mono (by decide) (by decide)
theorem sE_int {z : Int} (h1 : -1 ≤ z) (h2 : z ≤ 1000001) : TameE 100 1 (.int z) := (tameE_int (m := 20) (by omega) (by decide) (by decide)).mono (by decide) (by decide)
theorem sE_bool (b : Bool) : TameE 100 1 (.bool b) := (tame_bool b).e.mono (by decide) (by decide)
def newsL (g p o t1 t2 : Int) (st : PyData) : List PyData :=
  (([.tuple [.int g, .int o], .tuple [.int g, .int (-1)], .tuple [.int t1, .int p], .tuple [.int g, .int t2], .list [.int g, .int p], .tuple [.int g], st] ++
    [.tuple [.int g, .int o], .tuple [.bool (PyData.eqv (.int g) (.int 1)), .int p], .tuple [.int g, .bool (PyData.eqv (.int p) (.int 1))], .tuple [.int g, .int p, .int 0], .tuple [.int p, .int g]]) ++
    [.tuple [st, .int p], .tuple [.int g, st]])
theorem small_t {ds : List PyData} (h : ∀ d ∈ ds, TameE 100 1 d) (hl : ds.length ≤ 3) : ItE (.tuple ds) := (tameE_tuple h hl).mono (by decide) (by decide)
theorem small_l {ds : List PyData} (h : ∀ d ∈ ds, TameE 100 1 d) (hl : ds.length ≤ 3) : ItE (.list ds) := (tameE_list h hl).mono (by decide) (by decide)
theorem all1 {p : PyData → Prop} {a : PyData} (ha : p a) : ∀ d ∈ [a], p d := fun d hd => by rw [List.mem_singleton.mp hd]; exact ha
theorem all2 {p : PyData → Prop} {a b : PyData} (ha : p a) (hb : p b) : ∀ d ∈ [a, b], p d := fun d hd => by
  simp only [List.mem_cons, List.not_mem_nil, or_false] at hd
  rcases hd with rfl | rfl
  · exact ha
  · exact hb
theorem all3 {p : PyData → Prop} {a b c : PyData} (ha : p a) (hb : p b) (hc : p c) : ∀ d ∈ [a, b, c], p d := fun d hd => by
  simp only [List.mem_cons, List.not_mem_nil, or_false] at hd
  rcases hd with rfl | rfl | rfl
  · exact ha
  · exact hb
  · exact hc
theorem news_ok {g p o t1 t2 : Int} {st : PyData} (hg : -1 ≤ g ∧ g ≤ 100) (hp : -1 ≤ p ∧ p ≤ 100) (ho : -1 ≤ o ∧ o ≤ 100) (h1 : -1 ≤ t1 ∧ t1 ≤ 100) (h2 : -1 ≤ t2 ∧ t2 ≤ 100) (hs : TameE 500 4 st) : ∀ d ∈ newsL g p o t1 t2 st, ItE d := fun d hd => by
  have ig := sE_int hg.1 (show g ≤ 1000001 by omega)
  have ip := sE_int hp.1 (show p ≤ 1000001 by omega)
  have io := sE_int ho.1 (show o ≤ 1000001 by omega)
  have i1 := sE_int h1.1 (show t1 ≤ 1000001 by omega)
  have i2 := sE_int h2.1 (show t2 ≤ 1000001 by omega)
  have im := sE_int (z := -1) (by decide) (by decide)
  have i0 := sE_int (z := 0) (by decide) (by decide)
  have up : ∀ {x : PyData}, TameE 100 1 x → TameE 500 4 x := fun h => h.mono (by decide) (by decide)
  unfold newsL at hd
  simp only [List.cons_append, List.nil_append, List.mem_cons, List.not_mem_nil, or_false] at hd
  rcases hd with rfl | rfl | rfl | rfl | rfl | rfl | rfl | rfl | rfl | rfl | rfl | rfl | rfl | rfl
  · exact small_t (all2 ig io) (by simp)
  · exact small_t (all2 ig im) (by simp)
  · exact small_t (all2 i1 ip) (by simp)
  · exact small_t (all2 ig i2) (by simp)
  · exact small_l (all2 ig ip) (by simp)
  · exact small_t (all1 ig) (by simp)
  · exact hs.mono (by decide) (by decide)
  · exact small_t (all2 ig io) (by simp)
  · exact small_t (all2 (sE_bool _) ip) (by simp)
  · exact small_t (all2 ig (sE_bool _)) (by simp)
  · exact small_t (all3 ig ip i0) (by simp)
  · exact small_t (all2 ip ig) (by simp)
  · exact itE_t (all2 hs (up ip)) (by simp)
  · exact itE_t (all2 (up ig) hs) (by simp)
theorem valE_t {ds : List PyData} (h : ∀ d ∈ ds, ItE d) (hl : ds.length ≤ 70) : TameE 90000 8 (.tuple ds) := (tameE_tuple h hl).mono (by decide) (by decide)
theorem valE_l {ds : List PyData} (h : ∀ d ∈ ds, ItE d) (hl : ds.length ≤ 70) : TameE 90000 8 (.list ds) := (tameE_list h hl).mono (by decide) (by decide)
theorem allApp {p : PyData → Prop} {xs ys : List PyData} (h1 : ∀ d ∈ xs, p d) (h2 : ∀ d ∈ ys, p d) : ∀ d ∈ xs ++ ys, p d := fun d hd => (List.mem_append.mp hd).elim (h1 d) (h2 d)
theorem allCut {p : PyData → Prop} {xs : List PyData} {lo hi : Option Int} (h : ∀ d ∈ xs, p d) : ∀ d ∈ cutG xs lo hi, p d := fun d hd => h d (mem_cut hd)
end DL
set_option maxHeartbeats 0
namespace DL
open PySem PySem.Spec PyProof.Rows L2
/-! ## halls, judged: any value -/
abbrev szD (d : PyData) : Bool := numIn d 1 1000000
def firstG : Nat → List PyData → PyData
  | _, [] => .none
  | k, d :: ds => if szD d = true then firstG (k + 1) ds else .int (k : Nat)
theorem firstG_cons (k : Nat) (d : PyData) (ds : List PyData) : firstG k (d :: ds) = if szD d = true then firstG (k + 1) ds else .int (k : Nat) := rfl
def errPair (p : PyData) : PyData :=
  match p with
  | .tuple ps => if tupB (.tuple ps) 0 20 = true then (match firstG 0 ps with | .none => .none | w => .tuple [w, .str "pair"]) else .tuple [.none, .str "pairs"]
  | _ => .tuple [.none, .str "pairs"]
def errF (f : PyData) (p : PyData) : PyData :=
  match f with
  | .tuple fs => if tupB (.tuple fs) 1 20 = true then (match firstG 0 fs with | .none => errPair p | w => .tuple [w, .str "foot"]) else .tuple [.none, .str "feet"]
  | _ => .tuple [.none, .str "feet"]
theorem errF_feet {f p : PyData} (h : tupB f 1 20 = false) : errF f p = .tuple [.none, .str "feet"] := by
  cases f with
  | tuple fs => show (if tupB (.tuple fs) 1 20 = true then _ else _) = _; rw [h, if_neg Bool.false_ne_true]
  | _ => rfl
theorem errF_foot {fs : List PyData} {p : PyData} {j : Int} (h : tupB (.tuple fs) 1 20 = true) (e : firstG 0 fs = .int j) : errF (.tuple fs) p = .tuple [.int j, .str "foot"] := by
  show (if tupB (.tuple fs) 1 20 = true then (match firstG 0 fs with | .none => errPair p | w => .tuple [w, .str "foot"]) else _) = _
  rw [h, if_pos rfl, e]
theorem errF_go {fs : List PyData} {p : PyData} (h : tupB (.tuple fs) 1 20 = true) (e : firstG 0 fs = .none) : errF (.tuple fs) p = errPair p := by
  show (if tupB (.tuple fs) 1 20 = true then (match firstG 0 fs with | .none => errPair p | w => .tuple [w, .str "foot"]) else _) = _
  rw [h, if_pos rfl, e]
theorem errPair_bad {p : PyData} (h : tupB p 0 20 = false) : errPair p = .tuple [.none, .str "pairs"] := by
  cases p with
  | tuple fs => show (if tupB (.tuple fs) 0 20 = true then _ else _) = _; rw [h, if_neg Bool.false_ne_true]
  | _ => rfl
theorem errPair_pair {ps : List PyData} {j : Int} (h : tupB (.tuple ps) 0 20 = true) (e : firstG 0 ps = .int j) : errPair (.tuple ps) = .tuple [.int j, .str "pair"] := by
  show (if tupB (.tuple ps) 0 20 = true then (match firstG 0 ps with | .none => (PyData.none : PyData) | w => PyData.tuple [w, .str "pair"]) else _) = _
  rw [h, if_pos rfl, e]
theorem errPair_none {ps : List PyData} (h : tupB (.tuple ps) 0 20 = true) (e : firstG 0 ps = .none) : errPair (.tuple ps) = .none := by
  show (if tupB (.tuple ps) 0 20 = true then (match firstG 0 ps with | .none => (PyData.none : PyData) | w => PyData.tuple [w, .str "pair"]) else _) = _
  rw [h, if_pos rfl, e]
def errD (d : PyData) : PyData :=
  match d with
  | .tuple [f, p] => errF f p
  | _ => .tuple [.none, .str "hall"]
/-- either none, or a number below the length -/
theorem firstG_cases : ∀ (ds : List PyData) (k : Nat), (firstG k ds = .none ∧ ds.all szD = true) ∨ ∃ j : Nat, j < ds.length ∧ firstG k ds = .int ((k + j : Nat)) ∧ (∀ i, i < j → ∃ d, ds[i]? = some d ∧ szD d = true) ∧ ∃ d, ds[j]? = some d ∧ szD d = false
  | [], _ => .inl ⟨rfl, rfl⟩
  | d :: ds, k => by
    unfold firstG
    cases h : szD d with
    | true =>
      rw [if_pos rfl]
      rcases firstG_cases ds (k + 1) with ⟨h1, h2⟩ | ⟨j, h1, h2, h3, h4⟩
      · exact .inl ⟨h1, by rw [List.all_cons, h, h2]; rfl⟩
      · refine .inr ⟨j + 1, by rw [List.length_cons]; omega, by rw [h2]; congr 1; omega, fun i hi => ?_, by simpa using h4⟩
        cases i with
        | zero => exact ⟨d, rfl, h⟩
        | succ i => simpa using h3 i (by omega)
    | false =>
      rw [if_neg Bool.false_ne_true]
      exact .inr ⟨0, by simp, rfl, fun i hi => absurd hi (Nat.not_lt_zero _), d, rfl, h⟩
def datI (ds : List PyData) (j : Int) : PyData := (ds[j.toNat]?).getD .none
theorem atI_dat {ds : List PyData} {j : Int} (h0 : 0 ≤ j) (h1 : j < ds.length) : atI ds j = some (datI ds j) := by
  have hj : j.toNat < ds.length := by omega
  unfold atI ixN datI
  rw [if_pos h0, if_pos h1]
  simp [hj]
theorem wrong_first (ds : List PyData) : ((intsN ds.length).filter (fun j => !szD (datI ds j)) = [] ∧ firstG 0 ds = .none) ∨ ∃ j js, (intsN ds.length).filter (fun j => !szD (datI ds j)) = j :: js ∧ firstG 0 ds = .int j := by
  rcases firstG_cases ds 0 with ⟨h1, h2⟩ | ⟨j, h1, h2, h3, d, h4, h5⟩
  · refine .inl ⟨List.filter_eq_nil_iff.mpr fun j hj => ?_, h1⟩
    have hm := mem_intsN hj
    have : szD (datI ds j) = true := by
      refine List.all_eq_true.mp h2 _ ?_
      unfold datI
      rw [List.getElem?_eq_getElem (show j.toNat < ds.length by omega)]
      exact List.getElem_mem _
    rw [this]; decide
  · refine .inr ⟨j, ?_⟩
    have hg : (intsN ds.length)[j]? = some (j : Int) := by
      unfold intsN
      rw [List.getElem?_map, List.getElem?_range h1]; rfl
    have e : intsN ds.length = (intsN ds.length).take j ++ (j : Int) :: (intsN ds.length).drop (j + 1) := by
      conv => lhs; rw [← List.take_append_drop j (intsN ds.length), drop_cons' hg]
    have hz : ((intsN ds.length).take j).filter (fun j => !szD (datI ds j)) = [] := List.filter_eq_nil_iff.mpr fun x hx => by
      obtain ⟨i, hi, hxe⟩ := List.getElem_of_mem hx
      rw [List.length_take] at hi
      have hx2 : x = (i : Int) := by
        rw [← hxe, List.getElem_take]
        unfold intsN
        simp
      obtain ⟨d', q1, q2⟩ := h3 i (by omega)
      have : datI ds x = d' := by
        unfold datI
        rw [hx2, show (i : Int).toNat = i from rfl, q1]; rfl
      rw [this, q2]; decide
    have hd : (!szD (datI ds (j : Int))) = true := by
      have : datI ds (j : Int) = d := by
        unfold datI
        rw [show (j : Int).toNat = j from rfl, h4]; rfl
      rw [this, h5]; rfl
    refine ⟨((intsN ds.length).drop (j + 1)).filter (fun j => !szD (datI ds j)), ?_, by rw [h2]; congr 1; omega⟩
    conv => lhs; rw [e]
    rw [List.filter_append, hz, List.nil_append]
    exact List.filter_cons_of_pos (p := fun j => !szD (datI ds j)) hd
theorem errD_hall {d : PyData} (h2 : tupB d 2 2 = false) : errD d = .tuple [.none, .str "hall"] := by
  unfold errD
  split
  · exact absurd h2 (show ¬ true = false by decide)
  · rfl
/-- what is said of a wrong hall is short -/
theorem firstG_is (ds : List PyData) : firstG 0 ds = .none ∨ ∃ j : Int, firstG 0 ds = .int j ∧ 0 ≤ j ∧ j < ds.length := by
  rcases firstG_cases ds 0 with ⟨h, _⟩ | ⟨j, h1, h2, _⟩
  · exact .inl h
  · exact .inr ⟨_, h2, by omega, by omega⟩
theorem errT_no (s : Str) (h : (PyData.tuple [.none, .str s]).showable = true ∧ (PyData.tuple [.none, .str s]).depth ≤ 2 ∧ (PyData.tuple [.none, .str s]).shown.length ≤ 100) : TameE 100 2 (.tuple [.none, .str s]) := ⟨h.1, h.2.1, h.2.2⟩
theorem errT_at {j : Int} (s : Str) (h0 : 0 ≤ j) (h1 : j ≤ 100) (hs : TameE 20 0 (.str s)) : TameE 200 2 (.tuple [.int j, .str s]) := (tameE_tuple (m := 40) (k := 1) (l := 2) (all2 ((tameE_int (m := 20) (by omega) (by decide) (by decide)).mono (by decide) (by decide)) (hs.mono (by decide) (by decide))) (by simp)).mono (by decide) (by decide)
theorem errD_tame (d : PyData) : TameE 200 2 (errD d) := by
  have n1 : TameE 200 2 (.tuple [.none, .str "hall"]) := ⟨by decide +kernel, by decide +kernel, by decide +kernel⟩
  have n2 : TameE 200 2 (.tuple [.none, .str "feet"]) := ⟨by decide +kernel, by decide +kernel, by decide +kernel⟩
  have n3 : TameE 200 2 (.tuple [.none, .str "pairs"]) := ⟨by decide +kernel, by decide +kernel, by decide +kernel⟩
  have s1 : TameE 20 0 (.str "foot") := ⟨by decide +kernel, by decide +kernel, by decide +kernel⟩
  have s2 : TameE 20 0 (.str "pair") := ⟨by decide +kernel, by decide +kernel, by decide +kernel⟩
  have n0 : TameE 200 2 .none := ⟨by decide +kernel, by decide +kernel, by decide +kernel⟩
  cases h2 : tupB d 2 2 with
  | false => rw [errD_hall h2]; exact n1
  | true =>
    obtain ⟨ds, rfl, hd1, hd2⟩ := tupB_true h2
    obtain ⟨f, p, rfl⟩ := two_of hd1 hd2
    show TameE 200 2 (errF f p)
    cases hf : tupB f 1 20 with
    | false => rw [errF_feet hf]; exact n2
    | true =>
      obtain ⟨fs, rfl, hf1, hf2⟩ := tupB_true hf
      rcases firstG_is fs with e | ⟨j, e, j0, j1⟩
      · rw [errF_go hf e]
        cases hp : tupB p 0 20 with
        | false => rw [errPair_bad hp]; exact n3
        | true =>
          obtain ⟨ps, rfl, hp1, hp2⟩ := tupB_true hp
          rcases firstG_is ps with e | ⟨j, e, j0, j1⟩
          · rw [errPair_none hp e]; exact n0
          · rw [errPair_pair hp e]; exact errT_at _ j0 (by omega) s2
      · rw [errF_foot hf e]; exact errT_at _ j0 (by omega) s1
theorem tup_false {es : List PyData} {a b : Int} (h : ¬ (a ≤ es.length ∧ (es.length : Int) ≤ b)) : tupB (.tuple es) a b = false := by
  refine Bool.eq_false_iff.mpr fun q => ?_
  obtain ⟨ds, e, h1, h2⟩ := tupB_true q
  injection e with e
  subst e
  exact h ⟨h1, h2⟩
theorem tup_true {es : List PyData} {a b : Int} (h1 : a ≤ es.length) (h2 : (es.length : Int) ≤ b) : tupB (.tuple es) a b = true := by
  show (decide (a ≤ (es.length : Int)) && decide ((es.length : Int) ≤ b)) = true
  rw [decide_eq_true h1, decide_eq_true h2]; rfl
theorem num_ok (z : Int) : PyData.strOk (toString z : Str) = true := by
  unfold PyData.strOk
  rw [Array.all_eq_true']
  intro c hc
  have h1 : c ∈ (Str.ofString (toString z)).cps.toList := by simpa using hc
  have h2 : ¬ (c ≠ 45 ∧ (c < 48 ∨ 57 < c)) := fun h => int_text_free' c h z h1
  have h3 : c < 58 := by omega
  have key : ∀ c : Nat, c < 58 → (decide (c < 1114112) && !(decide (55296 ≤ c) && decide (c ≤ 57343))) = true := by decide +kernel
  have := key c h3
  simp at this ⊢
  omega
theorem tameE_num {z : Int} (h : 0 ≤ z ∧ z ≤ 10 ^ 6) : TameE 100 1 (.str (toString z)) :=
  ((tame_str (num_ok z)).e).mono (by
    have : (toString z : Str).length ≤ 7 := PyProof.Rows.toString_length_le h.1 (by decide) (by omega)
    omega) (by decide)
theorem log_num {x : Int} (h : 0 ≤ x ∧ x ≤ 10 ^ 6) : x.natAbs.log2 < 1920 := by
  have h1 : x.natAbs < 2 ^ 20 := by omega
  by_cases h0 : x.natAbs = 0
  · rw [h0]; decide
  · have := (Nat.log2_lt h0).mpr h1
    omega
theorem ptE_t {ds : List PyData} (h : ∀ d ∈ ds, TameE 500 4 d) (hl : ds.length ≤ 50) : TameE 50000 6 (.tuple ds) := (tameE_tuple h hl).mono (by decide) (by decide)
theorem ptE_l {ds : List PyData} (h : ∀ d ∈ ds, TameE 500 4 d) (hl : ds.length ≤ 50) : TameE 50000 6 (.list ds) := (tameE_list h hl).mono (by decide) (by decide)
theorem ptE_m {ds : List PyData} (h : ∀ d ∈ ds, TameE 100 1 d) (hl : ds.length ≤ 450) : TameE 50000 6 (.tuple ds) := (tameE_tuple h hl).mono (by decide) (by decide)
theorem one_t {d : PyData} (h : TameE 100 1 d) : TameE 500 4 (.tuple [d]) := (tameE_tuple (l := 1) (all1 h) (by simp)).mono (by decide) (by decide)
theorem allRep {p : PyData → Prop} {xs : List PyData} {k : Nat} (h : ∀ d ∈ xs, p d) : ∀ d ∈ (List.replicate k xs).flatten, p d := fun d hd => by
  obtain ⟨l, h1, h2⟩ := List.mem_flatten.mp hd
  rw [List.eq_of_mem_replicate h1] at h2
  exact h d h2
theorem len_rep {α : Type} (xs : List α) : ∀ k : Nat, (List.replicate k xs).flatten.length = k * xs.length
  | 0 => by simp
  | k + 1 => by
    rw [List.replicate_succ, List.flatten_cons, List.length_append, len_rep xs k, Nat.succ_mul]
    omega
end DL
set_option maxHeartbeats 0
namespace DL
open PySem PySem.Spec PyProof.Rows L2
/-! ## worlds, told apart -/
theorem isDR_dat {d : PyData} (h : isRefD d = false) : isDR (.dat d) = false := Bool.or_eq_false_iff.mpr ⟨rfl, h⟩
theorem Wo.put_at {w : Wo} {a : Addr} {o : Ob} : (w.put a o).ob a = some o := if_pos rfl
theorem Wo.put_ne {w : Wo} {a b : Addr} {o : Ob} (h : b ≠ a) : (w.put a o).ob b = w.ob b := if_neg h
theorem Wo.put_put {w : Wo} {a : Addr} {o u : Ob} : (w.put a o).put a u = w.put a u := by
  unfold Wo.put
  congr 1
  funext b
  simp only
  split <;> rfl
/-- the same, but for the errors that were handled -/
structure Sim (n n' : Wo) : Prop where
  nn : n'.n = n.n
  ob : n'.ob = n.ob
theorem Sim.rfl' {n : Wo} : Sim n n := ⟨rfl, rfl⟩
theorem Sim.trans {a b c : Wo} (h : Sim a b) (g : Sim b c) : Sim a c := ⟨g.nn.trans h.nn, g.ob.trans h.ob⟩
theorem Sim.caught {n : Wo} {a : Addr} {ex : Ex} {d : Option Addr} : Sim n (caught a ex d n) := ⟨rfl, rfl⟩
theorem caught_at {a : Addr} {ex : Ex} {d : Option Addr} {n : Wo} : (DL.caught a ex d n).xs a = some ⟨.ref ex.C, d, ex.fs⟩ := if_pos rfl
/-- none of a list of classes -/
theorem kitAny_no {K : PySem.W.Frag} {t : Value} : ∀ {cs : List Value}, (∀ c ∈ cs, PySem.W.kitOne K t c = some false) → PySem.W.kitAny K t cs = some false
  | [], _ => rfl
  | c :: cs, h => by
    unfold PySem.W.kitAny
    rw [h c (by simp)]
    exact kitAny_no fun d hd => h d (List.mem_cons_of_mem _ hd)
end DL
set_option maxHeartbeats 0
namespace DL
open PySem PySem.Spec PyProof.Rows L2
def topS (i : Nat) : Stmt := PySem.Challenge.pw_shoeparty_k46_pledges.main.body.getD i (.Pass ⟨0, 0, 0, 0⟩)
structure CA where
  PartyError : Addr
  BadFoot : Addr
  BadSize : Addr
  BadNumber : Addr
  TooFewServed : Addr
  Pledge : Addr
structure Bn (K : PySem.W.Frag) (mg : Str → Option Value) (C : CA) : Prop where
  ValueError : mg "ValueError" = none
  abs : mg "abs" = none
  bool : mg "bool" = none
  int : mg "int" = none
  isinstance : mg "isinstance" = none
  len : mg "len" = none
  list : mg "list" = none
  max : mg "max" = none
  range : mg "range" = none
  repr : mg "repr" = none
  LIMIT : ∃ t, mg "LIMIT" = some (.int (1000) t)
  g_PartyError : mg "PartyError" = some (.ref C.PartyError)
  g_BadFoot : mg "BadFoot" = some (.ref C.BadFoot)
  g_BadSize : mg "BadSize" = some (.ref C.BadSize)
  g_BadNumber : mg "BadNumber" = some (.ref C.BadNumber)
  g_TooFewServed : mg "TooFewServed" = some (.ref C.TooFewServed)
  g_Pledge : mg "Pledge" = some (.ref C.Pledge)
  cg : PySem.W.specialIn K (.builtin "object.__class__") "__get__" = some (some (.builtin "getset_descriptor.__get__"))
  ct : PySem.W.takesIn K (.builtin "object.__class__") = some true
  cl_PartyError : PySem.W.isClsIn K C.PartyError = true
  ty_PartyError : PySem.W.typeIn K (.ref C.PartyError) = some (.type "type")
  k_PartyError : PySem.W.keepIn K (.ref C.PartyError) = true
  hd_PartyError : PySem.W.hasDictIn K C.PartyError = true
  ca_PartyError : PySem.W.findIn K (.ref C.PartyError) "__class__" = some (some (.builtin "object.__class__"))
  mo_PartyError : PySem.W.mroIn K C.PartyError (.type "object") = some true
  sa_PartyError : PySem.W.findIn K (.ref C.PartyError) "__setattr__" = some (some (.builtin "object.__setattr__"))
  s_PartyError_PartyError : PySem.W.subIn K (.ref C.PartyError) (.ref C.PartyError) = some true
  s_PartyError_BadFoot : PySem.W.subIn K (.ref C.PartyError) (.ref C.BadFoot) = some false
  s_PartyError_BadSize : PySem.W.subIn K (.ref C.PartyError) (.ref C.BadSize) = some false
  s_PartyError_BadNumber : PySem.W.subIn K (.ref C.PartyError) (.ref C.BadNumber) = some false
  s_PartyError_TooFewServed : PySem.W.subIn K (.ref C.PartyError) (.ref C.TooFewServed) = some false
  s_PartyError_Pledge : PySem.W.subIn K (.ref C.PartyError) (.ref C.Pledge) = some false
  s_PartyError_ValueError : PySem.W.subIn K (.ref C.PartyError) (.type "ValueError") = some true
  s_PartyError_LookupError : PySem.W.subIn K (.ref C.PartyError) (.type "LookupError") = some false
  s_PartyError_list : PySem.W.subIn K (.ref C.PartyError) (.type "list") = some false
  s_PartyError_tuple : PySem.W.subIn K (.ref C.PartyError) (.type "tuple") = some false
  s_PartyError_int : PySem.W.subIn K (.ref C.PartyError) (.type "int") = some false
  s_PartyError_str : PySem.W.subIn K (.ref C.PartyError) (.type "str") = some false
  s_PartyError_bool : PySem.W.subIn K (.ref C.PartyError) (.type "bool") = some false
  cl_BadFoot : PySem.W.isClsIn K C.BadFoot = true
  ty_BadFoot : PySem.W.typeIn K (.ref C.BadFoot) = some (.type "type")
  k_BadFoot : PySem.W.keepIn K (.ref C.BadFoot) = true
  hd_BadFoot : PySem.W.hasDictIn K C.BadFoot = true
  ca_BadFoot : PySem.W.findIn K (.ref C.BadFoot) "__class__" = some (some (.builtin "object.__class__"))
  mo_BadFoot : PySem.W.mroIn K C.BadFoot (.type "object") = some true
  sa_BadFoot : PySem.W.findIn K (.ref C.BadFoot) "__setattr__" = some (some (.builtin "object.__setattr__"))
  s_BadFoot_PartyError : PySem.W.subIn K (.ref C.BadFoot) (.ref C.PartyError) = some true
  s_BadFoot_BadFoot : PySem.W.subIn K (.ref C.BadFoot) (.ref C.BadFoot) = some true
  s_BadFoot_BadSize : PySem.W.subIn K (.ref C.BadFoot) (.ref C.BadSize) = some false
  s_BadFoot_BadNumber : PySem.W.subIn K (.ref C.BadFoot) (.ref C.BadNumber) = some false
  s_BadFoot_TooFewServed : PySem.W.subIn K (.ref C.BadFoot) (.ref C.TooFewServed) = some false
  s_BadFoot_Pledge : PySem.W.subIn K (.ref C.BadFoot) (.ref C.Pledge) = some false
  s_BadFoot_ValueError : PySem.W.subIn K (.ref C.BadFoot) (.type "ValueError") = some true
  s_BadFoot_LookupError : PySem.W.subIn K (.ref C.BadFoot) (.type "LookupError") = some false
  s_BadFoot_list : PySem.W.subIn K (.ref C.BadFoot) (.type "list") = some false
  s_BadFoot_tuple : PySem.W.subIn K (.ref C.BadFoot) (.type "tuple") = some false
  s_BadFoot_int : PySem.W.subIn K (.ref C.BadFoot) (.type "int") = some false
  s_BadFoot_str : PySem.W.subIn K (.ref C.BadFoot) (.type "str") = some false
  s_BadFoot_bool : PySem.W.subIn K (.ref C.BadFoot) (.type "bool") = some false
  cl_BadSize : PySem.W.isClsIn K C.BadSize = true
  ty_BadSize : PySem.W.typeIn K (.ref C.BadSize) = some (.type "type")
  k_BadSize : PySem.W.keepIn K (.ref C.BadSize) = true
  hd_BadSize : PySem.W.hasDictIn K C.BadSize = true
  ca_BadSize : PySem.W.findIn K (.ref C.BadSize) "__class__" = some (some (.builtin "object.__class__"))
  mo_BadSize : PySem.W.mroIn K C.BadSize (.type "object") = some true
  sa_BadSize : PySem.W.findIn K (.ref C.BadSize) "__setattr__" = some (some (.builtin "object.__setattr__"))
  s_BadSize_PartyError : PySem.W.subIn K (.ref C.BadSize) (.ref C.PartyError) = some true
  s_BadSize_BadFoot : PySem.W.subIn K (.ref C.BadSize) (.ref C.BadFoot) = some false
  s_BadSize_BadSize : PySem.W.subIn K (.ref C.BadSize) (.ref C.BadSize) = some true
  s_BadSize_BadNumber : PySem.W.subIn K (.ref C.BadSize) (.ref C.BadNumber) = some false
  s_BadSize_TooFewServed : PySem.W.subIn K (.ref C.BadSize) (.ref C.TooFewServed) = some false
  s_BadSize_Pledge : PySem.W.subIn K (.ref C.BadSize) (.ref C.Pledge) = some false
  s_BadSize_ValueError : PySem.W.subIn K (.ref C.BadSize) (.type "ValueError") = some true
  s_BadSize_LookupError : PySem.W.subIn K (.ref C.BadSize) (.type "LookupError") = some false
  s_BadSize_list : PySem.W.subIn K (.ref C.BadSize) (.type "list") = some false
  s_BadSize_tuple : PySem.W.subIn K (.ref C.BadSize) (.type "tuple") = some false
  s_BadSize_int : PySem.W.subIn K (.ref C.BadSize) (.type "int") = some false
  s_BadSize_str : PySem.W.subIn K (.ref C.BadSize) (.type "str") = some false
  s_BadSize_bool : PySem.W.subIn K (.ref C.BadSize) (.type "bool") = some false
  cl_BadNumber : PySem.W.isClsIn K C.BadNumber = true
  ty_BadNumber : PySem.W.typeIn K (.ref C.BadNumber) = some (.type "type")
  k_BadNumber : PySem.W.keepIn K (.ref C.BadNumber) = true
  hd_BadNumber : PySem.W.hasDictIn K C.BadNumber = true
  ca_BadNumber : PySem.W.findIn K (.ref C.BadNumber) "__class__" = some (some (.builtin "object.__class__"))
  mo_BadNumber : PySem.W.mroIn K C.BadNumber (.type "object") = some true
  sa_BadNumber : PySem.W.findIn K (.ref C.BadNumber) "__setattr__" = some (some (.builtin "object.__setattr__"))
  s_BadNumber_PartyError : PySem.W.subIn K (.ref C.BadNumber) (.ref C.PartyError) = some true
  s_BadNumber_BadFoot : PySem.W.subIn K (.ref C.BadNumber) (.ref C.BadFoot) = some false
  s_BadNumber_BadSize : PySem.W.subIn K (.ref C.BadNumber) (.ref C.BadSize) = some false
  s_BadNumber_BadNumber : PySem.W.subIn K (.ref C.BadNumber) (.ref C.BadNumber) = some true
  s_BadNumber_TooFewServed : PySem.W.subIn K (.ref C.BadNumber) (.ref C.TooFewServed) = some false
  s_BadNumber_Pledge : PySem.W.subIn K (.ref C.BadNumber) (.ref C.Pledge) = some false
  s_BadNumber_ValueError : PySem.W.subIn K (.ref C.BadNumber) (.type "ValueError") = some true
  s_BadNumber_LookupError : PySem.W.subIn K (.ref C.BadNumber) (.type "LookupError") = some false
  s_BadNumber_list : PySem.W.subIn K (.ref C.BadNumber) (.type "list") = some false
  s_BadNumber_tuple : PySem.W.subIn K (.ref C.BadNumber) (.type "tuple") = some false
  s_BadNumber_int : PySem.W.subIn K (.ref C.BadNumber) (.type "int") = some false
  s_BadNumber_str : PySem.W.subIn K (.ref C.BadNumber) (.type "str") = some false
  s_BadNumber_bool : PySem.W.subIn K (.ref C.BadNumber) (.type "bool") = some false
  cl_TooFewServed : PySem.W.isClsIn K C.TooFewServed = true
  ty_TooFewServed : PySem.W.typeIn K (.ref C.TooFewServed) = some (.type "type")
  k_TooFewServed : PySem.W.keepIn K (.ref C.TooFewServed) = true
  hd_TooFewServed : PySem.W.hasDictIn K C.TooFewServed = true
  ca_TooFewServed : PySem.W.findIn K (.ref C.TooFewServed) "__class__" = some (some (.builtin "object.__class__"))
  mo_TooFewServed : PySem.W.mroIn K C.TooFewServed (.type "object") = some true
  sa_TooFewServed : PySem.W.findIn K (.ref C.TooFewServed) "__setattr__" = some (some (.builtin "object.__setattr__"))
  s_TooFewServed_PartyError : PySem.W.subIn K (.ref C.TooFewServed) (.ref C.PartyError) = some true
  s_TooFewServed_BadFoot : PySem.W.subIn K (.ref C.TooFewServed) (.ref C.BadFoot) = some false
  s_TooFewServed_BadSize : PySem.W.subIn K (.ref C.TooFewServed) (.ref C.BadSize) = some false
  s_TooFewServed_BadNumber : PySem.W.subIn K (.ref C.TooFewServed) (.ref C.BadNumber) = some false
  s_TooFewServed_TooFewServed : PySem.W.subIn K (.ref C.TooFewServed) (.ref C.TooFewServed) = some true
  s_TooFewServed_Pledge : PySem.W.subIn K (.ref C.TooFewServed) (.ref C.Pledge) = some false
  s_TooFewServed_ValueError : PySem.W.subIn K (.ref C.TooFewServed) (.type "ValueError") = some true
  s_TooFewServed_LookupError : PySem.W.subIn K (.ref C.TooFewServed) (.type "LookupError") = some false
  s_TooFewServed_list : PySem.W.subIn K (.ref C.TooFewServed) (.type "list") = some false
  s_TooFewServed_tuple : PySem.W.subIn K (.ref C.TooFewServed) (.type "tuple") = some false
  s_TooFewServed_int : PySem.W.subIn K (.ref C.TooFewServed) (.type "int") = some false
  s_TooFewServed_str : PySem.W.subIn K (.ref C.TooFewServed) (.type "str") = some false
  s_TooFewServed_bool : PySem.W.subIn K (.ref C.TooFewServed) (.type "bool") = some false
  cl_Pledge : PySem.W.isClsIn K C.Pledge = true
  ty_Pledge : PySem.W.typeIn K (.ref C.Pledge) = some (.type "type")
  k_Pledge : PySem.W.keepIn K (.ref C.Pledge) = true
  hd_Pledge : PySem.W.hasDictIn K C.Pledge = true
  ca_Pledge : PySem.W.findIn K (.ref C.Pledge) "__class__" = some (some (.builtin "object.__class__"))
  mo_Pledge : PySem.W.mroIn K C.Pledge (.type "object") = some true
  sa_Pledge : PySem.W.findIn K (.ref C.Pledge) "__setattr__" = some (some (.builtin "object.__setattr__"))
  s_Pledge_PartyError : PySem.W.subIn K (.ref C.Pledge) (.ref C.PartyError) = some false
  s_Pledge_BadFoot : PySem.W.subIn K (.ref C.Pledge) (.ref C.BadFoot) = some false
  s_Pledge_BadSize : PySem.W.subIn K (.ref C.Pledge) (.ref C.BadSize) = some false
  s_Pledge_BadNumber : PySem.W.subIn K (.ref C.Pledge) (.ref C.BadNumber) = some false
  s_Pledge_TooFewServed : PySem.W.subIn K (.ref C.Pledge) (.ref C.TooFewServed) = some false
  s_Pledge_Pledge : PySem.W.subIn K (.ref C.Pledge) (.ref C.Pledge) = some true
  s_Pledge_ValueError : PySem.W.subIn K (.ref C.Pledge) (.type "ValueError") = some false
  s_Pledge_LookupError : PySem.W.subIn K (.ref C.Pledge) (.type "LookupError") = some false
  s_Pledge_list : PySem.W.subIn K (.ref C.Pledge) (.type "list") = some false
  s_Pledge_tuple : PySem.W.subIn K (.ref C.Pledge) (.type "tuple") = some false
  s_Pledge_int : PySem.W.subIn K (.ref C.Pledge) (.type "int") = some false
  s_Pledge_str : PySem.W.subIn K (.ref C.Pledge) (.type "str") = some false
  s_Pledge_bool : PySem.W.subIn K (.ref C.Pledge) (.type "bool") = some false
  q_NoneType_Pledge : PySem.W.subIn K (.type "NoneType") (.ref C.Pledge) = some false
  q_bool_Pledge : PySem.W.subIn K (.type "bool") (.ref C.Pledge) = some false
  q_int_Pledge : PySem.W.subIn K (.type "int") (.ref C.Pledge) = some false
  q_str_Pledge : PySem.W.subIn K (.type "str") (.ref C.Pledge) = some false
  q_list_Pledge : PySem.W.subIn K (.type "list") (.ref C.Pledge) = some false
  q_tuple_Pledge : PySem.W.subIn K (.type "tuple") (.ref C.Pledge) = some false
  q_dict_Pledge : PySem.W.subIn K (.type "dict") (.ref C.Pledge) = some false
  ga_PartyError : PySem.W.findIn K (.ref C.PartyError) "__getattribute__" = some (some (.builtin "BaseException.__getattribute__"))
  gt_PartyError : PySem.W.findIn K (.ref C.PartyError) "__getattr__" = some none
  sb_PartyError : PySem.W.subIn K (.ref C.PartyError) (.type "BaseException") = some true
  ga_BadFoot : PySem.W.findIn K (.ref C.BadFoot) "__getattribute__" = some (some (.builtin "BaseException.__getattribute__"))
  gt_BadFoot : PySem.W.findIn K (.ref C.BadFoot) "__getattr__" = some none
  sb_BadFoot : PySem.W.subIn K (.ref C.BadFoot) (.type "BaseException") = some true
  n_BadFoot : PySem.W.findIn K (.ref C.BadFoot) "value" = some none
  ga_BadSize : PySem.W.findIn K (.ref C.BadSize) "__getattribute__" = some (some (.builtin "BaseException.__getattribute__"))
  gt_BadSize : PySem.W.findIn K (.ref C.BadSize) "__getattr__" = some none
  sb_BadSize : PySem.W.subIn K (.ref C.BadSize) (.type "BaseException") = some true
  n_BadSize : PySem.W.findIn K (.ref C.BadSize) "value" = some none
  ga_BadNumber : PySem.W.findIn K (.ref C.BadNumber) "__getattribute__" = some (some (.builtin "BaseException.__getattribute__"))
  gt_BadNumber : PySem.W.findIn K (.ref C.BadNumber) "__getattr__" = some none
  sb_BadNumber : PySem.W.subIn K (.ref C.BadNumber) (.type "BaseException") = some true
  n_BadNumber : PySem.W.findIn K (.ref C.BadNumber) "value" = some none
  ga_TooFewServed : PySem.W.findIn K (.ref C.TooFewServed) "__getattribute__" = some (some (.builtin "BaseException.__getattribute__"))
  gt_TooFewServed : PySem.W.findIn K (.ref C.TooFewServed) "__getattr__" = some none
  sb_TooFewServed : PySem.W.subIn K (.ref C.TooFewServed) (.type "BaseException") = some true
  n_TooFewServed : PySem.W.findIn K (.ref C.TooFewServed) "number" = some none
  pg_Pledge : PySem.W.plainGet K C.Pledge Str.empty = true
  po_Pledge : PySem.W.plainOver K C.Pledge = true
  mk_Pledge : PySem.W.makesIn K C.Pledge = true
  f_Pledge_pledge : PySem.W.findIn K (.ref C.Pledge) "pledge" = some none
  e0_PartyError : PySem.W.excIn K C.PartyError [.type "ValueError", .type "Exception", .type "BaseException", .type "object"] "ValueError.__new__" = true
section
variable {K : PySem.W.Frag} {mg : Str → Option Value} {C : CA}
theorem Bn.is_PartyError (B : Bn K mg C) : IsC K C.PartyError := ⟨B.cl_PartyError, B.ga_PartyError, B.gt_PartyError, B.sb_PartyError, B.ca_PartyError, B.cg, B.ct, B.mo_PartyError⟩
theorem Bn.x_PartyError (B : Bn K mg C) : XfC K C.PartyError := ⟨B.ga_PartyError, B.gt_PartyError, B.sb_PartyError, B.hd_PartyError⟩
theorem Bn.e_PartyError (B : Bn K mg C) : ErrC0 K mg "PartyError" C.PartyError := ⟨B.g_PartyError, B.k_PartyError, B.e0_PartyError, B.sb_PartyError, B.ty_PartyError⟩
theorem Bn.m_PartyError_PartyError (B : Bn K mg C) : PySem.W.exmOne K (.ref C.PartyError) (.ref C.PartyError) = some true := PySem.W.exm_ref B.sb_PartyError B.hd_PartyError B.ty_PartyError B.s_PartyError_PartyError
theorem Bn.m_BadFoot_PartyError (B : Bn K mg C) : PySem.W.exmOne K (.ref C.BadFoot) (.ref C.PartyError) = some true := PySem.W.exm_ref B.sb_PartyError B.hd_PartyError B.ty_PartyError B.s_BadFoot_PartyError
theorem Bn.m_BadSize_PartyError (B : Bn K mg C) : PySem.W.exmOne K (.ref C.BadSize) (.ref C.PartyError) = some true := PySem.W.exm_ref B.sb_PartyError B.hd_PartyError B.ty_PartyError B.s_BadSize_PartyError
theorem Bn.m_BadNumber_PartyError (B : Bn K mg C) : PySem.W.exmOne K (.ref C.BadNumber) (.ref C.PartyError) = some true := PySem.W.exm_ref B.sb_PartyError B.hd_PartyError B.ty_PartyError B.s_BadNumber_PartyError
theorem Bn.m_TooFewServed_PartyError (B : Bn K mg C) : PySem.W.exmOne K (.ref C.TooFewServed) (.ref C.PartyError) = some true := PySem.W.exm_ref B.sb_PartyError B.hd_PartyError B.ty_PartyError B.s_TooFewServed_PartyError
theorem Bn.is_BadFoot (B : Bn K mg C) : IsC K C.BadFoot := ⟨B.cl_BadFoot, B.ga_BadFoot, B.gt_BadFoot, B.sb_BadFoot, B.ca_BadFoot, B.cg, B.ct, B.mo_BadFoot⟩
theorem Bn.x_BadFoot (B : Bn K mg C) : XfC K C.BadFoot := ⟨B.ga_BadFoot, B.gt_BadFoot, B.sb_BadFoot, B.hd_BadFoot⟩
theorem Bn.xf_BadFoot (B : Bn K mg C) : XfC K C.BadFoot ∧ PySem.W.findIn K (.ref C.BadFoot) "value" = some none := ⟨B.x_BadFoot, B.n_BadFoot⟩
theorem Bn.m_PartyError_BadFoot (B : Bn K mg C) : PySem.W.exmOne K (.ref C.PartyError) (.ref C.BadFoot) = some false := PySem.W.exm_ref B.sb_BadFoot B.hd_BadFoot B.ty_BadFoot B.s_PartyError_BadFoot
theorem Bn.m_BadFoot_BadFoot (B : Bn K mg C) : PySem.W.exmOne K (.ref C.BadFoot) (.ref C.BadFoot) = some true := PySem.W.exm_ref B.sb_BadFoot B.hd_BadFoot B.ty_BadFoot B.s_BadFoot_BadFoot
theorem Bn.m_BadSize_BadFoot (B : Bn K mg C) : PySem.W.exmOne K (.ref C.BadSize) (.ref C.BadFoot) = some false := PySem.W.exm_ref B.sb_BadFoot B.hd_BadFoot B.ty_BadFoot B.s_BadSize_BadFoot
theorem Bn.m_BadNumber_BadFoot (B : Bn K mg C) : PySem.W.exmOne K (.ref C.BadNumber) (.ref C.BadFoot) = some false := PySem.W.exm_ref B.sb_BadFoot B.hd_BadFoot B.ty_BadFoot B.s_BadNumber_BadFoot
theorem Bn.m_TooFewServed_BadFoot (B : Bn K mg C) : PySem.W.exmOne K (.ref C.TooFewServed) (.ref C.BadFoot) = some false := PySem.W.exm_ref B.sb_BadFoot B.hd_BadFoot B.ty_BadFoot B.s_TooFewServed_BadFoot
theorem Bn.is_BadSize (B : Bn K mg C) : IsC K C.BadSize := ⟨B.cl_BadSize, B.ga_BadSize, B.gt_BadSize, B.sb_BadSize, B.ca_BadSize, B.cg, B.ct, B.mo_BadSize⟩
theorem Bn.x_BadSize (B : Bn K mg C) : XfC K C.BadSize := ⟨B.ga_BadSize, B.gt_BadSize, B.sb_BadSize, B.hd_BadSize⟩
theorem Bn.xf_BadSize (B : Bn K mg C) : XfC K C.BadSize ∧ PySem.W.findIn K (.ref C.BadSize) "value" = some none := ⟨B.x_BadSize, B.n_BadSize⟩
theorem Bn.m_PartyError_BadSize (B : Bn K mg C) : PySem.W.exmOne K (.ref C.PartyError) (.ref C.BadSize) = some false := PySem.W.exm_ref B.sb_BadSize B.hd_BadSize B.ty_BadSize B.s_PartyError_BadSize
theorem Bn.m_BadFoot_BadSize (B : Bn K mg C) : PySem.W.exmOne K (.ref C.BadFoot) (.ref C.BadSize) = some false := PySem.W.exm_ref B.sb_BadSize B.hd_BadSize B.ty_BadSize B.s_BadFoot_BadSize
theorem Bn.m_BadSize_BadSize (B : Bn K mg C) : PySem.W.exmOne K (.ref C.BadSize) (.ref C.BadSize) = some true := PySem.W.exm_ref B.sb_BadSize B.hd_BadSize B.ty_BadSize B.s_BadSize_BadSize
theorem Bn.m_BadNumber_BadSize (B : Bn K mg C) : PySem.W.exmOne K (.ref C.BadNumber) (.ref C.BadSize) = some false := PySem.W.exm_ref B.sb_BadSize B.hd_BadSize B.ty_BadSize B.s_BadNumber_BadSize
theorem Bn.m_TooFewServed_BadSize (B : Bn K mg C) : PySem.W.exmOne K (.ref C.TooFewServed) (.ref C.BadSize) = some false := PySem.W.exm_ref B.sb_BadSize B.hd_BadSize B.ty_BadSize B.s_TooFewServed_BadSize
theorem Bn.is_BadNumber (B : Bn K mg C) : IsC K C.BadNumber := ⟨B.cl_BadNumber, B.ga_BadNumber, B.gt_BadNumber, B.sb_BadNumber, B.ca_BadNumber, B.cg, B.ct, B.mo_BadNumber⟩
theorem Bn.x_BadNumber (B : Bn K mg C) : XfC K C.BadNumber := ⟨B.ga_BadNumber, B.gt_BadNumber, B.sb_BadNumber, B.hd_BadNumber⟩
theorem Bn.xf_BadNumber (B : Bn K mg C) : XfC K C.BadNumber ∧ PySem.W.findIn K (.ref C.BadNumber) "value" = some none := ⟨B.x_BadNumber, B.n_BadNumber⟩
theorem Bn.m_PartyError_BadNumber (B : Bn K mg C) : PySem.W.exmOne K (.ref C.PartyError) (.ref C.BadNumber) = some false := PySem.W.exm_ref B.sb_BadNumber B.hd_BadNumber B.ty_BadNumber B.s_PartyError_BadNumber
theorem Bn.m_BadFoot_BadNumber (B : Bn K mg C) : PySem.W.exmOne K (.ref C.BadFoot) (.ref C.BadNumber) = some false := PySem.W.exm_ref B.sb_BadNumber B.hd_BadNumber B.ty_BadNumber B.s_BadFoot_BadNumber
theorem Bn.m_BadSize_BadNumber (B : Bn K mg C) : PySem.W.exmOne K (.ref C.BadSize) (.ref C.BadNumber) = some false := PySem.W.exm_ref B.sb_BadNumber B.hd_BadNumber B.ty_BadNumber B.s_BadSize_BadNumber
theorem Bn.m_BadNumber_BadNumber (B : Bn K mg C) : PySem.W.exmOne K (.ref C.BadNumber) (.ref C.BadNumber) = some true := PySem.W.exm_ref B.sb_BadNumber B.hd_BadNumber B.ty_BadNumber B.s_BadNumber_BadNumber
theorem Bn.m_TooFewServed_BadNumber (B : Bn K mg C) : PySem.W.exmOne K (.ref C.TooFewServed) (.ref C.BadNumber) = some false := PySem.W.exm_ref B.sb_BadNumber B.hd_BadNumber B.ty_BadNumber B.s_TooFewServed_BadNumber
theorem Bn.is_TooFewServed (B : Bn K mg C) : IsC K C.TooFewServed := ⟨B.cl_TooFewServed, B.ga_TooFewServed, B.gt_TooFewServed, B.sb_TooFewServed, B.ca_TooFewServed, B.cg, B.ct, B.mo_TooFewServed⟩
theorem Bn.x_TooFewServed (B : Bn K mg C) : XfC K C.TooFewServed := ⟨B.ga_TooFewServed, B.gt_TooFewServed, B.sb_TooFewServed, B.hd_TooFewServed⟩
theorem Bn.xf_TooFewServed (B : Bn K mg C) : XfC K C.TooFewServed ∧ PySem.W.findIn K (.ref C.TooFewServed) "number" = some none := ⟨B.x_TooFewServed, B.n_TooFewServed⟩
theorem Bn.m_PartyError_TooFewServed (B : Bn K mg C) : PySem.W.exmOne K (.ref C.PartyError) (.ref C.TooFewServed) = some false := PySem.W.exm_ref B.sb_TooFewServed B.hd_TooFewServed B.ty_TooFewServed B.s_PartyError_TooFewServed
theorem Bn.m_BadFoot_TooFewServed (B : Bn K mg C) : PySem.W.exmOne K (.ref C.BadFoot) (.ref C.TooFewServed) = some false := PySem.W.exm_ref B.sb_TooFewServed B.hd_TooFewServed B.ty_TooFewServed B.s_BadFoot_TooFewServed
theorem Bn.m_BadSize_TooFewServed (B : Bn K mg C) : PySem.W.exmOne K (.ref C.BadSize) (.ref C.TooFewServed) = some false := PySem.W.exm_ref B.sb_TooFewServed B.hd_TooFewServed B.ty_TooFewServed B.s_BadSize_TooFewServed
theorem Bn.m_BadNumber_TooFewServed (B : Bn K mg C) : PySem.W.exmOne K (.ref C.BadNumber) (.ref C.TooFewServed) = some false := PySem.W.exm_ref B.sb_TooFewServed B.hd_TooFewServed B.ty_TooFewServed B.s_BadNumber_TooFewServed
theorem Bn.m_TooFewServed_TooFewServed (B : Bn K mg C) : PySem.W.exmOne K (.ref C.TooFewServed) (.ref C.TooFewServed) = some true := PySem.W.exm_ref B.sb_TooFewServed B.hd_TooFewServed B.ty_TooFewServed B.s_TooFewServed_TooFewServed
theorem Bn.c_Pledge (B : Bn K mg C) : Cls K C.Pledge := ⟨B.pg_Pledge, B.hd_Pledge, B.po_Pledge, B.sa_Pledge⟩
theorem Bn.i_Pledge (B : Bn K mg C) : InsC K C.Pledge := ⟨B.c_Pledge, B.ca_Pledge, B.cg, B.ct, B.mo_Pledge⟩
theorem Bn.fl_Pledge_pledge (B : Bn K mg C) : FldC K C.Pledge "pledge" := ⟨B.c_Pledge, B.f_Pledge_pledge⟩
theorem Bn.t_NoneType_Pledge (B : Bn K mg C) : PySem.W.kitOne K (.type "NoneType") (.ref C.Pledge) = some false := kit_tyr B.cl_Pledge B.ty_Pledge B.q_NoneType_Pledge
theorem Bn.t_bool_Pledge (B : Bn K mg C) : PySem.W.kitOne K (.type "bool") (.ref C.Pledge) = some false := kit_tyr B.cl_Pledge B.ty_Pledge B.q_bool_Pledge
theorem Bn.t_int_Pledge (B : Bn K mg C) : PySem.W.kitOne K (.type "int") (.ref C.Pledge) = some false := kit_tyr B.cl_Pledge B.ty_Pledge B.q_int_Pledge
theorem Bn.t_str_Pledge (B : Bn K mg C) : PySem.W.kitOne K (.type "str") (.ref C.Pledge) = some false := kit_tyr B.cl_Pledge B.ty_Pledge B.q_str_Pledge
theorem Bn.t_list_Pledge (B : Bn K mg C) : PySem.W.kitOne K (.type "list") (.ref C.Pledge) = some false := kit_tyr B.cl_Pledge B.ty_Pledge B.q_list_Pledge
theorem Bn.t_tuple_Pledge (B : Bn K mg C) : PySem.W.kitOne K (.type "tuple") (.ref C.Pledge) = some false := kit_tyr B.cl_Pledge B.ty_Pledge B.q_tuple_Pledge
theorem Bn.t_dict_Pledge (B : Bn K mg C) : PySem.W.kitOne K (.type "dict") (.ref C.Pledge) = some false := kit_tyr B.cl_Pledge B.ty_Pledge B.q_dict_Pledge
theorem Bn.k_PartyError_PartyError (B : Bn K mg C) : PySem.W.kitOne K (.ref C.PartyError) (.ref C.PartyError) = some true := kit_own B.cl_PartyError B.ty_PartyError B.s_PartyError_PartyError B.s_PartyError_PartyError
theorem Bn.k_PartyError_BadFoot (B : Bn K mg C) : PySem.W.kitOne K (.ref C.PartyError) (.ref C.BadFoot) = some false := kit_own B.cl_BadFoot B.ty_BadFoot B.s_BadFoot_BadFoot B.s_PartyError_BadFoot
theorem Bn.k_PartyError_BadSize (B : Bn K mg C) : PySem.W.kitOne K (.ref C.PartyError) (.ref C.BadSize) = some false := kit_own B.cl_BadSize B.ty_BadSize B.s_BadSize_BadSize B.s_PartyError_BadSize
theorem Bn.k_PartyError_BadNumber (B : Bn K mg C) : PySem.W.kitOne K (.ref C.PartyError) (.ref C.BadNumber) = some false := kit_own B.cl_BadNumber B.ty_BadNumber B.s_BadNumber_BadNumber B.s_PartyError_BadNumber
theorem Bn.k_PartyError_TooFewServed (B : Bn K mg C) : PySem.W.kitOne K (.ref C.PartyError) (.ref C.TooFewServed) = some false := kit_own B.cl_TooFewServed B.ty_TooFewServed B.s_TooFewServed_TooFewServed B.s_PartyError_TooFewServed
theorem Bn.k_PartyError_Pledge (B : Bn K mg C) : PySem.W.kitOne K (.ref C.PartyError) (.ref C.Pledge) = some false := kit_own B.cl_Pledge B.ty_Pledge B.s_Pledge_Pledge B.s_PartyError_Pledge
theorem Bn.k_PartyError_ValueError (B : Bn K mg C) : PySem.W.kitOne K (.ref C.PartyError) (.type "ValueError") = some true := kit_oty (by decide +kernel) B.s_PartyError_ValueError
theorem Bn.k_PartyError_LookupError (B : Bn K mg C) : PySem.W.kitOne K (.ref C.PartyError) (.type "LookupError") = some false := kit_oty (by decide +kernel) B.s_PartyError_LookupError
theorem Bn.k_PartyError_list (B : Bn K mg C) : PySem.W.kitOne K (.ref C.PartyError) (.type "list") = some false := kit_oty (by decide +kernel) B.s_PartyError_list
theorem Bn.k_PartyError_tuple (B : Bn K mg C) : PySem.W.kitOne K (.ref C.PartyError) (.type "tuple") = some false := kit_oty (by decide +kernel) B.s_PartyError_tuple
theorem Bn.k_PartyError_int (B : Bn K mg C) : PySem.W.kitOne K (.ref C.PartyError) (.type "int") = some false := kit_oty (by decide +kernel) B.s_PartyError_int
theorem Bn.k_PartyError_str (B : Bn K mg C) : PySem.W.kitOne K (.ref C.PartyError) (.type "str") = some false := kit_oty (by decide +kernel) B.s_PartyError_str
theorem Bn.k_PartyError_bool (B : Bn K mg C) : PySem.W.kitOne K (.ref C.PartyError) (.type "bool") = some false := kit_oty (by decide +kernel) B.s_PartyError_bool
theorem Bn.k_BadFoot_PartyError (B : Bn K mg C) : PySem.W.kitOne K (.ref C.BadFoot) (.ref C.PartyError) = some true := kit_own B.cl_PartyError B.ty_PartyError B.s_PartyError_PartyError B.s_BadFoot_PartyError
theorem Bn.k_BadFoot_BadFoot (B : Bn K mg C) : PySem.W.kitOne K (.ref C.BadFoot) (.ref C.BadFoot) = some true := kit_own B.cl_BadFoot B.ty_BadFoot B.s_BadFoot_BadFoot B.s_BadFoot_BadFoot
theorem Bn.k_BadFoot_BadSize (B : Bn K mg C) : PySem.W.kitOne K (.ref C.BadFoot) (.ref C.BadSize) = some false := kit_own B.cl_BadSize B.ty_BadSize B.s_BadSize_BadSize B.s_BadFoot_BadSize
theorem Bn.k_BadFoot_BadNumber (B : Bn K mg C) : PySem.W.kitOne K (.ref C.BadFoot) (.ref C.BadNumber) = some false := kit_own B.cl_BadNumber B.ty_BadNumber B.s_BadNumber_BadNumber B.s_BadFoot_BadNumber
theorem Bn.k_BadFoot_TooFewServed (B : Bn K mg C) : PySem.W.kitOne K (.ref C.BadFoot) (.ref C.TooFewServed) = some false := kit_own B.cl_TooFewServed B.ty_TooFewServed B.s_TooFewServed_TooFewServed B.s_BadFoot_TooFewServed
theorem Bn.k_BadFoot_Pledge (B : Bn K mg C) : PySem.W.kitOne K (.ref C.BadFoot) (.ref C.Pledge) = some false := kit_own B.cl_Pledge B.ty_Pledge B.s_Pledge_Pledge B.s_BadFoot_Pledge
theorem Bn.k_BadFoot_ValueError (B : Bn K mg C) : PySem.W.kitOne K (.ref C.BadFoot) (.type "ValueError") = some true := kit_oty (by decide +kernel) B.s_BadFoot_ValueError
theorem Bn.k_BadFoot_LookupError (B : Bn K mg C) : PySem.W.kitOne K (.ref C.BadFoot) (.type "LookupError") = some false := kit_oty (by decide +kernel) B.s_BadFoot_LookupError
theorem Bn.k_BadFoot_list (B : Bn K mg C) : PySem.W.kitOne K (.ref C.BadFoot) (.type "list") = some false := kit_oty (by decide +kernel) B.s_BadFoot_list
theorem Bn.k_BadFoot_tuple (B : Bn K mg C) : PySem.W.kitOne K (.ref C.BadFoot) (.type "tuple") = some false := kit_oty (by decide +kernel) B.s_BadFoot_tuple
theorem Bn.k_BadFoot_int (B : Bn K mg C) : PySem.W.kitOne K (.ref C.BadFoot) (.type "int") = some false := kit_oty (by decide +kernel) B.s_BadFoot_int
theorem Bn.k_BadFoot_str (B : Bn K mg C) : PySem.W.kitOne K (.ref C.BadFoot) (.type "str") = some false := kit_oty (by decide +kernel) B.s_BadFoot_str
theorem Bn.k_BadFoot_bool (B : Bn K mg C) : PySem.W.kitOne K (.ref C.BadFoot) (.type "bool") = some false := kit_oty (by decide +kernel) B.s_BadFoot_bool
theorem Bn.k_BadSize_PartyError (B : Bn K mg C) : PySem.W.kitOne K (.ref C.BadSize) (.ref C.PartyError) = some true := kit_own B.cl_PartyError B.ty_PartyError B.s_PartyError_PartyError B.s_BadSize_PartyError
theorem Bn.k_BadSize_BadFoot (B : Bn K mg C) : PySem.W.kitOne K (.ref C.BadSize) (.ref C.BadFoot) = some false := kit_own B.cl_BadFoot B.ty_BadFoot B.s_BadFoot_BadFoot B.s_BadSize_BadFoot
theorem Bn.k_BadSize_BadSize (B : Bn K mg C) : PySem.W.kitOne K (.ref C.BadSize) (.ref C.BadSize) = some true := kit_own B.cl_BadSize B.ty_BadSize B.s_BadSize_BadSize B.s_BadSize_BadSize
theorem Bn.k_BadSize_BadNumber (B : Bn K mg C) : PySem.W.kitOne K (.ref C.BadSize) (.ref C.BadNumber) = some false := kit_own B.cl_BadNumber B.ty_BadNumber B.s_BadNumber_BadNumber B.s_BadSize_BadNumber
theorem Bn.k_BadSize_TooFewServed (B : Bn K mg C) : PySem.W.kitOne K (.ref C.BadSize) (.ref C.TooFewServed) = some false := kit_own B.cl_TooFewServed B.ty_TooFewServed B.s_TooFewServed_TooFewServed B.s_BadSize_TooFewServed
theorem Bn.k_BadSize_Pledge (B : Bn K mg C) : PySem.W.kitOne K (.ref C.BadSize) (.ref C.Pledge) = some false := kit_own B.cl_Pledge B.ty_Pledge B.s_Pledge_Pledge B.s_BadSize_Pledge
theorem Bn.k_BadSize_ValueError (B : Bn K mg C) : PySem.W.kitOne K (.ref C.BadSize) (.type "ValueError") = some true := kit_oty (by decide +kernel) B.s_BadSize_ValueError
theorem Bn.k_BadSize_LookupError (B : Bn K mg C) : PySem.W.kitOne K (.ref C.BadSize) (.type "LookupError") = some false := kit_oty (by decide +kernel) B.s_BadSize_LookupError
theorem Bn.k_BadSize_list (B : Bn K mg C) : PySem.W.kitOne K (.ref C.BadSize) (.type "list") = some false := kit_oty (by decide +kernel) B.s_BadSize_list
theorem Bn.k_BadSize_tuple (B : Bn K mg C) : PySem.W.kitOne K (.ref C.BadSize) (.type "tuple") = some false := kit_oty (by decide +kernel) B.s_BadSize_tuple
theorem Bn.k_BadSize_int (B : Bn K mg C) : PySem.W.kitOne K (.ref C.BadSize) (.type "int") = some false := kit_oty (by decide +kernel) B.s_BadSize_int
theorem Bn.k_BadSize_str (B : Bn K mg C) : PySem.W.kitOne K (.ref C.BadSize) (.type "str") = some false := kit_oty (by decide +kernel) B.s_BadSize_str
theorem Bn.k_BadSize_bool (B : Bn K mg C) : PySem.W.kitOne K (.ref C.BadSize) (.type "bool") = some false := kit_oty (by decide +kernel) B.s_BadSize_bool
theorem Bn.k_BadNumber_PartyError (B : Bn K mg C) : PySem.W.kitOne K (.ref C.BadNumber) (.ref C.PartyError) = some true := kit_own B.cl_PartyError B.ty_PartyError B.s_PartyError_PartyError B.s_BadNumber_PartyError
theorem Bn.k_BadNumber_BadFoot (B : Bn K mg C) : PySem.W.kitOne K (.ref C.BadNumber) (.ref C.BadFoot) = some false := kit_own B.cl_BadFoot B.ty_BadFoot B.s_BadFoot_BadFoot B.s_BadNumber_BadFoot
theorem Bn.k_BadNumber_BadSize (B : Bn K mg C) : PySem.W.kitOne K (.ref C.BadNumber) (.ref C.BadSize) = some false := kit_own B.cl_BadSize B.ty_BadSize B.s_BadSize_BadSize B.s_BadNumber_BadSize
theorem Bn.k_BadNumber_BadNumber (B : Bn K mg C) : PySem.W.kitOne K (.ref C.BadNumber) (.ref C.BadNumber) = some true := kit_own B.cl_BadNumber B.ty_BadNumber B.s_BadNumber_BadNumber B.s_BadNumber_BadNumber
theorem Bn.k_BadNumber_TooFewServed (B : Bn K mg C) : PySem.W.kitOne K (.ref C.BadNumber) (.ref C.TooFewServed) = some false := kit_own B.cl_TooFewServed B.ty_TooFewServed B.s_TooFewServed_TooFewServed B.s_BadNumber_TooFewServed
theorem Bn.k_BadNumber_Pledge (B : Bn K mg C) : PySem.W.kitOne K (.ref C.BadNumber) (.ref C.Pledge) = some false := kit_own B.cl_Pledge B.ty_Pledge B.s_Pledge_Pledge B.s_BadNumber_Pledge
theorem Bn.k_BadNumber_ValueError (B : Bn K mg C) : PySem.W.kitOne K (.ref C.BadNumber) (.type "ValueError") = some true := kit_oty (by decide +kernel) B.s_BadNumber_ValueError
theorem Bn.k_BadNumber_LookupError (B : Bn K mg C) : PySem.W.kitOne K (.ref C.BadNumber) (.type "LookupError") = some false := kit_oty (by decide +kernel) B.s_BadNumber_LookupError
theorem Bn.k_BadNumber_list (B : Bn K mg C) : PySem.W.kitOne K (.ref C.BadNumber) (.type "list") = some false := kit_oty (by decide +kernel) B.s_BadNumber_list
theorem Bn.k_BadNumber_tuple (B : Bn K mg C) : PySem.W.kitOne K (.ref C.BadNumber) (.type "tuple") = some false := kit_oty (by decide +kernel) B.s_BadNumber_tuple
theorem Bn.k_BadNumber_int (B : Bn K mg C) : PySem.W.kitOne K (.ref C.BadNumber) (.type "int") = some false := kit_oty (by decide +kernel) B.s_BadNumber_int
theorem Bn.k_BadNumber_str (B : Bn K mg C) : PySem.W.kitOne K (.ref C.BadNumber) (.type "str") = some false := kit_oty (by decide +kernel) B.s_BadNumber_str
theorem Bn.k_BadNumber_bool (B : Bn K mg C) : PySem.W.kitOne K (.ref C.BadNumber) (.type "bool") = some false := kit_oty (by decide +kernel) B.s_BadNumber_bool
theorem Bn.k_TooFewServed_PartyError (B : Bn K mg C) : PySem.W.kitOne K (.ref C.TooFewServed) (.ref C.PartyError) = some true := kit_own B.cl_PartyError B.ty_PartyError B.s_PartyError_PartyError B.s_TooFewServed_PartyError
theorem Bn.k_TooFewServed_BadFoot (B : Bn K mg C) : PySem.W.kitOne K (.ref C.TooFewServed) (.ref C.BadFoot) = some false := kit_own B.cl_BadFoot B.ty_BadFoot B.s_BadFoot_BadFoot B.s_TooFewServed_BadFoot
theorem Bn.k_TooFewServed_BadSize (B : Bn K mg C) : PySem.W.kitOne K (.ref C.TooFewServed) (.ref C.BadSize) = some false := kit_own B.cl_BadSize B.ty_BadSize B.s_BadSize_BadSize B.s_TooFewServed_BadSize
theorem Bn.k_TooFewServed_BadNumber (B : Bn K mg C) : PySem.W.kitOne K (.ref C.TooFewServed) (.ref C.BadNumber) = some false := kit_own B.cl_BadNumber B.ty_BadNumber B.s_BadNumber_BadNumber B.s_TooFewServed_BadNumber
theorem Bn.k_TooFewServed_TooFewServed (B : Bn K mg C) : PySem.W.kitOne K (.ref C.TooFewServed) (.ref C.TooFewServed) = some true := kit_own B.cl_TooFewServed B.ty_TooFewServed B.s_TooFewServed_TooFewServed B.s_TooFewServed_TooFewServed
theorem Bn.k_TooFewServed_Pledge (B : Bn K mg C) : PySem.W.kitOne K (.ref C.TooFewServed) (.ref C.Pledge) = some false := kit_own B.cl_Pledge B.ty_Pledge B.s_Pledge_Pledge B.s_TooFewServed_Pledge
theorem Bn.k_TooFewServed_ValueError (B : Bn K mg C) : PySem.W.kitOne K (.ref C.TooFewServed) (.type "ValueError") = some true := kit_oty (by decide +kernel) B.s_TooFewServed_ValueError
theorem Bn.k_TooFewServed_LookupError (B : Bn K mg C) : PySem.W.kitOne K (.ref C.TooFewServed) (.type "LookupError") = some false := kit_oty (by decide +kernel) B.s_TooFewServed_LookupError
theorem Bn.k_TooFewServed_list (B : Bn K mg C) : PySem.W.kitOne K (.ref C.TooFewServed) (.type "list") = some false := kit_oty (by decide +kernel) B.s_TooFewServed_list
theorem Bn.k_TooFewServed_tuple (B : Bn K mg C) : PySem.W.kitOne K (.ref C.TooFewServed) (.type "tuple") = some false := kit_oty (by decide +kernel) B.s_TooFewServed_tuple
theorem Bn.k_TooFewServed_int (B : Bn K mg C) : PySem.W.kitOne K (.ref C.TooFewServed) (.type "int") = some false := kit_oty (by decide +kernel) B.s_TooFewServed_int
theorem Bn.k_TooFewServed_str (B : Bn K mg C) : PySem.W.kitOne K (.ref C.TooFewServed) (.type "str") = some false := kit_oty (by decide +kernel) B.s_TooFewServed_str
theorem Bn.k_TooFewServed_bool (B : Bn K mg C) : PySem.W.kitOne K (.ref C.TooFewServed) (.type "bool") = some false := kit_oty (by decide +kernel) B.s_TooFewServed_bool
theorem Bn.k_Pledge_PartyError (B : Bn K mg C) : PySem.W.kitOne K (.ref C.Pledge) (.ref C.PartyError) = some false := kit_own B.cl_PartyError B.ty_PartyError B.s_PartyError_PartyError B.s_Pledge_PartyError
theorem Bn.k_Pledge_BadFoot (B : Bn K mg C) : PySem.W.kitOne K (.ref C.Pledge) (.ref C.BadFoot) = some false := kit_own B.cl_BadFoot B.ty_BadFoot B.s_BadFoot_BadFoot B.s_Pledge_BadFoot
theorem Bn.k_Pledge_BadSize (B : Bn K mg C) : PySem.W.kitOne K (.ref C.Pledge) (.ref C.BadSize) = some false := kit_own B.cl_BadSize B.ty_BadSize B.s_BadSize_BadSize B.s_Pledge_BadSize
theorem Bn.k_Pledge_BadNumber (B : Bn K mg C) : PySem.W.kitOne K (.ref C.Pledge) (.ref C.BadNumber) = some false := kit_own B.cl_BadNumber B.ty_BadNumber B.s_BadNumber_BadNumber B.s_Pledge_BadNumber
theorem Bn.k_Pledge_TooFewServed (B : Bn K mg C) : PySem.W.kitOne K (.ref C.Pledge) (.ref C.TooFewServed) = some false := kit_own B.cl_TooFewServed B.ty_TooFewServed B.s_TooFewServed_TooFewServed B.s_Pledge_TooFewServed
theorem Bn.k_Pledge_Pledge (B : Bn K mg C) : PySem.W.kitOne K (.ref C.Pledge) (.ref C.Pledge) = some true := kit_own B.cl_Pledge B.ty_Pledge B.s_Pledge_Pledge B.s_Pledge_Pledge
theorem Bn.k_Pledge_ValueError (B : Bn K mg C) : PySem.W.kitOne K (.ref C.Pledge) (.type "ValueError") = some false := kit_oty (by decide +kernel) B.s_Pledge_ValueError
theorem Bn.k_Pledge_LookupError (B : Bn K mg C) : PySem.W.kitOne K (.ref C.Pledge) (.type "LookupError") = some false := kit_oty (by decide +kernel) B.s_Pledge_LookupError
theorem Bn.k_Pledge_list (B : Bn K mg C) : PySem.W.kitOne K (.ref C.Pledge) (.type "list") = some false := kit_oty (by decide +kernel) B.s_Pledge_list
theorem Bn.k_Pledge_tuple (B : Bn K mg C) : PySem.W.kitOne K (.ref C.Pledge) (.type "tuple") = some false := kit_oty (by decide +kernel) B.s_Pledge_tuple
theorem Bn.k_Pledge_int (B : Bn K mg C) : PySem.W.kitOne K (.ref C.Pledge) (.type "int") = some false := kit_oty (by decide +kernel) B.s_Pledge_int
theorem Bn.k_Pledge_str (B : Bn K mg C) : PySem.W.kitOne K (.ref C.Pledge) (.type "str") = some false := kit_oty (by decide +kernel) B.s_Pledge_str
theorem Bn.k_Pledge_bool (B : Bn K mg C) : PySem.W.kitOne K (.ref C.Pledge) (.type "bool") = some false := kit_oty (by decide +kernel) B.s_Pledge_bool
end
section
variable {P : Program} {w : World} {K : PySem.W.Frag} {mg : Str → Option Value} {base : Heap} {C : CA}
abbrev s__law_deck : Stmt := topS 13
abbrev s__law_draw : Stmt := topS 14
/-! ### the deck of the first kind: [cells, count] -/
def spDeckA (K : PySem.W.Frag) : Sp := fun vs H Q _ => ∃ (a : Addr) (ns : List Int), vs = [.ref a] ∧ SqL K H a (ns.map V.int) ∧ ns.length ≤ 63 ∧
  ∀ (H' : Hp) (p q : Addr), Same H H' → H p = none → H q = none → (dkA p q).at0 H' 0 → Q (.ref p) H'
theorem scDeck : FnScope ["script", "cell"] ["script"] (defScope s__law_deck) := ⟨rfl, rfl, rfl, by decide +kernel, rfl, by decide +kernel, by decide +kernel⟩
theorem ok_deck {f : Addr} {fd : FuncData} (F : Fun K "_law_deck" "_law_deck" s__law_deck f fd) (mabs : mg "abs" = none) : FnG P w K mg base 1 f fd ["script"] (spDeckA K) := by
  refine fng_of F scDeck (fun vs H Q E ⟨a, ns, e, _⟩ => by rw [e]; rfl) fun cdv A outer s H vs Q hgd hr ⟨a, ns, e, hS, hlen, k⟩ => ?_
  subst e
  refine ⟨_, pss_one (ps_ret (pe_lst (pa_cons (pe_lc (own := [("cell", 1)]) (g := gName 1) (tt := tYes) rfl scDeck.nd (pi_list (pe_slice sl_list (pv 0) po_none (po_some pe_int)))
    (blkOk_by (N := ["script", "cell"]) (sc := defScope s__law_deck) (by decide +kernel)) (fun _ _ _ _ _ => pg_name (i := 1) scDeck.nd rfl (Or.inl rfl)) (fun _ _ _ _ _ => pts_nil)
    (fun _ _ _ _ _ => pe_callB call_abs (by rfl) mabs PyProof.Rows.boot_abs (pa_cons (pv 1) pa_nil))) (pa_cons pe_int pa_nil)))), ?_⟩
  refine ⟨_, rfl, 63, rfl, a, _, rfl, hS, fun l hl => ?_⟩
  have cut : ∃ ms : List Int, cutV (ns.map V.int) none (some 63) = ms.map V.int ∧ ms.length ≤ 63 := by
    refine ⟨cutG ns none (some 63), by unfold cutG cutV; simp, ?_⟩
    unfold cutG
    rw [List.length_take, List.length_drop]
    omega
  obtain ⟨ms, e1, e2⟩ := cut
  rw [e1]
  have s1 : Same H (upd H l (.lst (ms.map V.int))) := fun b o e => by rw [upd_ne (ne_of_none e hl)]; exact e
  refine ⟨l, rfl, ⟨_, SqL.of upd_same⟩, fun D hD => ?_⟩
  have nlD : l ≠ D := fun q => by rw [← q, upd_same] at hD; cases hD
  have hD0 : H D = none := s1.free hD
  refine lc_list (K := K) (a := l) (xs := ms.map V.int) (fun i H' => ∃ cs : List Int, cs.length ≤ i ∧ (∀ c ∈ cs, 0 ≤ c) ∧ H' = upd (upd H l (.lst (ms.map V.int))) D (.lst (cs.map V.int)))
    ⟨[], Nat.le_refl _, fun _ h => (by cases h), rfl⟩ (fun i H' _ ⟨cs, _, _, e⟩ => by rw [e]; exact SqL.of (by rw [upd_ne nlD]; exact upd_same)) (fun i x H' hx ⟨cs, hc1, hc2, e⟩ => ?_) (fun H' ⟨cs, hc1, hc2, e⟩ => ?_)
  · subst e
    rw [List.getElem?_map] at hx
    obtain ⟨z, hz, rfl⟩ := Option.map_eq_some_iff.mp hx
    have hi : i < ms.length := (List.getElem?_eq_some_iff.mp hz).1
    refine ⟨rfl, V.int z, rfl, z, rfl, cs.map V.int, upd_same, small1000 (by rw [List.length_map]; omega), cs ++ [if z < 0 then -z else z], by rw [List.length_append]; show cs.length + 1 ≤ i + 1; omega, fun c hc => ?_, ?_⟩
    · rcases List.mem_append.mp hc with q | q
      · exact hc2 c q
      · rw [List.mem_singleton.mp q]; split <;> omega
    · rw [upd_upd, List.map_append] <;> rfl
  · subst e
    refine ⟨by show 2 ≤ sizeLine; decide, fun p hp => ?_⟩
    have hp2 : upd H l (.lst (ms.map V.int)) p = none := by
      by_cases q : p = D
      · rw [q, upd_same] at hp; cases hp
      · rw [upd_ne q] at hp; exact hp
    have npD : D ≠ p := fun q => by rw [← q, upd_same] at hp; cases hp
    rw [List.length_map] at hc1
    refine k _ p D (fun b o e => ?_) (s1.free hp2) hD0 ⟨cs, upd_same, by rw [upd_ne npD]; exact upd_same, by omega, hc2⟩
    have eb := s1 b o e
    rw [upd_ne (ne_of_none eb hp2), upd_ne (ne_of_none eb hD)]
    exact eb

def drawA : DSpec := fun as n R => ∃ lim : Int, as = [.deck false, .dat (.int lim)] ∧ 1 ≤ lim ∧ lim ≤ 10 ^ 7 ∧ n.n ≤ 10 ^ 6 ∧ ∀ r : Int, 0 ≤ r → r < lim → R (.int r) (n + 1)
theorem scDraw : FnScope ["deck", "many", "cell", "place"] ["deck", "many"] (defScope s__law_draw) := ⟨rfl, rfl, rfl, by decide +kernel, rfl, by decide +kernel, by decide +kernel⟩
theorem ok_draw {f : Addr} {fd : FuncData} (F : Fun K "_law_draw" "_law_draw" s__law_draw f fd) (mlen : mg "len" = none) : FnG P w K mg base 1 f fd ["deck", "many"] (spD K 2 drawA) := by
  refine fng_of F scDraw (fun vs H Q E ⟨δ, Fz, as, n, R, hl, w1, _⟩ => by rw [← Paired.length w1]; exact hl) fun cdv A outer s H vs Q hgd hr ⟨δ, Fz, as, n, R, hl, w1, s1, d1, o1, ⟨lim, ea, hl1, hl2, hn, hR⟩, hk⟩ => ?_
  subst ea
  obtain ⟨va, vb, rfl, h1, h2⟩ := vr2 w1
  obtain ⟨a, rfl, b, rfl⟩ := h1
  simp only [VR, Rp] at h2
  subst h2
  obtain ⟨⟨cells, hA, hB, hc1, hc2⟩, hob⟩ := d1
  have nba : b ≠ a := fun q => by
    rw [q, hA] at hB
    have q2 := HO.lst.inj (Option.some.inj hB)
    cases cells with
    | nil => cases q2
    | cons x r => simp at q2
  -- what is wanted behind the body
  have fin : ∀ (H' : Hp) (cs : List Int) (r : Int), H' a = some (.lst [.ref b, .int ((n.n : Int) + 1)]) → H' b = some (.lst (cs.map V.int)) → cs.length ≤ 63 → (∀ c ∈ cs, 0 ≤ c) → (∀ c o, c ≠ a → c ≠ b → H c = some o → H' c = some o) → 0 ≤ r → r < lim → Q (.int r) H' := fun H' cs r q1 q2 q3 q4 q5 q6 q7 => by
    have out : ∀ c o, c ∉ (dkA a b).own → H c = some o → H' c = some o := fun c o hc => q5 c o (fun e => hc (by rw [e]; simp [dkA])) fun e => hc (by rw [e]; simp [dkA])
    have keepI : ∀ c C dx fs, H c = some (.ins C dx fs) → H' c = some (.ins C dx fs) := fun c C dx fs e => q5 c _ (fun z => by rw [z, hA] at e; cases e) (fun z => by rw [z, hB] at e; cases e) e
    have inn : ∀ c, c ∈ (dkA a b).own → H' c ≠ none := fun c hc => by
      simp only [dkA, List.mem_cons, List.not_mem_nil, or_false] at hc
      rcases hc with e | e <;> rw [e]
      · rw [q1]; nofun
      · rw [q2]; nofun
    refine hk (.int r) (n + 1) Fz H' _ (hR r q6 q7) ⟨Same.refl _, fun _ _ h => h, fun c o hc e _ => out c o hc e, fun c C dx fs e => ⟨fs, keepI c C dx fs e⟩, fun c hc => ?_⟩ (fun c o e => ?_) ⟨⟨cs, q1, q2, q3, q4⟩, fun c ob e => (by
      obtain ⟨h1, dx, vs, h2, h3⟩ := hob.1 c ob e
      exact ⟨h1, dx, vs, keepI _ _ _ _ h2, h3⟩), hob.2⟩ (by simp [Rp])
    · by_cases z : c ∈ (dkA a b).own
      · exact inn c z
      · obtain ⟨o, e⟩ := some_of_ne hc
        rw [out c o z e]; nofun
    · exact out c o (fun z => by rw [(o1 c z).1] at e; cases e) (s1 _ _ e)
  refine ⟨_, pss_cons (ps_asg (pe_op op_add (pe_ix ix_list (pv 0) pe_int (fun _ _ => rfl)) pe_int) (pg_sub (pv 0) pe_int set_list))
    (pss_cons (ps_set (i := 2) scDraw.nd rfl (Or.inl rfl) pe_int) (pss_cons (ps_set (i := 3) scDraw.nd rfl (Or.inl rfl) (pe_un un_neg pe_int))
    (pss_cons (ps_if (pt_cmpR op_gt (pe_callB call_len_seq (by rfl) mlen PySem.boot_len (pa_cons (pe_ix ix_list (pv 0) pe_int (fun _ _ => rfl)) pa_nil)) pe_int (nomark _))
        (pss_cons (ps_set (i := 3) scDraw.nd rfl (Or.inl rfl) (pe_op op_mod (pe_ix ix_list (pv 0) pe_int (fun _ _ => rfl)) (pe_callB call_len_seq (by rfl) mlen PySem.boot_len (pa_cons (pe_ix ix_list (pv 0) pe_int (fun _ _ => rfl)) pa_nil))))
          (pss_one (ps_set (i := 2) scDraw.nd rfl (Or.inl rfl) (pe_ix ix_list (pe_ix ix_list (pv 0) pe_int (fun _ _ => rfl)) (pv 3) (fun _ _ => rfl))))) pss_nil)
    (pss_cons (ps_if (pt_cmpR op_ge (pv 2) (pe_op op_pow pe_int pe_int) (nomark _))
        (pss_cons (ps_asg (pe_op op_fdivW (pv 2) (pv 1)) (pg_sub (pe_ix ix_list (pv 0) pe_int (fun _ _ => rfl)) (pv 3) set_list)) (pss_one (ps_ret (pe_op op_mod (pv 2) (pv 1))))) pss_nil)
    (pss_one (ps_ret (pe_op op_mod (pe_op op_mod (pe_op op_pow (pe_op op_add (pe_op op_add (pe_op op_mod (pv 2) pe_int) (pe_op op_mul pe_int (pe_ix ix_list (pv 0) pe_int (fun _ _ => rfl)))) pe_int) pe_int) pe_int) (pv 1)))))))), ?_⟩
  refine ⟨_, rfl, a, _, 1, .int n.n, rfl, rfl, SqL.of hA, rfl, n.n, 1, rfl, rfl, _, rfl, a, _, 1, 1, rfl, rfl, hA, rfl, ?_⟩
  -- behind the first row
  have hA1 : upd H a (.lst ([V.ref b, V.int n.n].set 1 (.int ((n.n : Int) + 1)))) a = some (.lst [.ref b, .int ((n.n : Int) + 1)]) := upd_same
  have hB1 : upd H a (.lst ([V.ref b, V.int n.n].set 1 (.int ((n.n : Int) + 1)))) b = some (.lst (cells.map V.int)) := by rw [upd_ne nba]; exact hB
  have hO1 : ∀ c, c ≠ a → upd H a (.lst ([V.ref b, V.int n.n].set 1 (.int ((n.n : Int) + 1)))) c = H c := fun c hc => upd_ne hc
  generalize upd H a (.lst ([V.ref b, V.int n.n].set 1 (.int ((n.n : Int) + 1)))) = H1 at hA1 hB1 hO1
  have hO2 : ∀ c o, c ≠ a → H c = some o → H1 c = some o := fun c o hc e => (hO1 c hc).trans e
  have hA2 := hA1
  have hB2 := hB1
  have cdiv : ∀ c : Int, CDivW c lim := fun c => wide_div (b := 64) (by omega) (by omega) (by decide) (by decide)
  refine ⟨1, rfl, _, rfl, a, _, 0, .ref b, rfl, rfl, SqL.of hA2, rfl, b, _, rfl, .inl (SqL.of hB2), _, 0, rfl, rfl, _, rfl, ?_⟩
  rw [List.length_map]
  -- the last row, whatever was drawn
  have last : ∀ c : Int, 0 ≤ c → ((c % 2147483587 + 7919 * ((n.n : Int) + 1) + 1).natAbs < 2 ^ 64) := fun c hc => by
    have h1 : 0 ≤ c % 2147483587 := Int.emod_nonneg _ (by decide)
    have h2 : c % 2147483587 < 2147483587 := Int.emod_lt_of_pos _ (by decide)
    omega
  have hpos : (0 : Int) < lim := by omega
  have ends : ∀ (c z : Int), 0 ≤ z % lim ∧ z % lim < lim := fun c z => ⟨Int.emod_nonneg _ (by omega), Int.emod_lt_of_pos _ hpos⟩
  by_cases hne : cells = []
  · subst hne
    refine iteF ?_
    refine ⟨_, rfl, 10, 18, rfl, rfl, ⟨by decide, by decide, by decide⟩, 0, _, rfl, rfl, _, rfl, ?_⟩
    refine iteF ?_
    refine ⟨_, rfl, 0, 2147483587, rfl, rfl, (by decide : (0 : Int) < 2147483587), _, rfl, a, _, 1, .int ((n.n : Int) + 1), rfl, rfl, SqL.of hA2, rfl, 7919, _, rfl, rfl, .inl ⟨by decide, by decide⟩, _, _, rfl, rfl, _, 1, rfl, rfl, _, 5, rfl, rfl, ⟨by decide, by decide, last 0 (Int.le_refl 0)⟩,
      _, 2147483647, rfl, rfl, (by decide : (0 : Int) < 2147483647), _, rfl, _, lim, rfl, rfl, hpos, ?_⟩
    exact fin H1 [] _ hA2 hB2 hc1 hc2 (fun c o q1 q2 e => hO2 c o q1 e) (ends 0 _).1 (ends 0 _).2
  · have hlen : 0 < cells.length := List.length_pos_iff.mpr hne
    rw [decide_eq_true (show (0 : Int) < (cells.length : Int) by omega)]
    refine iteT ?_
    have m0 : (0 : Int) ≤ ((n.n : Int) + 1) % (cells.length : Int) := Int.emod_nonneg _ (by omega)
    have m1 : ((n.n : Int) + 1) % (cells.length : Int) < (cells.length : Int) := Int.emod_lt_of_pos _ (by omega)
    obtain ⟨j, hj⟩ : ∃ j : Nat, ((n.n : Int) + 1) % (cells.length : Int) = (j : Int) := ⟨(((n.n : Int) + 1) % (cells.length : Int)).toNat, by omega⟩
    have hjl : j < cells.length := by omega
    obtain ⟨c, hc⟩ : ∃ c, cells[j]? = some c := ⟨cells[j], by simp [hjl]⟩
    have hc0 : 0 ≤ c := hc2 c (List.mem_of_getElem? hc)
    refine ⟨_, rfl, a, _, 1, .int ((n.n : Int) + 1), rfl, rfl, SqL.of hA2, rfl, _, rfl, a, _, 0, .ref b, rfl, rfl, SqL.of hA2, rfl, b, _, rfl, .inl (SqL.of hB2), _, _, rfl, rfl, (by rw [List.length_map]; omega), ?_⟩
    refine ⟨_, rfl, a, _, 0, .ref b, rfl, rfl, SqL.of hA2, rfl, _, rfl, b, _, _, .int c, rfl, rfl, SqL.of hB2, (by rw [List.length_map, hj]; exact atI_nat (by rw [List.getElem?_map, hc]; rfl)), ?_⟩
    refine ⟨_, rfl, 10, 18, rfl, rfl, ⟨by decide, by decide, by decide⟩, c, _, rfl, rfl, _, rfl, ?_⟩
    refine ite2 (fun _ => ?_) fun _ => ?_
    · refine ⟨_, rfl, _, rfl, c, lim, rfl, rfl, cdiv c, _, rfl, a, _, 0, .ref b, rfl, rfl, SqL.of hA2, rfl, _, rfl, b, _, _, j, rfl, rfl, hB2, ?_, ?_⟩
      · rw [List.length_map, hj]
        unfold ixN
        rw [if_pos (by omega), if_pos (by omega)]
        rfl
      · refine ⟨_, rfl, _, rfl, c, lim, rfl, rfl, hpos, ?_⟩
        refine fin _ (cells.set j (c / lim)) _ (by rw [upd_ne (Ne.symm nba)]; exact hA2) (by rw [upd_same, List.map_set]) (by rw [List.length_set]; exact hc1) (fun d hd => ?_) (fun d o q1 q2 e => by rw [upd_ne q2]; exact hO2 d o q1 e) (ends 0 _).1 (ends 0 _).2
        rcases List.mem_or_eq_of_mem_set hd with q | q
        · exact hc2 d q
        · rw [q]; exact Int.ediv_nonneg hc0 (by omega)
    · refine ⟨_, rfl, c, 2147483587, rfl, rfl, (by decide : (0 : Int) < 2147483587), _, rfl, a, _, 1, .int ((n.n : Int) + 1), rfl, rfl, SqL.of hA2, rfl, 7919, _, rfl, rfl, .inl ⟨by decide, by decide⟩, _, _, rfl, rfl, _, 1, rfl, rfl, _, 5, rfl, rfl, ⟨by decide, by decide, last c hc0⟩,
        _, 2147483647, rfl, rfl, (by decide : (0 : Int) < 2147483647), _, rfl, _, lim, rfl, rfl, hpos, ?_⟩
      exact fin H1 cells _ hA2 hB2 hc1 hc2 (fun c o q1 q2 e => hO2 c o q1 e) (ends 0 _).1 (ends 0 _).2
abbrev s_BadNumber_init : Stmt := inCls (topS 5) 0
theorem sc_BadNumber_init : FnScope ["self", "value"] ["self", "value"] (defScope s_BadNumber_init) := ⟨rfl, rfl, rfl, by decide +kernel, rfl, by decide +kernel, by decide +kernel⟩
theorem ok_BadNumber_init {f : Addr} {fd : FuncData} (F : Fun K "__init__" "BadNumber.__init__" s_BadNumber_init f fd) (T : OexC K C.BadNumber) (B : Bn K mg C) : FnOk P w K mg base CX0 1 f fd ["self", "value"] (spEI C.BadNumber "value") := by
  refine F.ok sc_BadNumber_init (fun vs H Q E ⟨a, v, e, _⟩ => by rw [e]; rfl) fun cdv A outer s H vs Q E hr ⟨a, v, e, hH, hQ⟩ => ⟨_, pss_one (ps_ost (pv 0) (pv 1)), ?_⟩
  subst e
  exact ⟨_, rfl, _, rfl, a, C.BadNumber, rfl, T, B.n_BadNumber, .inl ⟨hH, fun dx h1 h2 => hQ dx h1 h2⟩⟩
abbrev s_TooFewServed_init : Stmt := inCls (topS 6) 0
theorem sc_TooFewServed_init : FnScope ["self", "number"] ["self", "number"] (defScope s_TooFewServed_init) := ⟨rfl, rfl, rfl, by decide +kernel, rfl, by decide +kernel, by decide +kernel⟩
theorem ok_TooFewServed_init {f : Addr} {fd : FuncData} (F : Fun K "__init__" "TooFewServed.__init__" s_TooFewServed_init f fd) (T : OexC K C.TooFewServed) (B : Bn K mg C) : FnOk P w K mg base CX0 1 f fd ["self", "number"] (spEI C.TooFewServed "number") := by
  refine F.ok sc_TooFewServed_init (fun vs H Q E ⟨a, v, e, _⟩ => by rw [e]; rfl) fun cdv A outer s H vs Q E hr ⟨a, v, e, hH, hQ⟩ => ⟨_, pss_one (ps_ost (pv 0) (pv 1)), ?_⟩
  subst e
  exact ⟨_, rfl, _, rfl, a, C.TooFewServed, rfl, T, B.n_TooFewServed, .inl ⟨hH, fun dx h1 h2 => hQ dx h1 h2⟩⟩
def spareD (d : PyData) (p : Int) : PyData := if numIn d 0 1000 = true then (match d with | .int z => if z < p then .list [.str "few", .str d.shown] else .int (z - p) | _ => .none) else .list [.str "number", .str d.shown]
theorem spareD_no {d : PyData} {p : Int} (h : numIn d 0 1000 = false) : spareD d p = .list [.str "number", .str d.shown] := if_neg (by rw [h]; decide)
theorem numIn_int {z a b : Int} (h1 : a ≤ z) (h2 : z ≤ b) : numIn (.int z) a b = true := by
  show (decide (a ≤ z) && decide (z ≤ b)) = true
  rw [decide_eq_true h1, decide_eq_true h2]; rfl
theorem spareD_few {z p : Int} (h1 : 0 ≤ z) (h2 : z ≤ 1000) (h : z < p) : spareD (.int z) p = .list [.str "few", .str (PyData.int z).shown] := (if_pos (numIn_int h1 h2)).trans (if_pos h)
theorem spareD_int {z p : Int} (h1 : 0 ≤ z) (h2 : z ≤ 1000) (h : p ≤ z) : spareD (.int z) p = .int (z - p) := (if_pos (numIn_int h1 h2)).trans (if_neg (by omega))
def c_is_number : DSpec := fun as n R => ∃ d : PyData, as = [.dat d] ∧ isRefD d = false ∧ R (.bool (numB d)) n
def c_is_number_from : DSpec := fun as n R => ∃ d : PyData, ∃ a b : Int, as = [.dat d, .dat (.int a), .dat (.int b)] ∧ isRefD d = false ∧ R (.bool (numIn d a b)) n
def c_Pledge___init__ (C : CA) : DSpecX := fun as n R E => ∃ (a : Addr) (d : PyData), as = [.dat (refD a), .dat d] ∧ isRefD d = false ∧ n.ob a = some ⟨C.Pledge, []⟩ ∧
  (numIn d 0 1000 = true → R .none (n.put a ⟨C.Pledge, [("pledge", d)]⟩)) ∧ (numIn d 0 1000 = false → E ⟨C.BadNumber, [("value", d)]⟩ n)
theorem len_Pledge___init__ {C : CA} (as : List Dv) (n : Wo) (R : PyData → Wo → Prop) (E : Ex → Wo → Prop) (h : c_Pledge___init__ C as n R E) : as.length = 2 := by
  obtain ⟨a, d, rfl, _⟩ := h
  rfl
def c__law_made (C : CA) : DSpec := fun as n R => ∃ d : PyData, as = [.dat d] ∧ isRefD d = false ∧ TameE 1000 5 d ∧
  (numIn d 0 1000 = true → ∀ x, n.ob x = none → R (refD x) (n.put x ⟨C.Pledge, [("pledge", d)]⟩)) ∧ (numIn d 0 1000 = false → ∀ n', n'.n = n.n → R (.list [.str "number", .str d.shown]) n')
abbrev c__law_draw : DSpec := drawA
def c__law_is_within : DSpec := fun as n R => ∃ d : PyData, ∃ a b : Int, as = [.dat d, .dat (.int a), .dat (.int b)] ∧ isRefD d = false ∧ R (.bool (numIn d a b)) n
def c_Pledge_spare (C : CA) : DSpecX := fun as n R E => ∃ (a : Addr) (d : PyData) (p : Int), as = [.dat (refD a), .dat d] ∧ isRefD d = false ∧ n.ob a = some ⟨C.Pledge, [("pledge", .int p)]⟩ ∧
  (numIn d 0 1000 = false → E ⟨C.BadNumber, [("value", d)]⟩ n) ∧ ∀ z, d = .int z → 0 ≤ z → z ≤ 1000 → (z < p → E ⟨C.TooFewServed, [("number", d)]⟩ n) ∧ (p ≤ z → R (.int (z - p)) n)
def c__law_spare (C : CA) : DSpec := fun as n R => ∃ (a : Addr) (d : PyData) (p : Int), as = [.dat (refD a), .dat d] ∧ isRefD d = false ∧ TameE 1000 5 d ∧ n.ob a = some ⟨C.Pledge, [("pledge", .int p)]⟩ ∧
  ∀ n', Sim n n' → R (spareD d p) n'
/-! what is drawn as a pledge or a number -/
def okPL (d : PyData) : Bool := !isRefD d && d.showable && decide (d.depth ≤ 5) && decide (d.shown.length ≤ 1000) && PyData.strOk d.shown
structure PL (d : PyData) : Prop where
  nr : isRefD d = false
  tm : TameE 1000 5 d
  ok : PyData.strOk d.shown = true
theorem PL.of {d : PyData} (h : okPL d = true) : PL d := by
  unfold okPL at h
  simp only [Bool.and_eq_true, Bool.not_eq_true', decide_eq_true_eq] at h
  exact ⟨h.1.1.1.1, ⟨h.1.1.1.2, h.1.1.2, h.1.2⟩, h.2⟩
theorem PL.int {z : Int} (h1 : -1 ≤ z) (h2 : z ≤ 1001) : PL (.int z) := ⟨rfl, (tameE_int (m := 20) (by omega) (by decide) (by decide)).mono (by decide) (by decide), num_ok z⟩
def odd46 : List PyData := [.none, .bool true, .bool false, .int (-1), .int 1001, .int ((10 : Int) ^ (39 : Int).toNat), .str "5", .str "", .tuple [], .list [], .dict [], .tuple [.int 3]]
theorem odd_at {r : Int} (h0 : 0 ≤ r) (h1 : r < 12) : ∃ d, atI odd46 r = some d ∧ PL d := by
  obtain ⟨k, rfl⟩ := Int.eq_ofNat_of_zero_le h0
  have hk : k < 12 := by omega
  have hl : k < odd46.length := hk
  refine ⟨odd46[k], atI_nat (List.getElem?_eq_getElem hl), ?_⟩
  have key : odd46.all okPL = true := by decide +kernel
  exact PL.of (List.all_eq_true.mp key _ (List.getElem_mem hl))
theorem PL.spare {d : PyData} {p : Int} (h : PL d) (h0 : 0 ≤ p) (h1 : p ≤ 1000) : TameE 1000000 60 (spareD d p) := by
  have two (s : Str) (hs : TameE 20 0 (.str s)) : TameE 1000000 60 (.list [.str s, .str d.shown]) :=
    (tameE_list (m := 20000) (k := 0) (l := 2) (all2 (hs.mono (by decide) (by decide)) ((tame_str h.ok).e.mono (by have := h.tm.le; omega) (by decide))) (by simp)).mono (by decide) (by decide)
  cases q : numIn d 0 1000 with
  | false =>
    rw [spareD_no q]
    exact two _ (by constructor <;> decide +kernel)
  | true =>
    obtain ⟨z, rfl, h2, h3⟩ := numIn_true q
    by_cases c : z < p
    · rw [spareD_few h2 h3 c]
      exact two _ (by constructor <;> decide +kernel)
    · rw [spareD_int h2 h3 (by omega)]
      exact (PL.int (by omega) (by omega)).tm.mono (by decide) (by decide)
theorem sh_num {s : Str} (h : PyData.strOk s = true) : Sh (.list [.str "number", .str s]) :=
  (tame_list (m := 10 * s.length + 100) (k := 0) (l := 2) (all2 ((tame_str (s := "number") (by decide +kernel)).mono (by show 62 ≤ _; omega) (by decide)) ((tame_str h).mono (by omega) (by decide))) (by simp)).shaped (by decide)
abbrev s_is_number : Stmt := topS 8
abbrev N_is_number : List Str := ["value"]
theorem sc_is_number : FnScope N_is_number ["value"] (defScope s_is_number) := ⟨rfl, rfl, rfl, by decide +kernel, rfl, by decide +kernel, by decide +kernel⟩
theorem fn_is_number {f : Addr} {fd : FuncData} (F : Fun K "is_number" "is_number" s_is_number f fd) (B : Bn K mg C) : FnG P w K mg base 1 f fd ["value"] (spD K 1 c_is_number) := by
  refine fnd (k := 0) c_is_number F sc_is_number fun cdv A outer s H hgd0 hr Y => ?_
  have hu := hr.units
  have hu1 : (A.deeper (envOfC "is_number" (defScope s_is_number) s.heap.objs.size f cdv)).units + 65 < cLine := by have := hr.un; omega
  have hu0 : (A.deeper (envOfC "is_number" (defScope s_is_number) s.heap.objs.size f cdv)).units + 1 < cLine := by have := hr.un; omega
  have hgd : (A.deeper (envOfC "is_number" (defScope s_is_number) s.heap.objs.size f cdv)).guards = some [] := hgd0
  refine ⟨_, (dss_one (ds_ret (we_and (we_isi (.inl rfl) (by rfl) B.isinstance (we_var 0) (by rfl) B.int PyProof.Rows.boot_int) (we_one (we_not (we_isi (.inr (.inl rfl)) (by rfl) B.isinstance (we_var 0) (by rfl) B.bool PyProof.Rows.boot_bool)))))), fun as n R hl hc => ?_⟩
  obtain ⟨d, rfl, hnr, hR⟩ := hc
  cases d with
  | int z => exact ⟨_, rfl, rfl, asB_T (isi_ii z) (iteT ⟨_, rfl, rfl, asB_F (isi_ib z) hR⟩)⟩
  | bool b => exact ⟨_, rfl, rfl, asB_T (isi_bi b) (iteT ⟨_, rfl, rfl, asB_T (isi_bb b) hR⟩)⟩
  | none => exact ⟨_, rfl, rfl, asB_F (show isiB "NoneType" "int" = false by decide +kernel) hR⟩
  | str s => exact ⟨_, rfl, rfl, asB_F (show isiB "str" "int" = false by decide +kernel) hR⟩
  | list ds => exact ⟨_, rfl, rfl, asB_F (show isiB "list" "int" = false by decide +kernel) hR⟩
  | tuple ds => exact ⟨_, rfl, rfl, asB_F (show isiB "tuple" "int" = false by decide +kernel) hR⟩
  | dict kvs => exact ⟨_, rfl, isDR_dat hnr, asB_F (show isiB "dict" "int" = false by decide +kernel) hR⟩
abbrev s_is_number_from : Stmt := topS 9
abbrev N_is_number_from : List Str := ["value", "low", "high"]
theorem sc_is_number_from : FnScope N_is_number_from ["value", "low", "high"] (defScope s_is_number_from) := ⟨rfl, rfl, rfl, by decide +kernel, rfl, by decide +kernel, by decide +kernel⟩
theorem fn_is_number_from {f : Addr} {fd : FuncData} (F : Fun K "is_number_from" "is_number_from" s_is_number_from f fd) (B : Bn K mg C) (H_is_number : Has P w K mg base "is_number" 1 ["value"] c_is_number) : FnG P w K mg base 2 f fd ["value", "low", "high"] (spD K 3 c_is_number_from) := by
  refine fnd (k := 1) c_is_number_from F sc_is_number_from fun cdv A outer s H hgd0 hr Y => ?_
  have hu := hr.units
  have hu1 : (A.deeper (envOfC "is_number_from" (defScope s_is_number_from) s.heap.objs.size f cdv)).units + 65 < cLine := by have := hr.un; omega
  have hu0 : (A.deeper (envOfC "is_number_from" (defScope s_is_number_from) s.heap.objs.size f cdv)).units + 1 < cLine := by have := hr.un; omega
  have hgd : (A.deeper (envOfC "is_number_from" (defScope s_is_number_from) s.heap.objs.size f cdv)).guards = some [] := hgd0
  refine ⟨_, (dss_one (ds_ret (we_and (we_has H_is_number hgd (hr.mono (by decide)) (by rfl) (wa_cons (we_var 0) wa_nil)) (we_one (we_chain op_le op_le bi_B0 bi_B0 (we_var 1) (we_var 0) (we_var 2)))))), fun as n R hl hc => ?_⟩
  obtain ⟨d, a, b, rfl, hnr, hR⟩ := hc
  refine ⟨_, rfl, rfl, d, rfl, hnr, ?_⟩
  cases d with
  | int z =>
    have hR : R (.bool (decide (a ≤ z) && decide (z ≤ b))) n := hR
    refine asB_T (c := true) rfl (iteT ⟨_, rfl, _, rfl, _, rfl, ?_⟩)
    by_cases h : a ≤ z
    · rw [decide_eq_true h, Bool.true_and] at hR
      exact iteD h ⟨_, rfl, hR⟩
    · rw [decide_eq_false h, Bool.false_and] at hR
      exact ifF (decide_eq_false h) hR
  | bool z => exact asB_F (c := false) rfl hR
  | none => exact asB_F (c := false) rfl hR
  | str s => exact asB_F (c := false) rfl hR
  | list ds => exact asB_F (c := false) rfl hR
  | tuple ds => exact asB_F (c := false) rfl hR
  | dict kvs => exact asB_F (c := false) rfl hR
abbrev s_Pledge___init__ : Stmt := inCls (topS 11) 0
abbrev N_Pledge___init__ : List Str := ["self", "pledge"]
theorem sc_Pledge___init__ : FnScope N_Pledge___init__ ["self", "pledge"] (defScope s_Pledge___init__) := ⟨rfl, rfl, rfl, by decide +kernel, rfl, by decide +kernel, by decide +kernel⟩
theorem fn_Pledge___init__ {f : Addr} {fd : FuncData} (F : Fun K "__init__" "Pledge.__init__" s_Pledge___init__ f fd) (B : Bn K mg C) (H_is_number_from : Has P w K mg base "is_number_from" 2 ["value", "low", "high"] c_is_number_from) (H_BadNumber : ErrC P w K mg base "BadNumber" C.BadNumber "value") : FnGX P w K mg base 3 f fd ["self", "pledge"] (spDX K 2 (c_Pledge___init__ C)) := by
  refine fndX (k := 2) (c_Pledge___init__ C) F sc_Pledge___init__ fun cdv A outer s H Eh hgd0 hr Y E ok tk => ?_
  have hu := hr.units
  have hu1 : (A.deeper (envOfC "Pledge.__init__" (defScope s_Pledge___init__) s.heap.objs.size f cdv)).units + 65 < cLine := by have := hr.un; omega
  have hu0 : (A.deeper (envOfC "Pledge.__init__" (defScope s_Pledge___init__) s.heap.objs.size f cdv)).units + 1 < cLine := by have := hr.un; omega
  have hgd : (A.deeper (envOfC "Pledge.__init__" (defScope s_Pledge___init__) s.heap.objs.size f cdv)).guards = some [] := hgd0
  refine ⟨_, (dss_cons (ds_if (wt_not (wt_val (we_has H_is_number_from hgd (hr.mono (by decide)) (by rfl) (wa_cons (we_var 1) (wa_cons we_int (wa_cons (we_gint (by rfl) B.LIMIT.choose_spec) wa_nil)))))) (dss_one (ds_raise rfl tk ok H_BadNumber (hr.mono (by decide)) (by rfl) (we_var 1))) dss_nil) (dss_one (ds_fld (we_var 0) (we_var 1)))), fun as n R hl hc => ?_⟩
  obtain ⟨a, d, rfl, hnr, hob, hT, hF⟩ := hc
  refine ⟨_, rfl, rfl, d, 0, 1000, rfl, hnr, _, rfl, ?_⟩
  cases h : numIn d 0 1000 with
  | false => exact ifNF (b := false) rfl ⟨_, rfl, hF h⟩
  | true => exact ifN (b := true) rfl ⟨_, rfl, _, rfl, a, _, rfl, hob, B.fl_Pledge_pledge, (by decide : 0 < 1000), hT h⟩
abbrev s__law_made : Stmt := topS 16
abbrev N__law_made : List Str := ["pledge", "e", "is_other"]
theorem sc__law_made : FnScope N__law_made ["pledge"] (defScope s__law_made) := ⟨rfl, rfl, rfl, by decide +kernel, rfl, by decide +kernel, by decide +kernel⟩
theorem fn__law_made {f : Addr} {fd : FuncData} (F : Fun K "_law_made" "_law_made" s__law_made f fd) (B : Bn K mg C) (H_Pledge___init__ : HasC P w K mg base "Pledge" C.Pledge 3 ["self", "pledge"] (c_Pledge___init__ C)) : FnG P w K mg base 5 f fd ["pledge"] (spD K 1 (c__law_made C)) := by
  refine fnd (k := 4) (c__law_made C) F sc__law_made fun cdv A outer s H hgd0 hr Y => ?_
  have hu := hr.units
  have hu1 : (A.deeper (envOfC "_law_made" (defScope s__law_made) s.heap.objs.size f cdv)).units + 65 < cLine := by have := hr.un; omega
  have hu0 : (A.deeper (envOfC "_law_made" (defScope s__law_made) s.heap.objs.size f cdv)).units + 1 < cLine := by have := hr.un; omega
  have hgd : (A.deeper (envOfC "_law_made" (defScope s__law_made) s.heap.objs.size f cdv)).guards = some [] := hgd0
  refine ⟨_, (dss_cons (ds_try_as (i := 1) takes0 wok0 rfl rfl sc__law_made.nd rfl rfl (names_own (by rfl) B.g_PartyError) (fun Y1 W1 pn xe dw1 tk1 ok1 => (dss_one (ds_ret (we_hasC tk1 ok1 H_Pledge___init__ hgd (hr.mono (by decide)) (by rfl) (wa_cons (we_var 0) wa_nil))))) (fun a oe cls d pn hz hf => (dss_cons (ds_set (i := 2) sc__law_made.nd rfl (Or.inl rfl) (xe_d (we_isXT hz hf (by rfl) B.isinstance (we_var 1) (pa_k (pe_glob (v := .ref C.BadFoot) (by rfl) B.g_BadFoot rfl) (pa_k (pe_glob (v := .ref C.BadSize) (by rfl) B.g_BadSize rfl) (pa_k (pe_glob (v := .ref C.TooFewServed) (by rfl) B.g_TooFewServed rfl) pa_k0))) (.cons (.own _) (.cons (.own _) (.cons (.own _) .nil))) (show 3 ≤ sizeLine by decide)))) (dss_one (ds_if (wt_w (ww_and (wt_val (we_isX hz hf (by rfl) B.isinstance (we_var 1) (pe_glob (v := .ref C.BadNumber) (by rfl) B.g_BadNumber rfl) (.own _))) (ww_and (wt_val (we_isX hz hf (by rfl) B.isinstance (we_var 1) (pe_bltn (v := .ty "ValueError") (by rfl) B.ValueError (by decide +kernel) rfl) (.ty _))) (ww_and1 (wt_not (wt_tru (we_var 2))))))) (dss_one (ds_ret (we_ofM (me_lst (wa_cons we_str (wa_cons (we_callB (call_reprE hgd hu) ck_reprE (by rfl) B.repr PyProof.Rows.boot_repr (wa_cons (we_xf hz hf (we_var 1)) wa_nil)) wa_nil)))))) dss_nil))))) (dss_one (ds_ret (we_ofM (me_lst (wa_cons we_str wa_nil)))))), fun as n R hl hc => ?_⟩
  obtain ⟨d, rfl, hnr, htm, hT, hF⟩ := hc
  refine ⟨_, rfl, fun x hx => ⟨x, d, rfl, hnr, Wo.put_at, fun h => ⟨rfl, ?_⟩, fun h => ?_⟩⟩
  · rw [Wo.put_put]
    exact hT h x hx
  · refine ⟨true, B.m_BadNumber_PartyError, fun _ a dd => ?_, fun q => Bool.noConfusion q⟩
    have hno : PySem.W.kitAny K (.ref C.BadNumber) [.ref C.BadFoot, .ref C.BadSize, .ref C.TooFewServed] = some false := kitAny_no fun c hc => by
      simp only [List.mem_cons, List.not_mem_nil, or_false] at hc
      rcases hc with rfl | rfl | rfl
      · exact B.k_BadNumber_BadFoot
      · exact B.k_BadNumber_BadSize
      · exact B.k_BadNumber_TooFewServed
    refine ⟨_, rfl, rfl, C.BadNumber, _, false, rfl, caught_at, B.is_BadNumber, hno, ?_⟩
    refine ⟨_, rfl, rfl, C.BadNumber, _, true, rfl, caught_at, B.is_BadNumber, B.k_BadNumber_BadNumber, _, rfl, iteT ?_⟩
    refine ⟨_, rfl, rfl, C.BadNumber, _, true, rfl, caught_at, B.is_BadNumber, B.k_BadNumber_ValueError, _, rfl, iteT ?_⟩
    refine iteT (B := False) ⟨_, rfl, _, rfl, rfl, C.BadNumber, _, d, rfl, caught_at, B.xf_BadNumber, rfl, _, rfl, rfl, ?_, ?_⟩
    · exact htm.mono (by decide) (by decide)
    · exact ⟨show (2 : Nat) ≤ sizeLine by decide, hF h _ rfl⟩
abbrev s__law_is_within : Stmt := topS 15
abbrev N__law_is_within : List Str := ["value", "low", "high"]
theorem sc__law_is_within : FnScope N__law_is_within ["value", "low", "high"] (defScope s__law_is_within) := ⟨rfl, rfl, rfl, by decide +kernel, rfl, by decide +kernel, by decide +kernel⟩
theorem fn__law_is_within {f : Addr} {fd : FuncData} (F : Fun K "_law_is_within" "_law_is_within" s__law_is_within f fd) (B : Bn K mg C) : FnG P w K mg base 1 f fd ["value", "low", "high"] (spD K 3 c__law_is_within) := by
  refine fnd (k := 0) c__law_is_within F sc__law_is_within fun cdv A outer s H hgd0 hr Y => ?_
  have hu := hr.units
  have hu1 : (A.deeper (envOfC "_law_is_within" (defScope s__law_is_within) s.heap.objs.size f cdv)).units + 65 < cLine := by have := hr.un; omega
  have hu0 : (A.deeper (envOfC "_law_is_within" (defScope s__law_is_within) s.heap.objs.size f cdv)).units + 1 < cLine := by have := hr.un; omega
  have hgd : (A.deeper (envOfC "_law_is_within" (defScope s__law_is_within) s.heap.objs.size f cdv)).guards = some [] := hgd0
  refine ⟨_, (dss_one (ds_ret (we_and (we_isi (.inl rfl) (by rfl) B.isinstance (we_var 0) (by rfl) B.int PyProof.Rows.boot_int) (we_and (we_not (we_isi (.inr (.inl rfl)) (by rfl) B.isinstance (we_var 0) (by rfl) B.bool PyProof.Rows.boot_bool)) (we_one (we_chain op_le op_le bi_B0 bi_B0 (we_var 1) (we_var 0) (we_var 2))))))), fun as n R hl hc => ?_⟩
  obtain ⟨d, a, b, rfl, hnr, hR⟩ := hc
  cases d with
  | int z =>
    have hR : R (.bool (decide (a ≤ z) && decide (z ≤ b))) n := hR
    refine ⟨_, rfl, rfl, asB_T (isi_ii z) (iteT ⟨_, rfl, rfl, asB_F (isi_ib z) (asB_T (c := !false) rfl (iteT ⟨_, rfl, _, rfl, _, rfl, ?_⟩))⟩)⟩
    by_cases h : a ≤ z
    · rw [decide_eq_true h, Bool.true_and] at hR
      exact iteD h ⟨_, rfl, hR⟩
    · rw [decide_eq_false h, Bool.false_and] at hR
      exact ifF (decide_eq_false h) hR
  | bool b => exact ⟨_, rfl, rfl, asB_T (isi_bi b) (iteT ⟨_, rfl, rfl, asB_T (isi_bb b) hR⟩)⟩
  | none => exact ⟨_, rfl, rfl, asB_F (show isiB "NoneType" "int" = false by decide +kernel) hR⟩
  | str s => exact ⟨_, rfl, rfl, asB_F (show isiB "str" "int" = false by decide +kernel) hR⟩
  | list ds => exact ⟨_, rfl, rfl, asB_F (show isiB "list" "int" = false by decide +kernel) hR⟩
  | tuple ds => exact ⟨_, rfl, rfl, asB_F (show isiB "tuple" "int" = false by decide +kernel) hR⟩
  | dict kvs => exact ⟨_, rfl, isDR_dat hnr, asB_F (show isiB "dict" "int" = false by decide +kernel) hR⟩
abbrev s_Pledge_spare : Stmt := inCls (topS 11) 1
abbrev N_Pledge_spare : List Str := ["self", "number"]
theorem sc_Pledge_spare : FnScope N_Pledge_spare ["self", "number"] (defScope s_Pledge_spare) := ⟨rfl, rfl, rfl, by decide +kernel, rfl, by decide +kernel, by decide +kernel⟩
theorem fn_Pledge_spare {f : Addr} {fd : FuncData} (F : Fun K "spare" "Pledge.spare" s_Pledge_spare f fd) (B : Bn K mg C) (H_is_number_from : Has P w K mg base "is_number_from" 2 ["value", "low", "high"] c_is_number_from) (H_BadNumber : ErrC P w K mg base "BadNumber" C.BadNumber "value") (H_TooFewServed : ErrC P w K mg base "TooFewServed" C.TooFewServed "number") : FnGX P w K mg base 3 f fd ["self", "number"] (spDX K 2 (c_Pledge_spare C)) := by
  refine fndX (k := 2) (c_Pledge_spare C) F sc_Pledge_spare fun cdv A outer s H Eh hgd0 hr Y E ok tk => ?_
  have hu := hr.units
  have hu1 : (A.deeper (envOfC "Pledge.spare" (defScope s_Pledge_spare) s.heap.objs.size f cdv)).units + 65 < cLine := by have := hr.un; omega
  have hu0 : (A.deeper (envOfC "Pledge.spare" (defScope s_Pledge_spare) s.heap.objs.size f cdv)).units + 1 < cLine := by have := hr.un; omega
  have hgd : (A.deeper (envOfC "Pledge.spare" (defScope s_Pledge_spare) s.heap.objs.size f cdv)).guards = some [] := hgd0
  refine ⟨_, (dss_cons (ds_if (wt_not (wt_val (we_has H_is_number_from hgd (hr.mono (by decide)) (by rfl) (wa_cons (we_var 1) (wa_cons we_int (wa_cons (we_gint (by rfl) B.LIMIT.choose_spec) wa_nil)))))) (dss_one (ds_raise rfl tk ok H_BadNumber (hr.mono (by decide)) (by rfl) (we_var 1))) dss_nil) (dss_cons (ds_if (wt_cmp op_lt bi_B0 (we_var 1) (we_fld (we_var 0)) (nomark _)) (dss_one (ds_raise rfl tk ok H_TooFewServed (hr.mono (by decide)) (by rfl) (we_var 1))) dss_nil) (dss_one (ds_ret (we_bin op_sub bi_I0 (we_var 1) (we_fld (we_var 0))))))), fun as n R hl hc => ?_⟩
  obtain ⟨a, d, p, rfl, hnr, hob, hF, hT⟩ := hc
  refine ⟨_, rfl, rfl, d, 0, 1000, rfl, hnr, _, rfl, ?_⟩
  cases h : numIn d 0 1000 with
  | false => exact ifNF (b := false) rfl ⟨_, rfl, hF h⟩
  | true =>
    obtain ⟨z, rfl, h1, h2⟩ := numIn_true h
    obtain ⟨hlt, hge⟩ := hT z rfl h1 h2
    refine ifN (b := true) rfl ⟨_, rfl, _, rfl, a, _, .int p, rfl, hob, B.fl_Pledge_pledge, rfl, _, rfl, ?_⟩
    by_cases q : z < p
    · exact iteD q ⟨_, rfl, hlt q⟩
    · exact iteDF q ⟨_, rfl, _, rfl, a, _, .int p, rfl, hob, B.fl_Pledge_pledge, rfl, hge (by omega)⟩
abbrev s__law_spare : Stmt := topS 17
abbrev N__law_spare : List Str := ["made", "number", "e", "flags"]
theorem sc__law_spare : FnScope N__law_spare ["made", "number"] (defScope s__law_spare) := ⟨rfl, rfl, rfl, by decide +kernel, rfl, by decide +kernel, by decide +kernel⟩
theorem fn__law_spare {f : Addr} {fd : FuncData} (F : Fun K "_law_spare" "_law_spare" s__law_spare f fd) (B : Bn K mg C) (HM_spare : HasM P w K mg base (fun D => D = C.Pledge) "spare" 3 ["self", "number"] (fun _ => c_Pledge_spare C)) : FnG P w K mg base 4 f fd ["made", "number"] (spD K 2 (c__law_spare C)) := by
  refine fnd (k := 3) (c__law_spare C) F sc__law_spare fun cdv A outer s H hgd0 hr Y => ?_
  have hu := hr.units
  have hu1 : (A.deeper (envOfC "_law_spare" (defScope s__law_spare) s.heap.objs.size f cdv)).units + 65 < cLine := by have := hr.un; omega
  have hu0 : (A.deeper (envOfC "_law_spare" (defScope s__law_spare) s.heap.objs.size f cdv)).units + 1 < cLine := by have := hr.un; omega
  have hgd : (A.deeper (envOfC "_law_spare" (defScope s__law_spare) s.heap.objs.size f cdv)).guards = some [] := hgd0
  refine ⟨_, (dss_cons (ds_try_as (i := 2) takes0 wok0 rfl rfl sc__law_spare.nd rfl rfl (names_own (by rfl) B.g_PartyError) (fun Y1 W1 pn xe dw1 tk1 ok1 => (dss_one (ds_ret (we_meth (pl := _) tk1 ok1 HM_spare hgd (hr.mono (by decide)) (we_var 0) (wa_cons (we_var 1) wa_nil))))) (fun a oe cls d pn hz hf => (dss_cons (ds_set (i := 3) sc__law_spare.nd rfl (Or.inl rfl) (xe_d (we_ofM (me_lst (wa_cons (we_isX hz hf (by rfl) B.isinstance (we_var 2) (pe_glob (v := .ref C.BadNumber) (by rfl) B.g_BadNumber rfl) (.own _)) (wa_cons (we_isX hz hf (by rfl) B.isinstance (we_var 2) (pe_glob (v := .ref C.TooFewServed) (by rfl) B.g_TooFewServed rfl) (.own _)) wa_nil)))))) (dss_one (ds_if (wt_w (ww_and (wt_cmp (or_eqA hu) bi_eqA (we_count (we_var 3) we_bl) we_int (nomark _)) (ww_and (wt_val (we_isX hz hf (by rfl) B.isinstance (we_var 2) (pe_bltn (v := .ty "ValueError") (by rfl) B.ValueError (by decide +kernel) rfl) (.ty _))) (ww_and1 (wt_not (wt_val (we_isXT hz hf (by rfl) B.isinstance (we_var 2) (pa_k (pe_glob (v := .ref C.BadFoot) (by rfl) B.g_BadFoot rfl) (pa_k (pe_glob (v := .ref C.BadSize) (by rfl) B.g_BadSize rfl) pa_k0)) (.cons (.own _) (.cons (.own _) .nil)) (show 2 ≤ sizeLine by decide)))))))) (dss_one (ds_ret (we_if (wt_tru (we_ix (we_var 3) we_int (fun _ _ => rfl))) (we_ofM (me_lst (wa_cons we_str (wa_cons (we_callB (call_reprE hgd hu) ck_reprE (by rfl) B.repr PyProof.Rows.boot_repr (wa_cons (we_xf hz hf (we_var 2)) wa_nil)) wa_nil)))) (we_ofM (me_lst (wa_cons we_str (wa_cons (we_callB (call_reprE hgd hu) ck_reprE (by rfl) B.repr PyProof.Rows.boot_repr (wa_cons (we_xf hz hf (we_var 2)) wa_nil)) wa_nil))))))) dss_nil))))) (dss_one (ds_ret (we_ofM (me_lst (wa_cons we_str wa_nil)))))), fun as n R hl hc => ?_⟩
  obtain ⟨a, d, p, rfl, hnr, htm, hob, hn⟩ := hc
  refine ⟨_, rfl, a, _, rfl, hob, rfl, rfl, _, rfl, rfl, a, d, p, rfl, hnr, hob, fun h => ?_, fun z hz h1 h2 => ⟨fun q => ?_, fun q => ?_⟩⟩
  · refine ⟨true, B.m_BadNumber_PartyError, fun _ a dd => ?_, fun q => Bool.noConfusion q⟩
    refine ⟨_, rfl, rfl, C.BadNumber, _, true, rfl, caught_at, B.is_BadNumber, B.k_BadNumber_BadNumber, ?_⟩
    refine ⟨_, rfl, rfl, C.BadNumber, _, false, rfl, caught_at, B.is_BadNumber, B.k_BadNumber_TooFewServed, ?_⟩
    refine ⟨show (2 : Nat) ≤ sizeLine by decide, _, rfl, [true, false], rfl, true, rfl, rfl, rfl, sh_int _, sh_int _, true, rfl, iteT ?_⟩
    refine ⟨_, rfl, rfl, C.BadNumber, _, true, rfl, caught_at, B.is_BadNumber, B.k_BadNumber_ValueError, _, rfl, iteT ?_⟩
    refine ⟨_, rfl, rfl, C.BadNumber, _, false, rfl, caught_at, B.is_BadNumber, kitAny_no fun c hc => ?_, _, rfl, iteT ?_⟩
    · simp only [List.mem_cons, List.not_mem_nil, or_false] at hc
      rcases hc with rfl | rfl
      · exact B.k_BadNumber_BadFoot
      · exact B.k_BadNumber_BadSize
    refine ⟨_, rfl, 0, .bool true, rfl, rfl, iteT (B := False) ⟨_, rfl, rfl, C.BadNumber, _, d, rfl, caught_at, B.xf_BadNumber, rfl, _, rfl, rfl, ?_, ?_⟩⟩
    · exact htm.mono (by decide) (by decide)
    · refine ⟨show (2 : Nat) ≤ sizeLine by decide, ?_⟩
      show R (.list [.str "number", .str d.shown]) _
      rw [← spareD_no (p := p) h]
      exact hn _ Sim.caught
  · refine ⟨true, B.m_TooFewServed_PartyError, fun _ a dd => ?_, fun q => Bool.noConfusion q⟩
    refine ⟨_, rfl, rfl, C.TooFewServed, _, false, rfl, caught_at, B.is_TooFewServed, B.k_TooFewServed_BadNumber, ?_⟩
    refine ⟨_, rfl, rfl, C.TooFewServed, _, true, rfl, caught_at, B.is_TooFewServed, B.k_TooFewServed_TooFewServed, ?_⟩
    refine ⟨show (2 : Nat) ≤ sizeLine by decide, _, rfl, [false, true], rfl, true, rfl, rfl, rfl, sh_int _, sh_int _, true, rfl, iteT ?_⟩
    refine ⟨_, rfl, rfl, C.TooFewServed, _, true, rfl, caught_at, B.is_TooFewServed, B.k_TooFewServed_ValueError, _, rfl, iteT ?_⟩
    refine ⟨_, rfl, rfl, C.TooFewServed, _, false, rfl, caught_at, B.is_TooFewServed, kitAny_no fun c hc => ?_, _, rfl, iteT ?_⟩
    · simp only [List.mem_cons, List.not_mem_nil, or_false] at hc
      rcases hc with rfl | rfl
      · exact B.k_TooFewServed_BadFoot
      · exact B.k_TooFewServed_BadSize
    refine ⟨_, rfl, 0, .bool false, rfl, rfl, iteF (A := False) ⟨_, rfl, rfl, C.TooFewServed, _, d, rfl, caught_at, B.xf_TooFewServed, rfl, _, rfl, rfl, ?_, ?_⟩⟩
    · exact htm.mono (by decide) (by decide)
    · subst hz
      refine ⟨show (2 : Nat) ≤ sizeLine by decide, ?_⟩
      show R (.list [.str "few", .str (PyData.int z).shown]) _
      rw [← spareD_few h1 h2 q]
      exact hn _ Sim.caught
  · subst hz
    have := hn _ Sim.rfl'
    rw [spareD_int h1 h2 q] at this
    exact this
/-- a def of the module with any promise -/
def HasS (P : Program) (w : World) (K : PySem.W.Frag) (mg : Str → Option Value) (base : Heap) (x : Str) (k : Nat) (ps : List Str) (sp : Sp) : Prop :=
  ∃ f fd, mg x = some (.ref f) ∧ PySem.W.keepIn K (.ref f) = true ∧ Binds K fd ps [] ∧ FnG P w K mg base k f fd ps sp
theorem pe_hasS {X : Cx} {k : Nat} {ps : List Str} {sp : Sp} {x : Str} {p pos : Pos} {e : Expr} {es : List Expr} {t : TA} (h : HasS X.prog X.w X.K X.mg X.base x k ps sp) (hgd : X.A.guards = some []) (hr : Room k X.A) (hg : Gl X x)
    (ha : PA X (e :: es) t) (hdb : (x == ("__debug__" : Str)) = false := by decide) (he : starEach (e :: es) X.env = (false, eval e X.env) :: starEach es X.env := by rfl) (hpl : (backTo pos (starEach es X.env)).any (·.1) = false := by rfl) :
    PE X (.Call (.Name x p) (e :: es) [] pos) (fun σ H Q => t σ H fun vs H1 => sp vs H1 Q E0) := by
  obtain ⟨f, fd, h1, h2, h3, h4⟩ := h
  exact pe_callg h4 hgd hr hg h1 h2 h3 ha hdb he hpl
theorem spDeckA_ok {K : PySem.W.Frag} (a : Addr) (ns : List Int) (H : Hp) (Q : VK) (hS : SqL K H a (ns.map V.int)) (hl : ns.length ≤ 63)
    (k : ∀ (H' : Hp) (δ : DkS) (p : Addr), Same H H' → IsDk false δ p → δ.at0 H' 0 → (∀ b, b ∈ δ.own → H' b ≠ none) → Q (.ref p) H') : spDeckA K [.ref a] H Q E0 :=
  ⟨a, ns, rfl, hS, hl, fun H' p q s _ _ hat => k H' (dkA p q) p s ⟨q, rfl⟩ hat fun b hb => by
    obtain ⟨cells, h1, h2, _⟩ := hat
    simp only [dkA, List.mem_cons, List.not_mem_nil, or_false] at hb
    rcases hb with rfl | rfl
    · rw [h1]; nofun
    · rw [h2]; nofun⟩
abbrev s_law : Stmt := topS 18
abbrev N_law : List Str := ["script", "deck", "odd", "turn", "pledge", "made", "some", "number", "due"]
theorem sc_law : FnScope N_law ["script"] (defScope s_law) := ⟨rfl, rfl, rfl, by decide +kernel, rfl, by decide +kernel, by decide +kernel⟩
theorem fn_law {f : Addr} {fd : FuncData} (F : Fun K "law" "law" s_law f fd) (B : Bn K mg C) (HD : HasS P w K mg base "_law_deck" 1 ["script"] (spDeckA K)) (H__law_made : Has P w K mg base "_law_made" 5 ["pledge"] (c__law_made C)) (H__law_draw : Has P w K mg base "_law_draw" 1 ["deck", "many"] c__law_draw) (H__law_is_within : Has P w K mg base "_law_is_within" 1 ["value", "low", "high"] c__law_is_within) (H__law_spare : Has P w K mg base "_law_spare" 4 ["made", "number"] (c__law_spare C)) : FnG P w K mg base 6 f fd ["script"] (spLaw K) := by
  refine law_start (N := N_law) (k := 5) (m := 7) (kd := false) (spD0 := spDeckA) F sc_law rfl rfl spDeckA_ok fun cdv A outer s H hgd0 hr => ?_
  have hu := hr.units
  have hu1 : (A.deeper (envOfC "law" (defScope s_law) s.heap.objs.size f cdv)).units + 65 < cLine := by have := hr.un; omega
  have hu0 : (A.deeper (envOfC "law" (defScope s_law) s.heap.objs.size f cdv)).units + 1 < cLine := by have := hr.un; omega
  have hgd : (A.deeper (envOfC "law" (defScope s_law) s.heap.objs.size f cdv)).guards = some [] := hgd0
  refine ⟨ps_set (i := 1) sc_law.nd rfl (Or.inl rfl) (pe_hasS HD hgd (hr.mono (by decide)) (by rfl) (pa_cons (pv 0) pa_nil)), fun Y => ⟨_, (dss_cons (ds_set (i := 2) sc_law.nd rfl (Or.inl rfl) (xe_d (we_ofM (me_lst (wa_cons we_non (wa_cons we_bl (wa_cons we_bl (wa_cons (we_neg we_int) (wa_cons we_int (wa_cons (we_bin op_pow bi_I we_int we_int) (wa_cons we_str (wa_cons we_str (wa_cons (we_tup wa_nil) (wa_cons (we_ofM (me_lst wa_nil)) (wa_cons we_dict0 (wa_cons (we_tup (wa_cons we_int wa_nil)) wa_nil)))))))))))))))) (dss_cons (ds_for PassesOwn.never rfl (di_range1 (by rfl) B.range (wa_cons we_int wa_nil)) ⟨(pg_name (i := 3) sc_law.nd rfl (Or.inl rfl)), gok_name⟩ (dss_cons (ds_set (i := 4) sc_law.nd rfl (Or.inl rfl) (xe_d (we_ix (we_ofM (me_lst (wa_cons we_int (wa_cons we_int (wa_cons (we_has H__law_draw hgd (hr.mono (by decide)) (by rfl) (wa_cons (we_var 1) (wa_cons we_int wa_nil))) (wa_cons (we_ix (we_var 2) (we_has H__law_draw hgd (hr.mono (by decide)) (by rfl) (wa_cons (we_var 1) (wa_cons we_int wa_nil))) (fun _ _ => rfl)) wa_nil)))))) (we_has H__law_draw hgd (hr.mono (by decide)) (by rfl) (wa_cons (we_var 1) (wa_cons we_int wa_nil))) (fun _ _ => rfl)))) (dss_cons (ds_set (i := 5) sc_law.nd rfl (Or.inl rfl) (xe_d (we_has H__law_made hgd (hr.mono (by decide)) (by rfl) (wa_cons (we_var 4) wa_nil)))) (dss_one (ds_if (wt_not (wt_val (we_has H__law_is_within hgd (hr.mono (by decide)) (by rfl) (wa_cons (we_var 4) (wa_cons we_int (wa_cons we_int wa_nil)))))) (dss_one (ds_if (wt_w (ww_or (wt_not (wt_val (we_is (by rfl) B.isinstance (we_var 5) (pe_bltn (v := .ty "list") (by rfl) B.list PyProof.Rows.boot_list rfl) (.ty _)))) (ww_or1 (wt_cmp (or_neA hu) bi_neA (we_var 5) (we_ofM (me_lst (wa_cons we_str (wa_cons (we_callB (call_reprE hgd hu) ck_reprE (by rfl) B.repr PyProof.Rows.boot_repr (wa_cons (we_var 4) wa_nil)) wa_nil)))) (nomark _))))) (dss_one (ds_ret we_bl)) dss_nil)) (dss_one (ds_if (wt_val (we_is (by rfl) B.isinstance (we_var 5) (pe_bltn (v := .ty "list") (by rfl) B.list PyProof.Rows.boot_list rfl) (.ty _))) (dss_one (ds_ret we_bl)) (dss_cons (ds_set (i := 6) sc_law.nd rfl (Or.inl rfl) (xe_d (we_ofM (me_lst (wa_cons we_int (wa_cons we_bl (wa_cons we_int (wa_cons we_bl (wa_cons (we_var 4) (wa_cons (we_callB (call_maxA rfl) ck_max (by rfl) B.max PyProof.Rows.boot_max (wa_cons we_int (wa_cons (we_bin op_sub bi_I0 (we_var 4) we_int) wa_nil))) (wa_cons (we_bin or_addA bi_add (we_var 4) we_int) (wa_cons (we_has H__law_draw hgd (hr.mono (by decide)) (by rfl) (wa_cons (we_var 1) (wa_cons we_int wa_nil))) (wa_cons we_int wa_nil))))))))))))) (dss_one (ds_for PassesOwn.never rfl (di_seq (we_bin or_addA bi_add (we_var 6) (we_ofM (me_lst (wa_cons (we_ix (we_var 2) (we_has H__law_draw hgd (hr.mono (by decide)) (by rfl) (wa_cons (we_var 1) (wa_cons we_int wa_nil))) (fun _ _ => rfl)) (wa_cons (we_ix (we_var 2) (we_has H__law_draw hgd (hr.mono (by decide)) (by rfl) (wa_cons (we_var 1) (wa_cons we_int wa_nil))) (fun _ _ => rfl)) wa_nil)))))) ⟨(pg_name (i := 7) sc_law.nd rfl (Or.inl rfl)), gok_name⟩ (dss_cons (ds_set (i := 8) sc_law.nd rfl (Or.inl rfl) (xe_d (we_ofM (me_lst (wa_cons we_str (wa_cons (we_callB (call_reprE hgd hu) ck_reprE (by rfl) B.repr PyProof.Rows.boot_repr (wa_cons (we_var 7) wa_nil)) wa_nil)))))) (dss_cut (ds_if (wt_val (we_has H__law_is_within hgd (hr.mono (by decide)) (by rfl) (wa_cons (we_var 7) (wa_cons we_int (wa_cons we_int wa_nil))))) (dss_one (ds_set (i := 8) sc_law.nd rfl (Or.inl rfl) (xe_d (we_if (wt_cmp op_ge bi_B0 (we_var 7) (we_var 4) (nomark _)) (we_bin op_sub bi_I0 (we_var 7) (we_var 4)) (we_ofM (me_lst (wa_cons we_str (wa_cons (we_callB (call_reprE hgd hu) ck_reprE (by rfl) B.repr PyProof.Rows.boot_repr (wa_cons (we_var 7) wa_nil)) wa_nil)))))))) dss_nil) (dss_one (ds_if (wt_w (ww_or (wt_cmp (or_neA hu) bi_neA (we_callB (call_reprE hgd hu) ck_reprE (by rfl) B.repr PyProof.Rows.boot_repr (wa_cons (we_has H__law_spare hgd (hr.mono (by decide)) (by rfl) (wa_cons (we_var 5) (wa_cons (we_var 7) wa_nil))) wa_nil)) (we_callB (call_reprE hgd hu) ck_reprE (by rfl) B.repr PyProof.Rows.boot_repr (wa_cons (we_var 8) wa_nil)) (nomark _)) (ww_or1 (wt_cmp (or_neA hu) bi_neA (we_callB (call_reprE hgd hu) ck_reprE (by rfl) B.repr PyProof.Rows.boot_repr (wa_cons (we_fld (we_var 5)) wa_nil)) (we_callB (call_reprE hgd hu) ck_reprE (by rfl) B.repr PyProof.Rows.boot_repr (wa_cons (we_var 4) wa_nil)) (nomark _))))) (dss_one (ds_ret we_bl)) dss_nil)))))))))))))) (dss_one (ds_ret we_bl)))), ?_⟩⟩
  refine ⟨⟨by decide, by decide, by decide⟩, Nat.zero_le _, Nat.zero_le _, by show 1 ≤ sizeLine; decide, by show 12 ≤ sizeLine; decide, ?_⟩
  refine ⟨6, rfl, by decide, by decide, forR_inv (fun k ρ n => n.n ≤ k * 6 ∧ ∃ a3 a4 a5 a6 a7 a8, ρ = [none, some (.deck false), some (.dat (.list odd46)), a3, a4, a5, a6, a7, a8])
    ⟨Nat.zero_le _, none, none, none, none, none, none, rfl⟩ ?_ ?_⟩
  · rintro k x ρ n hx ⟨hn, a3, a4, a5, a6, a7, a8, rfl⟩
    obtain ⟨rfl, hk⟩ := rngD_mem hx
    have hk : k < 6 := hk
    refine ⟨_, rfl, rfl, 1001, rfl, by decide, by decide, by omega, fun r1 h10 h11 => ?_⟩
    refine ⟨_, rfl, _, rfl, rfl, 12, rfl, by decide, by decide, by show n.n + 1 ≤ _; omega, fun r2 h20 h21 => ?_⟩
    obtain ⟨d2, hd2, pl2⟩ := odd_at h20 h21
    refine ⟨_, _, rfl, hd2, by show 4 ≤ sizeLine; decide, ?_⟩
    refine ⟨_, rfl, rfl, 4, rfl, by decide, by decide, by show n.n + 1 + 1 ≤ _; omega, fun r3 h30 h31 => ?_⟩
    obtain ⟨d, hd, pl⟩ : ∃ d, atI [.int 0, .int 1000, .int r1, d2] r3 = some d ∧ PL d := by
      have h : r3 = 0 ∨ r3 = 1 ∨ r3 = 2 ∨ r3 = 3 := by omega
      rcases h with rfl | rfl | rfl | rfl
      · exact ⟨_, rfl, .int (by decide) (by decide)⟩
      · exact ⟨_, rfl, .int (by decide) (by decide)⟩
      · exact ⟨_, rfl, .int (by omega) (by omega)⟩
      · exact ⟨_, rfl, pl2⟩
    refine ⟨_, _, rfl, hd, ?_⟩
    have hn3 : (n + 1 + 1 + 1).n ≤ k * 6 + 3 := by show n.n + 1 + 1 + 1 ≤ _; omega
    generalize n + 1 + 1 + 1 = n3 at hn3 ⊢
    refine ⟨_, rfl, rfl, d, rfl, pl.nr, pl.tm, fun h x hx => ?_, fun h n' hn' => ?_⟩
    · refine ⟨_, rfl, rfl, d, 0, 1000, rfl, pl.nr, _, rfl, ifN h ?_⟩
      obtain ⟨z, rfl, hz0, hz1⟩ := numIn_true h
      refine ⟨_, rfl, _, _, .inr ⟨x, _, rfl, Wo.put_at, B.i_Pledge, rfl⟩, B.k_Pledge_list, _, rfl, iteF ?_⟩
      refine ⟨_, rfl, _, rfl, _, rfl, _, rfl, rfl, 1001, rfl, by decide, by decide, by show n3.n ≤ _; omega, fun r4 h40 h41 => ?_⟩
      refine ⟨by show 9 ≤ sizeLine; decide, ?_⟩
      refine ⟨_, rfl, _, rfl, _, rfl, rfl, 12, rfl, by decide, by decide, by show n3.n + 1 ≤ _; omega, fun r5 h50 h51 => ?_⟩
      obtain ⟨d5, hd5, pl5⟩ := odd_at h50 h51
      refine ⟨_, _, rfl, hd5, _, rfl, _, rfl, rfl, 12, rfl, by decide, by decide, by show n3.n + 1 + 1 ≤ _; omega, fun r6 h60 h61 => ?_⟩
      obtain ⟨d6, hd6, pl6⟩ := odd_at h60 h61
      refine ⟨_, _, rfl, hd6, by show 2 ≤ sizeLine; decide, by show 9 + 2 ≤ sizeLine; decide, _, rfl, ?_⟩
      have hob : (n3.put x ⟨C.Pledge, [("pledge", PyData.int z)]⟩ + 1 + 1 + 1).ob x = some ⟨C.Pledge, [("pledge", .int z)]⟩ := Wo.put_at
      have hn6 : (n3.put x ⟨C.Pledge, [("pledge", PyData.int z)]⟩ + 1 + 1 + 1).n ≤ k * 6 + 6 := by show n3.n + 1 + 1 + 1 ≤ _; omega
      generalize n3.put x ⟨C.Pledge, [("pledge", PyData.int z)]⟩ + 1 + 1 + 1 = n6 at hob hn6 ⊢
      refine forR_inv (fun k2 ρ n => n.n ≤ k * 6 + 6 ∧ n.ob x = some ⟨C.Pledge, [("pledge", .int z)]⟩ ∧ ∃ a3 a6 a7 a8, ρ = [none, some (.deck false), some (.dat (.list odd46)), a3, some (.dat (.int z)), some (.dat (refD x)), a6, a7, a8])
        ⟨hn6, hob, _, _, _, _, rfl⟩ ?_ ?_
      · rintro k2 y ρ n2 hy ⟨hn2, hob2, a3', a6', a7', a8', rfl⟩
        have ply : PL y := by
          have hm := List.mem_of_getElem? hy
          simp only [List.nil_append, List.cons_append] at hm
          simp only [List.mem_cons, List.not_mem_nil, or_false] at hm
          rcases hm with rfl | rfl | rfl | rfl | rfl | rfl | rfl | rfl | rfl | rfl | rfl
          all_goals first | exact .int (by decide) (by decide) | exact pl5 | exact pl6 | exact .of (by decide +kernel) | exact .int (by omega) (by omega) | exact .int (by split <;> omega) (by split <;> omega)
        refine ⟨_, rfl, _, rfl, rfl, ply.tm.mono (by decide) (by decide), by show 2 ≤ sizeLine; decide, ?_⟩
        refine ⟨fun ρ n => n = n2 ∧ ρ = [none, some (.deck false), some (.dat (.list odd46)), a3', some (.dat (.int z)), some (.dat (refD x)), a6', some (.dat y), some (.dat (spareD y z))], ?_, ?_⟩
        · refine ⟨_, rfl, rfl, y, 0, 1000, rfl, ply.nr, _, rfl, ?_⟩
          cases h : numIn y 0 1000 with
          | false => exact iteF ⟨rfl, by rw [spareD_no h]; rfl⟩
          | true =>
            obtain ⟨i, rfl, hi0, hi1⟩ := numIn_true h
            refine iteT ⟨_, rfl, _, rfl, _, rfl, ?_⟩
            by_cases q : z ≤ i
            · exact iteD q ⟨_, rfl, _, rfl, rfl, by rw [spareD_int hi0 hi1 q]; rfl⟩
            · refine iteDF q ⟨_, rfl, _, rfl, rfl, ply.tm.mono (by decide) (by decide), by show 2 ≤ sizeLine; decide, rfl, ?_⟩
              rw [spareD_few hi0 hi1 (by omega)]
              rfl
        · rintro ρ n ⟨rfl, rfl⟩
          refine ⟨_, rfl, _, rfl, rfl, x, y, z, rfl, ply.nr, ply.tm, hob2, fun n' hs => ?_⟩
          have ts := ply.spare hz0 hz1
          refine ⟨_, rfl, rfl, ts, _, rfl, _, rfl, rfl, ts, _, rfl, ifN (decide_eq_true rfl) ?_⟩
          have tz : TameE 1000000 60 (PyData.int z) := (PL.int (by omega) (by omega)).tm.mono (by decide) (by decide)
          refine ⟨_, rfl, x, _, .int z, rfl, (congrFun hs.ob x).trans hob2, B.fl_Pledge_pledge, rfl, _, rfl, rfl, tz, _, rfl, _, rfl, rfl, tz, _, rfl, ifN (decide_eq_true rfl) ?_⟩
          exact ⟨by rw [hs.nn]; exact hn2, (congrFun hs.ob x).trans hob2, _, _, _, _, rfl⟩
      · rintro ρ n ⟨hn2, hob2, a3', a6', a7', a8', rfl⟩
        exact ⟨by omega, _, _, _, _, _, _, rfl⟩
    · refine ⟨_, rfl, rfl, d, 0, 1000, rfl, pl.nr, _, rfl, ifNF h ?_⟩
      refine ⟨_, rfl, _, _, .inl ⟨rfl, rfl⟩, rfl, _, rfl, iteF ⟨_, rfl, _, rfl, _, rfl, rfl, pl.tm.mono (by decide) (by decide), by show 2 ≤ sizeLine; decide, rfl, rfl, sh_num pl.ok, sh_num pl.ok, _, rfl, ifN ((eqv_words ["number", d.shown] ["number", d.shown]).trans (decide_eq_true rfl)) ?_⟩⟩
      exact ⟨by rw [hn']; show n3.n ≤ _; omega, _, _, _, _, _, _, rfl⟩
  · rintro ρ n ⟨hn, a3, a4, a5, a6, a7, a8, rfl⟩
    exact rfl
end
theorem all_mk {l : PySem.W.OpenLaw} {w : World} {K : PySem.W.Frag} {h : Heap} {mg : Str → Option Value} {fa : Addr} {C : CA} (X : K.In h) (G : h.Ns mainGlobals mg) (hfa : mg "law" = some (.ref fa))
    {f0 : Addr} {od0 an0 : Option Addr} {sl0 : Array (Option Value)} {oc0 kV0 dc0 pm0 cd0 ct0 : Value}
    (a0 : PySem.W.nsIn K mainGlobals "_law_deck" = some (some (.ref f0)))
    (l0 : K.lookup f0 = some ⟨oc0, od0, .func (PySem.W.fnOf "_law_deck" "_law_deck" (defArgs s__law_deck) (defBody s__law_deck) (defScope s__law_deck) .none kV0 dc0 pm0 an0 cd0 ct0), sl0⟩) (c0 : PySem.W.codeIn K cd0 "_law_deck" = true) (k0 : PySem.W.keepIn K (.ref f0) = true)
    {f1 : Addr} {od1 an1 : Option Addr} {sl1 : Array (Option Value)} {oc1 kV1 dc1 pm1 cd1 ct1 : Value}
    (a1 : PySem.W.nsIn K mainGlobals "is_number" = some (some (.ref f1)))
    (l1 : K.lookup f1 = some ⟨oc1, od1, .func (PySem.W.fnOf "is_number" "is_number" (defArgs s_is_number) (defBody s_is_number) (defScope s_is_number) .none kV1 dc1 pm1 an1 cd1 ct1), sl1⟩) (c1 : PySem.W.codeIn K cd1 "is_number" = true) (k1 : PySem.W.keepIn K (.ref f1) = true)
    {f2 : Addr} {od2 an2 : Option Addr} {sl2 : Array (Option Value)} {oc2 kV2 dc2 pm2 cd2 ct2 : Value}
    (a2 : PySem.W.nsIn K mainGlobals "is_number_from" = some (some (.ref f2)))
    (l2 : K.lookup f2 = some ⟨oc2, od2, .func (PySem.W.fnOf "is_number_from" "is_number_from" (defArgs s_is_number_from) (defBody s_is_number_from) (defScope s_is_number_from) .none kV2 dc2 pm2 an2 cd2 ct2), sl2⟩) (c2 : PySem.W.codeIn K cd2 "is_number_from" = true) (k2 : PySem.W.keepIn K (.ref f2) = true)
    {f3 : Addr} {od3 an3 : Option Addr} {sl3 : Array (Option Value)} {oc3 kV3 dc3 pm3 cd3 ct3 : Value}
    (a3 : PySem.W.nsIn K mainGlobals "_law_made" = some (some (.ref f3)))
    (l3 : K.lookup f3 = some ⟨oc3, od3, .func (PySem.W.fnOf "_law_made" "_law_made" (defArgs s__law_made) (defBody s__law_made) (defScope s__law_made) .none kV3 dc3 pm3 an3 cd3 ct3), sl3⟩) (c3 : PySem.W.codeIn K cd3 "_law_made" = true) (k3 : PySem.W.keepIn K (.ref f3) = true)
    {f4 : Addr} {od4 an4 : Option Addr} {sl4 : Array (Option Value)} {oc4 kV4 dc4 pm4 cd4 ct4 : Value}
    (a4 : PySem.W.nsIn K mainGlobals "_law_draw" = some (some (.ref f4)))
    (l4 : K.lookup f4 = some ⟨oc4, od4, .func (PySem.W.fnOf "_law_draw" "_law_draw" (defArgs s__law_draw) (defBody s__law_draw) (defScope s__law_draw) .none kV4 dc4 pm4 an4 cd4 ct4), sl4⟩) (c4 : PySem.W.codeIn K cd4 "_law_draw" = true) (k4 : PySem.W.keepIn K (.ref f4) = true)
    {f5 : Addr} {od5 an5 : Option Addr} {sl5 : Array (Option Value)} {oc5 kV5 dc5 pm5 cd5 ct5 : Value}
    (a5 : PySem.W.nsIn K mainGlobals "_law_is_within" = some (some (.ref f5)))
    (l5 : K.lookup f5 = some ⟨oc5, od5, .func (PySem.W.fnOf "_law_is_within" "_law_is_within" (defArgs s__law_is_within) (defBody s__law_is_within) (defScope s__law_is_within) .none kV5 dc5 pm5 an5 cd5 ct5), sl5⟩) (c5 : PySem.W.codeIn K cd5 "_law_is_within" = true) (k5 : PySem.W.keepIn K (.ref f5) = true)
    {f6 : Addr} {od6 an6 : Option Addr} {sl6 : Array (Option Value)} {oc6 kV6 dc6 pm6 cd6 ct6 : Value}
    (a6 : PySem.W.nsIn K mainGlobals "_law_spare" = some (some (.ref f6)))
    (l6 : K.lookup f6 = some ⟨oc6, od6, .func (PySem.W.fnOf "_law_spare" "_law_spare" (defArgs s__law_spare) (defBody s__law_spare) (defScope s__law_spare) .none kV6 dc6 pm6 an6 cd6 ct6), sl6⟩) (c6 : PySem.W.codeIn K cd6 "_law_spare" = true) (k6 : PySem.W.keepIn K (.ref f6) = true)
    {f7 : Addr} {od7 an7 : Option Addr} {sl7 : Array (Option Value)} {oc7 kV7 dc7 pm7 cd7 ct7 : Value}
    (a7 : PySem.W.nsIn K mainGlobals "law" = some (some (.ref f7)))
    (l7 : K.lookup f7 = some ⟨oc7, od7, .func (PySem.W.fnOf "law" "law" (defArgs s_law) (defBody s_law) (defScope s_law) .none kV7 dc7 pm7 an7 cd7 ct7), sl7⟩) (c7 : PySem.W.codeIn K cd7 "law" = true) (k7 : PySem.W.keepIn K (.ref f7) = true)
    {f8 : Addr} {od8 an8 : Option Addr} {sl8 : Array (Option Value)} {oc8 kV8 dc8 pm8 cd8 ct8 : Value}
    (a8 : PySem.W.findIn K (.ref C.Pledge) "__init__" = some (some (.ref f8))) (fn8 : PySem.W.isFn K (.ref f8) = true)
    (l8 : K.lookup f8 = some ⟨oc8, od8, .func (PySem.W.fnOf "__init__" "Pledge.__init__" (defArgs s_Pledge___init__) (defBody s_Pledge___init__) (defScope s_Pledge___init__) .none kV8 dc8 pm8 an8 cd8 ct8), sl8⟩) (c8 : PySem.W.codeIn K cd8 "Pledge.__init__" = true) (k8 : PySem.W.keepIn K (.ref f8) = true)
    {f9 : Addr} {od9 an9 : Option Addr} {sl9 : Array (Option Value)} {oc9 kV9 dc9 pm9 cd9 ct9 : Value}
    (a9 : PySem.W.findIn K (.ref C.Pledge) "spare" = some (some (.ref f9))) (fn9 : PySem.W.isFn K (.ref f9) = true)
    (l9 : K.lookup f9 = some ⟨oc9, od9, .func (PySem.W.fnOf "spare" "Pledge.spare" (defArgs s_Pledge_spare) (defBody s_Pledge_spare) (defScope s_Pledge_spare) .none kV9 dc9 pm9 an9 cd9 ct9), sl9⟩) (c9 : PySem.W.codeIn K cd9 "Pledge.spare" = true) (k9 : PySem.W.keepIn K (.ref f9) = true)
    {f10 : Addr} {od10 an10 : Option Addr} {sl10 : Array (Option Value)} {oc10 kV10 dc10 pm10 cd10 ct10 : Value}
    (a10 : PySem.W.findIn K (.ref C.BadNumber) "__init__" = some (some (.ref f10))) (tI10 : PySem.W.typeIn K (.ref f10) = some (.type "function"))
    (l10 : K.lookup f10 = some ⟨oc10, od10, .func (PySem.W.fnOf "__init__" "BadNumber.__init__" (defArgs s_BadNumber_init) (defBody s_BadNumber_init) (defScope s_BadNumber_init) .none kV10 dc10 pm10 an10 cd10 ct10), sl10⟩) (c10 : PySem.W.codeIn K cd10 "BadNumber.__init__" = true) (k10 : PySem.W.keepIn K (.ref f10) = true)
    {f11 : Addr} {od11 an11 : Option Addr} {sl11 : Array (Option Value)} {oc11 kV11 dc11 pm11 cd11 ct11 : Value}
    (a11 : PySem.W.findIn K (.ref C.TooFewServed) "__init__" = some (some (.ref f11))) (tI11 : PySem.W.typeIn K (.ref f11) = some (.type "function"))
    (l11 : K.lookup f11 = some ⟨oc11, od11, .func (PySem.W.fnOf "__init__" "TooFewServed.__init__" (defArgs s_TooFewServed_init) (defBody s_TooFewServed_init) (defScope s_TooFewServed_init) .none kV11 dc11 pm11 an11 cd11 ct11), sl11⟩) (c11 : PySem.W.codeIn K cd11 "TooFewServed.__init__" = true) (k11 : PySem.W.keepIn K (.ref f11) = true)
    (z_ValueError : PySem.W.nsIn K mainGlobals "ValueError" = some none)
    (z_abs : PySem.W.nsIn K mainGlobals "abs" = some none)
    (z_bool : PySem.W.nsIn K mainGlobals "bool" = some none)
    (z_int : PySem.W.nsIn K mainGlobals "int" = some none)
    (z_isinstance : PySem.W.nsIn K mainGlobals "isinstance" = some none)
    (z_len : PySem.W.nsIn K mainGlobals "len" = some none)
    (z_list : PySem.W.nsIn K mainGlobals "list" = some none)
    (z_max : PySem.W.nsIn K mainGlobals "max" = some none)
    (z_range : PySem.W.nsIn K mainGlobals "range" = some none)
    (z_repr : PySem.W.nsIn K mainGlobals "repr" = some none)
    {t_LIMIT : Tok} (y_LIMIT : PySem.W.nsIn K mainGlobals "LIMIT" = some (some (.int (1000) t_LIMIT)))
    (h_cg : PySem.W.specialIn K (.builtin "object.__class__") "__get__" = some (some (.builtin "getset_descriptor.__get__")))
    (h_ct : PySem.W.takesIn K (.builtin "object.__class__") = some true)
    (h_a_PartyError : PySem.W.nsIn K mainGlobals "PartyError" = some (some (.ref C.PartyError)))
    (h_cl_PartyError : PySem.W.isClsIn K C.PartyError = true)
    (h_ty_PartyError : PySem.W.typeIn K (.ref C.PartyError) = some (.type "type"))
    (h_k_PartyError : PySem.W.keepIn K (.ref C.PartyError) = true)
    (h_hd_PartyError : PySem.W.hasDictIn K C.PartyError = true)
    (h_ca_PartyError : PySem.W.findIn K (.ref C.PartyError) "__class__" = some (some (.builtin "object.__class__")))
    (h_mo_PartyError : PySem.W.mroIn K C.PartyError (.type "object") = some true)
    (h_sa_PartyError : PySem.W.findIn K (.ref C.PartyError) "__setattr__" = some (some (.builtin "object.__setattr__")))
    (h_s_PartyError_PartyError : PySem.W.subIn K (.ref C.PartyError) (.ref C.PartyError) = some true)
    (h_s_PartyError_BadFoot : PySem.W.subIn K (.ref C.PartyError) (.ref C.BadFoot) = some false)
    (h_s_PartyError_BadSize : PySem.W.subIn K (.ref C.PartyError) (.ref C.BadSize) = some false)
    (h_s_PartyError_BadNumber : PySem.W.subIn K (.ref C.PartyError) (.ref C.BadNumber) = some false)
    (h_s_PartyError_TooFewServed : PySem.W.subIn K (.ref C.PartyError) (.ref C.TooFewServed) = some false)
    (h_s_PartyError_Pledge : PySem.W.subIn K (.ref C.PartyError) (.ref C.Pledge) = some false)
    (h_s_PartyError_ValueError : PySem.W.subIn K (.ref C.PartyError) (.type "ValueError") = some true)
    (h_s_PartyError_LookupError : PySem.W.subIn K (.ref C.PartyError) (.type "LookupError") = some false)
    (h_s_PartyError_list : PySem.W.subIn K (.ref C.PartyError) (.type "list") = some false)
    (h_s_PartyError_tuple : PySem.W.subIn K (.ref C.PartyError) (.type "tuple") = some false)
    (h_s_PartyError_int : PySem.W.subIn K (.ref C.PartyError) (.type "int") = some false)
    (h_s_PartyError_str : PySem.W.subIn K (.ref C.PartyError) (.type "str") = some false)
    (h_s_PartyError_bool : PySem.W.subIn K (.ref C.PartyError) (.type "bool") = some false)
    (h_a_BadFoot : PySem.W.nsIn K mainGlobals "BadFoot" = some (some (.ref C.BadFoot)))
    (h_cl_BadFoot : PySem.W.isClsIn K C.BadFoot = true)
    (h_ty_BadFoot : PySem.W.typeIn K (.ref C.BadFoot) = some (.type "type"))
    (h_k_BadFoot : PySem.W.keepIn K (.ref C.BadFoot) = true)
    (h_hd_BadFoot : PySem.W.hasDictIn K C.BadFoot = true)
    (h_ca_BadFoot : PySem.W.findIn K (.ref C.BadFoot) "__class__" = some (some (.builtin "object.__class__")))
    (h_mo_BadFoot : PySem.W.mroIn K C.BadFoot (.type "object") = some true)
    (h_sa_BadFoot : PySem.W.findIn K (.ref C.BadFoot) "__setattr__" = some (some (.builtin "object.__setattr__")))
    (h_s_BadFoot_PartyError : PySem.W.subIn K (.ref C.BadFoot) (.ref C.PartyError) = some true)
    (h_s_BadFoot_BadFoot : PySem.W.subIn K (.ref C.BadFoot) (.ref C.BadFoot) = some true)
    (h_s_BadFoot_BadSize : PySem.W.subIn K (.ref C.BadFoot) (.ref C.BadSize) = some false)
    (h_s_BadFoot_BadNumber : PySem.W.subIn K (.ref C.BadFoot) (.ref C.BadNumber) = some false)
    (h_s_BadFoot_TooFewServed : PySem.W.subIn K (.ref C.BadFoot) (.ref C.TooFewServed) = some false)
    (h_s_BadFoot_Pledge : PySem.W.subIn K (.ref C.BadFoot) (.ref C.Pledge) = some false)
    (h_s_BadFoot_ValueError : PySem.W.subIn K (.ref C.BadFoot) (.type "ValueError") = some true)
    (h_s_BadFoot_LookupError : PySem.W.subIn K (.ref C.BadFoot) (.type "LookupError") = some false)
    (h_s_BadFoot_list : PySem.W.subIn K (.ref C.BadFoot) (.type "list") = some false)
    (h_s_BadFoot_tuple : PySem.W.subIn K (.ref C.BadFoot) (.type "tuple") = some false)
    (h_s_BadFoot_int : PySem.W.subIn K (.ref C.BadFoot) (.type "int") = some false)
    (h_s_BadFoot_str : PySem.W.subIn K (.ref C.BadFoot) (.type "str") = some false)
    (h_s_BadFoot_bool : PySem.W.subIn K (.ref C.BadFoot) (.type "bool") = some false)
    (h_a_BadSize : PySem.W.nsIn K mainGlobals "BadSize" = some (some (.ref C.BadSize)))
    (h_cl_BadSize : PySem.W.isClsIn K C.BadSize = true)
    (h_ty_BadSize : PySem.W.typeIn K (.ref C.BadSize) = some (.type "type"))
    (h_k_BadSize : PySem.W.keepIn K (.ref C.BadSize) = true)
    (h_hd_BadSize : PySem.W.hasDictIn K C.BadSize = true)
    (h_ca_BadSize : PySem.W.findIn K (.ref C.BadSize) "__class__" = some (some (.builtin "object.__class__")))
    (h_mo_BadSize : PySem.W.mroIn K C.BadSize (.type "object") = some true)
    (h_sa_BadSize : PySem.W.findIn K (.ref C.BadSize) "__setattr__" = some (some (.builtin "object.__setattr__")))
    (h_s_BadSize_PartyError : PySem.W.subIn K (.ref C.BadSize) (.ref C.PartyError) = some true)
    (h_s_BadSize_BadFoot : PySem.W.subIn K (.ref C.BadSize) (.ref C.BadFoot) = some false)
    (h_s_BadSize_BadSize : PySem.W.subIn K (.ref C.BadSize) (.ref C.BadSize) = some true)
    (h_s_BadSize_BadNumber : PySem.W.subIn K (.ref C.BadSize) (.ref C.BadNumber) = some false)
    (h_s_BadSize_TooFewServed : PySem.W.subIn K (.ref C.BadSize) (.ref C.TooFewServed) = some false)
    (h_s_BadSize_Pledge : PySem.W.subIn K (.ref C.BadSize) (.ref C.Pledge) = some false)
    (h_s_BadSize_ValueError : PySem.W.subIn K (.ref C.BadSize) (.type "ValueError") = some true)
    (h_s_BadSize_LookupError : PySem.W.subIn K (.ref C.BadSize) (.type "LookupError") = some false)
    (h_s_BadSize_list : PySem.W.subIn K (.ref C.BadSize) (.type "list") = some false)
    (h_s_BadSize_tuple : PySem.W.subIn K (.ref C.BadSize) (.type "tuple") = some false)
    (h_s_BadSize_int : PySem.W.subIn K (.ref C.BadSize) (.type "int") = some false)
    (h_s_BadSize_str : PySem.W.subIn K (.ref C.BadSize) (.type "str") = some false)
    (h_s_BadSize_bool : PySem.W.subIn K (.ref C.BadSize) (.type "bool") = some false)
    (h_a_BadNumber : PySem.W.nsIn K mainGlobals "BadNumber" = some (some (.ref C.BadNumber)))
    (h_cl_BadNumber : PySem.W.isClsIn K C.BadNumber = true)
    (h_ty_BadNumber : PySem.W.typeIn K (.ref C.BadNumber) = some (.type "type"))
    (h_k_BadNumber : PySem.W.keepIn K (.ref C.BadNumber) = true)
    (h_hd_BadNumber : PySem.W.hasDictIn K C.BadNumber = true)
    (h_ca_BadNumber : PySem.W.findIn K (.ref C.BadNumber) "__class__" = some (some (.builtin "object.__class__")))
    (h_mo_BadNumber : PySem.W.mroIn K C.BadNumber (.type "object") = some true)
    (h_sa_BadNumber : PySem.W.findIn K (.ref C.BadNumber) "__setattr__" = some (some (.builtin "object.__setattr__")))
    (h_s_BadNumber_PartyError : PySem.W.subIn K (.ref C.BadNumber) (.ref C.PartyError) = some true)
    (h_s_BadNumber_BadFoot : PySem.W.subIn K (.ref C.BadNumber) (.ref C.BadFoot) = some false)
    (h_s_BadNumber_BadSize : PySem.W.subIn K (.ref C.BadNumber) (.ref C.BadSize) = some false)
    (h_s_BadNumber_BadNumber : PySem.W.subIn K (.ref C.BadNumber) (.ref C.BadNumber) = some true)
    (h_s_BadNumber_TooFewServed : PySem.W.subIn K (.ref C.BadNumber) (.ref C.TooFewServed) = some false)
    (h_s_BadNumber_Pledge : PySem.W.subIn K (.ref C.BadNumber) (.ref C.Pledge) = some false)
    (h_s_BadNumber_ValueError : PySem.W.subIn K (.ref C.BadNumber) (.type "ValueError") = some true)
    (h_s_BadNumber_LookupError : PySem.W.subIn K (.ref C.BadNumber) (.type "LookupError") = some false)
    (h_s_BadNumber_list : PySem.W.subIn K (.ref C.BadNumber) (.type "list") = some false)
    (h_s_BadNumber_tuple : PySem.W.subIn K (.ref C.BadNumber) (.type "tuple") = some false)
    (h_s_BadNumber_int : PySem.W.subIn K (.ref C.BadNumber) (.type "int") = some false)
    (h_s_BadNumber_str : PySem.W.subIn K (.ref C.BadNumber) (.type "str") = some false)
    (h_s_BadNumber_bool : PySem.W.subIn K (.ref C.BadNumber) (.type "bool") = some false)
    (h_a_TooFewServed : PySem.W.nsIn K mainGlobals "TooFewServed" = some (some (.ref C.TooFewServed)))
    (h_cl_TooFewServed : PySem.W.isClsIn K C.TooFewServed = true)
    (h_ty_TooFewServed : PySem.W.typeIn K (.ref C.TooFewServed) = some (.type "type"))
    (h_k_TooFewServed : PySem.W.keepIn K (.ref C.TooFewServed) = true)
    (h_hd_TooFewServed : PySem.W.hasDictIn K C.TooFewServed = true)
    (h_ca_TooFewServed : PySem.W.findIn K (.ref C.TooFewServed) "__class__" = some (some (.builtin "object.__class__")))
    (h_mo_TooFewServed : PySem.W.mroIn K C.TooFewServed (.type "object") = some true)
    (h_sa_TooFewServed : PySem.W.findIn K (.ref C.TooFewServed) "__setattr__" = some (some (.builtin "object.__setattr__")))
    (h_s_TooFewServed_PartyError : PySem.W.subIn K (.ref C.TooFewServed) (.ref C.PartyError) = some true)
    (h_s_TooFewServed_BadFoot : PySem.W.subIn K (.ref C.TooFewServed) (.ref C.BadFoot) = some false)
    (h_s_TooFewServed_BadSize : PySem.W.subIn K (.ref C.TooFewServed) (.ref C.BadSize) = some false)
    (h_s_TooFewServed_BadNumber : PySem.W.subIn K (.ref C.TooFewServed) (.ref C.BadNumber) = some false)
    (h_s_TooFewServed_TooFewServed : PySem.W.subIn K (.ref C.TooFewServed) (.ref C.TooFewServed) = some true)
    (h_s_TooFewServed_Pledge : PySem.W.subIn K (.ref C.TooFewServed) (.ref C.Pledge) = some false)
    (h_s_TooFewServed_ValueError : PySem.W.subIn K (.ref C.TooFewServed) (.type "ValueError") = some true)
    (h_s_TooFewServed_LookupError : PySem.W.subIn K (.ref C.TooFewServed) (.type "LookupError") = some false)
    (h_s_TooFewServed_list : PySem.W.subIn K (.ref C.TooFewServed) (.type "list") = some false)
    (h_s_TooFewServed_tuple : PySem.W.subIn K (.ref C.TooFewServed) (.type "tuple") = some false)
    (h_s_TooFewServed_int : PySem.W.subIn K (.ref C.TooFewServed) (.type "int") = some false)
    (h_s_TooFewServed_str : PySem.W.subIn K (.ref C.TooFewServed) (.type "str") = some false)
    (h_s_TooFewServed_bool : PySem.W.subIn K (.ref C.TooFewServed) (.type "bool") = some false)
    (h_a_Pledge : PySem.W.nsIn K mainGlobals "Pledge" = some (some (.ref C.Pledge)))
    (h_cl_Pledge : PySem.W.isClsIn K C.Pledge = true)
    (h_ty_Pledge : PySem.W.typeIn K (.ref C.Pledge) = some (.type "type"))
    (h_k_Pledge : PySem.W.keepIn K (.ref C.Pledge) = true)
    (h_hd_Pledge : PySem.W.hasDictIn K C.Pledge = true)
    (h_ca_Pledge : PySem.W.findIn K (.ref C.Pledge) "__class__" = some (some (.builtin "object.__class__")))
    (h_mo_Pledge : PySem.W.mroIn K C.Pledge (.type "object") = some true)
    (h_sa_Pledge : PySem.W.findIn K (.ref C.Pledge) "__setattr__" = some (some (.builtin "object.__setattr__")))
    (h_s_Pledge_PartyError : PySem.W.subIn K (.ref C.Pledge) (.ref C.PartyError) = some false)
    (h_s_Pledge_BadFoot : PySem.W.subIn K (.ref C.Pledge) (.ref C.BadFoot) = some false)
    (h_s_Pledge_BadSize : PySem.W.subIn K (.ref C.Pledge) (.ref C.BadSize) = some false)
    (h_s_Pledge_BadNumber : PySem.W.subIn K (.ref C.Pledge) (.ref C.BadNumber) = some false)
    (h_s_Pledge_TooFewServed : PySem.W.subIn K (.ref C.Pledge) (.ref C.TooFewServed) = some false)
    (h_s_Pledge_Pledge : PySem.W.subIn K (.ref C.Pledge) (.ref C.Pledge) = some true)
    (h_s_Pledge_ValueError : PySem.W.subIn K (.ref C.Pledge) (.type "ValueError") = some false)
    (h_s_Pledge_LookupError : PySem.W.subIn K (.ref C.Pledge) (.type "LookupError") = some false)
    (h_s_Pledge_list : PySem.W.subIn K (.ref C.Pledge) (.type "list") = some false)
    (h_s_Pledge_tuple : PySem.W.subIn K (.ref C.Pledge) (.type "tuple") = some false)
    (h_s_Pledge_int : PySem.W.subIn K (.ref C.Pledge) (.type "int") = some false)
    (h_s_Pledge_str : PySem.W.subIn K (.ref C.Pledge) (.type "str") = some false)
    (h_s_Pledge_bool : PySem.W.subIn K (.ref C.Pledge) (.type "bool") = some false)
    (h_q_NoneType_Pledge : PySem.W.subIn K (.type "NoneType") (.ref C.Pledge) = some false)
    (h_q_bool_Pledge : PySem.W.subIn K (.type "bool") (.ref C.Pledge) = some false)
    (h_q_int_Pledge : PySem.W.subIn K (.type "int") (.ref C.Pledge) = some false)
    (h_q_str_Pledge : PySem.W.subIn K (.type "str") (.ref C.Pledge) = some false)
    (h_q_list_Pledge : PySem.W.subIn K (.type "list") (.ref C.Pledge) = some false)
    (h_q_tuple_Pledge : PySem.W.subIn K (.type "tuple") (.ref C.Pledge) = some false)
    (h_q_dict_Pledge : PySem.W.subIn K (.type "dict") (.ref C.Pledge) = some false)
    (h_ga_PartyError : PySem.W.findIn K (.ref C.PartyError) "__getattribute__" = some (some (.builtin "BaseException.__getattribute__")))
    (h_gt_PartyError : PySem.W.findIn K (.ref C.PartyError) "__getattr__" = some none)
    (h_sb_PartyError : PySem.W.subIn K (.ref C.PartyError) (.type "BaseException") = some true)
    (h_ga_BadFoot : PySem.W.findIn K (.ref C.BadFoot) "__getattribute__" = some (some (.builtin "BaseException.__getattribute__")))
    (h_gt_BadFoot : PySem.W.findIn K (.ref C.BadFoot) "__getattr__" = some none)
    (h_sb_BadFoot : PySem.W.subIn K (.ref C.BadFoot) (.type "BaseException") = some true)
    (h_n_BadFoot : PySem.W.findIn K (.ref C.BadFoot) "value" = some none)
    (h_ga_BadSize : PySem.W.findIn K (.ref C.BadSize) "__getattribute__" = some (some (.builtin "BaseException.__getattribute__")))
    (h_gt_BadSize : PySem.W.findIn K (.ref C.BadSize) "__getattr__" = some none)
    (h_sb_BadSize : PySem.W.subIn K (.ref C.BadSize) (.type "BaseException") = some true)
    (h_n_BadSize : PySem.W.findIn K (.ref C.BadSize) "value" = some none)
    (h_ga_BadNumber : PySem.W.findIn K (.ref C.BadNumber) "__getattribute__" = some (some (.builtin "BaseException.__getattribute__")))
    (h_gt_BadNumber : PySem.W.findIn K (.ref C.BadNumber) "__getattr__" = some none)
    (h_sb_BadNumber : PySem.W.subIn K (.ref C.BadNumber) (.type "BaseException") = some true)
    (h_n_BadNumber : PySem.W.findIn K (.ref C.BadNumber) "value" = some none)
    (h_ga_TooFewServed : PySem.W.findIn K (.ref C.TooFewServed) "__getattribute__" = some (some (.builtin "BaseException.__getattribute__")))
    (h_gt_TooFewServed : PySem.W.findIn K (.ref C.TooFewServed) "__getattr__" = some none)
    (h_sb_TooFewServed : PySem.W.subIn K (.ref C.TooFewServed) (.type "BaseException") = some true)
    (h_n_TooFewServed : PySem.W.findIn K (.ref C.TooFewServed) "number" = some none)
    (h_pg_Pledge : PySem.W.plainGet K C.Pledge Str.empty = true)
    (h_po_Pledge : PySem.W.plainOver K C.Pledge = true)
    (h_mk_Pledge : PySem.W.makesIn K C.Pledge = true)
    (h_f_Pledge_pledge : PySem.W.findIn K (.ref C.Pledge) "pledge" = some none)
    {nm_BadNumber q_BadNumber : Str} {N_BadNumber : Addr} {bs_BadNumber bm_BadNumber : List Value} {sn_BadNumber : List Str} {sub_BadNumber : List Value} {ab_BadNumber : Bool} {col_BadNumber : Option Bool} {dd_BadNumber : Option Addr} {m0_BadNumber m1_BadNumber m2_BadNumber m3_BadNumber m5_BadNumber : Option Value}
    (xL_BadNumber : K.lookup C.BadNumber = some (excClassObj nm_BadNumber q_BadNumber C.BadNumber N_BadNumber bs_BadNumber bm_BadNumber true sn_BadNumber sub_BadNumber ab_BadNumber col_BadNumber dd_BadNumber m0_BadNumber m1_BadNumber m2_BadNumber m3_BadNumber m5_BadNumber "ValueError.__new__")) (xr_BadNumber : PySem.HandSPX.refsVE bm_BadNumber = true)
    {nm_TooFewServed q_TooFewServed : Str} {N_TooFewServed : Addr} {bs_TooFewServed bm_TooFewServed : List Value} {sn_TooFewServed : List Str} {sub_TooFewServed : List Value} {ab_TooFewServed : Bool} {col_TooFewServed : Option Bool} {dd_TooFewServed : Option Addr} {m0_TooFewServed m1_TooFewServed m2_TooFewServed m3_TooFewServed m5_TooFewServed : Option Value}
    (xL_TooFewServed : K.lookup C.TooFewServed = some (excClassObj nm_TooFewServed q_TooFewServed C.TooFewServed N_TooFewServed bs_TooFewServed bm_TooFewServed true sn_TooFewServed sub_TooFewServed ab_TooFewServed col_TooFewServed dd_TooFewServed m0_TooFewServed m1_TooFewServed m2_TooFewServed m3_TooFewServed m5_TooFewServed "ValueError.__new__")) (xr_TooFewServed : PySem.HandSPX.refsVE bm_TooFewServed = true)
    (e0_PartyError : PySem.W.excIn K C.PartyError [.type "ValueError", .type "Exception", .type "BaseException", .type "object"] "ValueError.__new__" = true)
    : ∃ fd : FuncData, (∀ (s : Shared) (v : Value), BindsTo s fd ⟨[v], []⟩ [("script", v)]) ∧ ∀ base : Heap, K.In base → base.Ns mainGlobals mg → FnG l.prog w K mg base 6 fa fd ["script"] (spLaw K) := by
  have e := hfa.symm.trans (PySem.W.mg_of X G a7)
  cases e
  have B : Bn K mg C := { ValueError := PySem.W.mg_none_of X G z_ValueError, abs := PySem.W.mg_none_of X G z_abs, bool := PySem.W.mg_none_of X G z_bool, int := PySem.W.mg_none_of X G z_int, isinstance := PySem.W.mg_none_of X G z_isinstance, len := PySem.W.mg_none_of X G z_len, list := PySem.W.mg_none_of X G z_list, max := PySem.W.mg_none_of X G z_max, range := PySem.W.mg_none_of X G z_range, repr := PySem.W.mg_none_of X G z_repr, LIMIT := ⟨_, PySem.W.mg_of X G y_LIMIT⟩, g_PartyError := PySem.W.mg_of X G h_a_PartyError, g_BadFoot := PySem.W.mg_of X G h_a_BadFoot, g_BadSize := PySem.W.mg_of X G h_a_BadSize, g_BadNumber := PySem.W.mg_of X G h_a_BadNumber, g_TooFewServed := PySem.W.mg_of X G h_a_TooFewServed, g_Pledge := PySem.W.mg_of X G h_a_Pledge, cg := h_cg, ct := h_ct, cl_PartyError := h_cl_PartyError, ty_PartyError := h_ty_PartyError, k_PartyError := h_k_PartyError, hd_PartyError := h_hd_PartyError, ca_PartyError := h_ca_PartyError, mo_PartyError := h_mo_PartyError, sa_PartyError := h_sa_PartyError, s_PartyError_PartyError := h_s_PartyError_PartyError, s_PartyError_BadFoot := h_s_PartyError_BadFoot, s_PartyError_BadSize := h_s_PartyError_BadSize, s_PartyError_BadNumber := h_s_PartyError_BadNumber, s_PartyError_TooFewServed := h_s_PartyError_TooFewServed, s_PartyError_Pledge := h_s_PartyError_Pledge, s_PartyError_ValueError := h_s_PartyError_ValueError, s_PartyError_LookupError := h_s_PartyError_LookupError, s_PartyError_list := h_s_PartyError_list, s_PartyError_tuple := h_s_PartyError_tuple, s_PartyError_int := h_s_PartyError_int, s_PartyError_str := h_s_PartyError_str, s_PartyError_bool := h_s_PartyError_bool, cl_BadFoot := h_cl_BadFoot, ty_BadFoot := h_ty_BadFoot, k_BadFoot := h_k_BadFoot, hd_BadFoot := h_hd_BadFoot, ca_BadFoot := h_ca_BadFoot, mo_BadFoot := h_mo_BadFoot, sa_BadFoot := h_sa_BadFoot, s_BadFoot_PartyError := h_s_BadFoot_PartyError, s_BadFoot_BadFoot := h_s_BadFoot_BadFoot, s_BadFoot_BadSize := h_s_BadFoot_BadSize, s_BadFoot_BadNumber := h_s_BadFoot_BadNumber, s_BadFoot_TooFewServed := h_s_BadFoot_TooFewServed, s_BadFoot_Pledge := h_s_BadFoot_Pledge, s_BadFoot_ValueError := h_s_BadFoot_ValueError, s_BadFoot_LookupError := h_s_BadFoot_LookupError, s_BadFoot_list := h_s_BadFoot_list, s_BadFoot_tuple := h_s_BadFoot_tuple, s_BadFoot_int := h_s_BadFoot_int, s_BadFoot_str := h_s_BadFoot_str, s_BadFoot_bool := h_s_BadFoot_bool, cl_BadSize := h_cl_BadSize, ty_BadSize := h_ty_BadSize, k_BadSize := h_k_BadSize, hd_BadSize := h_hd_BadSize, ca_BadSize := h_ca_BadSize, mo_BadSize := h_mo_BadSize, sa_BadSize := h_sa_BadSize, s_BadSize_PartyError := h_s_BadSize_PartyError, s_BadSize_BadFoot := h_s_BadSize_BadFoot, s_BadSize_BadSize := h_s_BadSize_BadSize, s_BadSize_BadNumber := h_s_BadSize_BadNumber, s_BadSize_TooFewServed := h_s_BadSize_TooFewServed, s_BadSize_Pledge := h_s_BadSize_Pledge, s_BadSize_ValueError := h_s_BadSize_ValueError, s_BadSize_LookupError := h_s_BadSize_LookupError, s_BadSize_list := h_s_BadSize_list, s_BadSize_tuple := h_s_BadSize_tuple, s_BadSize_int := h_s_BadSize_int, s_BadSize_str := h_s_BadSize_str, s_BadSize_bool := h_s_BadSize_bool, cl_BadNumber := h_cl_BadNumber, ty_BadNumber := h_ty_BadNumber, k_BadNumber := h_k_BadNumber, hd_BadNumber := h_hd_BadNumber, ca_BadNumber := h_ca_BadNumber, mo_BadNumber := h_mo_BadNumber, sa_BadNumber := h_sa_BadNumber, s_BadNumber_PartyError := h_s_BadNumber_PartyError, s_BadNumber_BadFoot := h_s_BadNumber_BadFoot, s_BadNumber_BadSize := h_s_BadNumber_BadSize, s_BadNumber_BadNumber := h_s_BadNumber_BadNumber, s_BadNumber_TooFewServed := h_s_BadNumber_TooFewServed, s_BadNumber_Pledge := h_s_BadNumber_Pledge, s_BadNumber_ValueError := h_s_BadNumber_ValueError, s_BadNumber_LookupError := h_s_BadNumber_LookupError, s_BadNumber_list := h_s_BadNumber_list, s_BadNumber_tuple := h_s_BadNumber_tuple, s_BadNumber_int := h_s_BadNumber_int, s_BadNumber_str := h_s_BadNumber_str, s_BadNumber_bool := h_s_BadNumber_bool, cl_TooFewServed := h_cl_TooFewServed, ty_TooFewServed := h_ty_TooFewServed, k_TooFewServed := h_k_TooFewServed, hd_TooFewServed := h_hd_TooFewServed, ca_TooFewServed := h_ca_TooFewServed, mo_TooFewServed := h_mo_TooFewServed, sa_TooFewServed := h_sa_TooFewServed, s_TooFewServed_PartyError := h_s_TooFewServed_PartyError, s_TooFewServed_BadFoot := h_s_TooFewServed_BadFoot, s_TooFewServed_BadSize := h_s_TooFewServed_BadSize, s_TooFewServed_BadNumber := h_s_TooFewServed_BadNumber, s_TooFewServed_TooFewServed := h_s_TooFewServed_TooFewServed, s_TooFewServed_Pledge := h_s_TooFewServed_Pledge, s_TooFewServed_ValueError := h_s_TooFewServed_ValueError, s_TooFewServed_LookupError := h_s_TooFewServed_LookupError, s_TooFewServed_list := h_s_TooFewServed_list, s_TooFewServed_tuple := h_s_TooFewServed_tuple, s_TooFewServed_int := h_s_TooFewServed_int, s_TooFewServed_str := h_s_TooFewServed_str, s_TooFewServed_bool := h_s_TooFewServed_bool, cl_Pledge := h_cl_Pledge, ty_Pledge := h_ty_Pledge, k_Pledge := h_k_Pledge, hd_Pledge := h_hd_Pledge, ca_Pledge := h_ca_Pledge, mo_Pledge := h_mo_Pledge, sa_Pledge := h_sa_Pledge, s_Pledge_PartyError := h_s_Pledge_PartyError, s_Pledge_BadFoot := h_s_Pledge_BadFoot, s_Pledge_BadSize := h_s_Pledge_BadSize, s_Pledge_BadNumber := h_s_Pledge_BadNumber, s_Pledge_TooFewServed := h_s_Pledge_TooFewServed, s_Pledge_Pledge := h_s_Pledge_Pledge, s_Pledge_ValueError := h_s_Pledge_ValueError, s_Pledge_LookupError := h_s_Pledge_LookupError, s_Pledge_list := h_s_Pledge_list, s_Pledge_tuple := h_s_Pledge_tuple, s_Pledge_int := h_s_Pledge_int, s_Pledge_str := h_s_Pledge_str, s_Pledge_bool := h_s_Pledge_bool, q_NoneType_Pledge := h_q_NoneType_Pledge, q_bool_Pledge := h_q_bool_Pledge, q_int_Pledge := h_q_int_Pledge, q_str_Pledge := h_q_str_Pledge, q_list_Pledge := h_q_list_Pledge, q_tuple_Pledge := h_q_tuple_Pledge, q_dict_Pledge := h_q_dict_Pledge, ga_PartyError := h_ga_PartyError, gt_PartyError := h_gt_PartyError, sb_PartyError := h_sb_PartyError, ga_BadFoot := h_ga_BadFoot, gt_BadFoot := h_gt_BadFoot, sb_BadFoot := h_sb_BadFoot, n_BadFoot := h_n_BadFoot, ga_BadSize := h_ga_BadSize, gt_BadSize := h_gt_BadSize, sb_BadSize := h_sb_BadSize, n_BadSize := h_n_BadSize, ga_BadNumber := h_ga_BadNumber, gt_BadNumber := h_gt_BadNumber, sb_BadNumber := h_sb_BadNumber, n_BadNumber := h_n_BadNumber, ga_TooFewServed := h_ga_TooFewServed, gt_TooFewServed := h_gt_TooFewServed, sb_TooFewServed := h_sb_TooFewServed, n_TooFewServed := h_n_TooFewServed, pg_Pledge := h_pg_Pledge, po_Pledge := h_po_Pledge, mk_Pledge := h_mk_Pledge, f_Pledge_pledge := h_f_Pledge_pledge, e0_PartyError := e0_PartyError }
  have F0 := fun_mk (st := s__law_deck) l0 c0 k0
  have b0 := F0.binds (ps := ["script"]) fun _ _ _ _ _ _ us hl => match us, hl with | [_], _ => rfl
  have F1 := fun_mk (st := s_is_number) l1 c1 k1
  have b1 := F1.binds (ps := ["value"]) fun _ _ _ _ _ _ us hl => match us, hl with | [_], _ => rfl
  have F2 := fun_mk (st := s_is_number_from) l2 c2 k2
  have b2 := F2.binds (ps := ["value", "low", "high"]) fun _ _ _ _ _ _ us hl => match us, hl with | [_, _, _], _ => rfl
  have F3 := fun_mk (st := s__law_made) l3 c3 k3
  have b3 := F3.binds (ps := ["pledge"]) fun _ _ _ _ _ _ us hl => match us, hl with | [_], _ => rfl
  have F4 := fun_mk (st := s__law_draw) l4 c4 k4
  have b4 := F4.binds (ps := ["deck", "many"]) fun _ _ _ _ _ _ us hl => match us, hl with | [_, _], _ => rfl
  have F5 := fun_mk (st := s__law_is_within) l5 c5 k5
  have b5 := F5.binds (ps := ["value", "low", "high"]) fun _ _ _ _ _ _ us hl => match us, hl with | [_, _, _], _ => rfl
  have F6 := fun_mk (st := s__law_spare) l6 c6 k6
  have b6 := F6.binds (ps := ["made", "number"]) fun _ _ _ _ _ _ us hl => match us, hl with | [_, _], _ => rfl
  have F8 := fun_mk (st := s_Pledge___init__) l8 c8 k8
  have b8 := F8.binds (ps := ["self", "pledge"]) fun _ _ _ _ _ _ us hl => match us, hl with | [_, _], _ => rfl
  have F9 := fun_mk (st := s_Pledge_spare) l9 c9 k9
  have b9 := F9.binds (ps := ["self", "number"]) fun _ _ _ _ _ _ us hl => match us, hl with | [_, _], _ => rfl
  have F10 := fun_mk (st := s_BadNumber_init) l10 c10 k10
  have b10 := F10.binds (ps := ["self", "value"]) fun _ _ _ _ _ _ us hl => match us, hl with | [_, _], _ => rfl
  have F11 := fun_mk (st := s_TooFewServed_init) l11 c11 k11
  have b11 := F11.binds (ps := ["self", "number"]) fun _ _ _ _ _ _ us hl => match us, hl with | [_, _], _ => rfl
  refine ⟨PySem.W.fnOf "law" "law" (defArgs s_law) (defBody s_law) (defScope s_law) .none kV7 dc7 pm7 an7 cd7 ct7, fun s v => .of_eq rfl, fun base _ _ => ?_⟩
  have T_BadNumber : OexC K C.BadNumber := ⟨⟨_, _, _, _, _, _, _, _, _, _, _, _, _, _, _, xL_BadNumber, xr_BadNumber⟩, h_sa_BadNumber, h_sb_BadNumber, h_ty_BadNumber, h_k_BadNumber⟩
  have H_BadNumber : ErrC l.prog w K mg base "BadNumber" C.BadNumber "value" := ⟨B.g_BadNumber, T_BadNumber, f10, _, _, a10, tI10, ok_BadNumber_init F10 T_BadNumber B, b10⟩
  have T_TooFewServed : OexC K C.TooFewServed := ⟨⟨_, _, _, _, _, _, _, _, _, _, _, _, _, _, _, xL_TooFewServed, xr_TooFewServed⟩, h_sa_TooFewServed, h_sb_TooFewServed, h_ty_TooFewServed, h_k_TooFewServed⟩
  have H_TooFewServed : ErrC l.prog w K mg base "TooFewServed" C.TooFewServed "number" := ⟨B.g_TooFewServed, T_TooFewServed, f11, _, _, a11, tI11, ok_TooFewServed_init F11 T_TooFewServed B, b11⟩
  have H__law_deck : HasS l.prog w K mg base "_law_deck" 1 ["script"] (spDeckA K) := ⟨f0, _, PySem.W.mg_of X G a0, k0, b0, ok_deck F0 B.abs⟩
  have H_is_number : Has l.prog w K mg base "is_number" 1 ["value"] c_is_number := ⟨f1, _, PySem.W.mg_of X G a1, k1, b1, fn_is_number F1 B⟩
  have H_is_number_from : Has l.prog w K mg base "is_number_from" 2 ["value", "low", "high"] c_is_number_from := ⟨f2, _, PySem.W.mg_of X G a2, k2, b2, fn_is_number_from F2 B H_is_number⟩
  have H_Pledge___init__ : HasC l.prog w K mg base "Pledge" C.Pledge 3 ["self", "pledge"] (c_Pledge___init__ C) := ⟨B.g_Pledge, len_Pledge___init__, f8, _, ⟨B.mk_Pledge, a8, fn8, B.k_Pledge⟩, b8, fn_Pledge___init__ F8 B H_is_number_from H_BadNumber⟩
  have H__law_made : Has l.prog w K mg base "_law_made" 5 ["pledge"] (c__law_made C) := ⟨f3, _, PySem.W.mg_of X G a3, k3, b3, fn__law_made F3 B H_Pledge___init__⟩
  have H__law_draw : Has l.prog w K mg base "_law_draw" 1 ["deck", "many"] c__law_draw := ⟨f4, _, PySem.W.mg_of X G a4, k4, b4, ok_draw F4 B.len⟩
  have H__law_is_within : Has l.prog w K mg base "_law_is_within" 1 ["value", "low", "high"] c__law_is_within := ⟨f5, _, PySem.W.mg_of X G a5, k5, b5, fn__law_is_within F5 B⟩
  have G_Pledge_spare : FnGX l.prog w K mg base 3 f9 _ ["self", "number"] (spDX K 2 (c_Pledge_spare C)) := fn_Pledge_spare F9 B H_is_number_from H_BadNumber H_TooFewServed
  have HM_spare : HasM l.prog w K mg base (fun D => D = C.Pledge) "spare" 3 ["self", "number"] (fun _ => c_Pledge_spare C) := fun D hD => by
    subst hD
    exact ⟨B.c_Pledge, f9, _, ⟨a9, fn9, k9⟩, b9, G_Pledge_spare⟩
  have H__law_spare : Has l.prog w K mg base "_law_spare" 4 ["made", "number"] (c__law_spare C) := ⟨f6, _, PySem.W.mg_of X G a6, k6, b6, fn__law_spare F6 B HM_spare⟩
  exact fn_law (fun_mk (st := s_law) l7 c7 k7) B H__law_deck H__law_made H__law_draw H__law_is_within H__law_spare
theorem all_mk2 {l : PySem.W.OpenLaw} {w : World} {K : PySem.W.Frag} {h : Heap} {mg : Str → Option Value} {fa : Addr} {C_PartyError C_BadFoot C_BadSize C_BadNumber C_TooFewServed C_Pledge : Addr} (X : K.In h) (G : h.Ns mainGlobals mg) (hfa : mg "law" = some (.ref fa))
    {f0 : Addr} {od0 an0 : Option Addr} {sl0 : Array (Option Value)} {oc0 kV0 dc0 pm0 cd0 ct0 : Value}
    (a0 : PySem.W.nsIn K mainGlobals "_law_deck" = some (some (.ref f0)))
    (l0 : K.lookup f0 = some ⟨oc0, od0, .func (PySem.W.fnOf "_law_deck" "_law_deck" (defArgs s__law_deck) (defBody s__law_deck) (defScope s__law_deck) .none kV0 dc0 pm0 an0 cd0 ct0), sl0⟩) (c0 : PySem.W.codeIn K cd0 "_law_deck" = true) (k0 : PySem.W.keepIn K (.ref f0) = true)
    {f1 : Addr} {od1 an1 : Option Addr} {sl1 : Array (Option Value)} {oc1 kV1 dc1 pm1 cd1 ct1 : Value}
    (a1 : PySem.W.nsIn K mainGlobals "is_number" = some (some (.ref f1)))
    (l1 : K.lookup f1 = some ⟨oc1, od1, .func (PySem.W.fnOf "is_number" "is_number" (defArgs s_is_number) (defBody s_is_number) (defScope s_is_number) .none kV1 dc1 pm1 an1 cd1 ct1), sl1⟩) (c1 : PySem.W.codeIn K cd1 "is_number" = true) (k1 : PySem.W.keepIn K (.ref f1) = true)
    {f2 : Addr} {od2 an2 : Option Addr} {sl2 : Array (Option Value)} {oc2 kV2 dc2 pm2 cd2 ct2 : Value}
    (a2 : PySem.W.nsIn K mainGlobals "is_number_from" = some (some (.ref f2)))
    (l2 : K.lookup f2 = some ⟨oc2, od2, .func (PySem.W.fnOf "is_number_from" "is_number_from" (defArgs s_is_number_from) (defBody s_is_number_from) (defScope s_is_number_from) .none kV2 dc2 pm2 an2 cd2 ct2), sl2⟩) (c2 : PySem.W.codeIn K cd2 "is_number_from" = true) (k2 : PySem.W.keepIn K (.ref f2) = true)
    {f3 : Addr} {od3 an3 : Option Addr} {sl3 : Array (Option Value)} {oc3 kV3 dc3 pm3 cd3 ct3 : Value}
    (a3 : PySem.W.nsIn K mainGlobals "_law_made" = some (some (.ref f3)))
    (l3 : K.lookup f3 = some ⟨oc3, od3, .func (PySem.W.fnOf "_law_made" "_law_made" (defArgs s__law_made) (defBody s__law_made) (defScope s__law_made) .none kV3 dc3 pm3 an3 cd3 ct3), sl3⟩) (c3 : PySem.W.codeIn K cd3 "_law_made" = true) (k3 : PySem.W.keepIn K (.ref f3) = true)
    {f4 : Addr} {od4 an4 : Option Addr} {sl4 : Array (Option Value)} {oc4 kV4 dc4 pm4 cd4 ct4 : Value}
    (a4 : PySem.W.nsIn K mainGlobals "_law_draw" = some (some (.ref f4)))
    (l4 : K.lookup f4 = some ⟨oc4, od4, .func (PySem.W.fnOf "_law_draw" "_law_draw" (defArgs s__law_draw) (defBody s__law_draw) (defScope s__law_draw) .none kV4 dc4 pm4 an4 cd4 ct4), sl4⟩) (c4 : PySem.W.codeIn K cd4 "_law_draw" = true) (k4 : PySem.W.keepIn K (.ref f4) = true)
    {f5 : Addr} {od5 an5 : Option Addr} {sl5 : Array (Option Value)} {oc5 kV5 dc5 pm5 cd5 ct5 : Value}
    (a5 : PySem.W.nsIn K mainGlobals "_law_is_within" = some (some (.ref f5)))
    (l5 : K.lookup f5 = some ⟨oc5, od5, .func (PySem.W.fnOf "_law_is_within" "_law_is_within" (defArgs s__law_is_within) (defBody s__law_is_within) (defScope s__law_is_within) .none kV5 dc5 pm5 an5 cd5 ct5), sl5⟩) (c5 : PySem.W.codeIn K cd5 "_law_is_within" = true) (k5 : PySem.W.keepIn K (.ref f5) = true)
    {f6 : Addr} {od6 an6 : Option Addr} {sl6 : Array (Option Value)} {oc6 kV6 dc6 pm6 cd6 ct6 : Value}
    (a6 : PySem.W.nsIn K mainGlobals "_law_spare" = some (some (.ref f6)))
    (l6 : K.lookup f6 = some ⟨oc6, od6, .func (PySem.W.fnOf "_law_spare" "_law_spare" (defArgs s__law_spare) (defBody s__law_spare) (defScope s__law_spare) .none kV6 dc6 pm6 an6 cd6 ct6), sl6⟩) (c6 : PySem.W.codeIn K cd6 "_law_spare" = true) (k6 : PySem.W.keepIn K (.ref f6) = true)
    {f7 : Addr} {od7 an7 : Option Addr} {sl7 : Array (Option Value)} {oc7 kV7 dc7 pm7 cd7 ct7 : Value}
    (a7 : PySem.W.nsIn K mainGlobals "law" = some (some (.ref f7)))
    (l7 : K.lookup f7 = some ⟨oc7, od7, .func (PySem.W.fnOf "law" "law" (defArgs s_law) (defBody s_law) (defScope s_law) .none kV7 dc7 pm7 an7 cd7 ct7), sl7⟩) (c7 : PySem.W.codeIn K cd7 "law" = true) (k7 : PySem.W.keepIn K (.ref f7) = true)
    {f8 : Addr} {od8 an8 : Option Addr} {sl8 : Array (Option Value)} {oc8 kV8 dc8 pm8 cd8 ct8 : Value}
    (a8 : PySem.W.findIn K (.ref C_Pledge) "__init__" = some (some (.ref f8))) (fn8 : PySem.W.isFn K (.ref f8) = true)
    (l8 : K.lookup f8 = some ⟨oc8, od8, .func (PySem.W.fnOf "__init__" "Pledge.__init__" (defArgs s_Pledge___init__) (defBody s_Pledge___init__) (defScope s_Pledge___init__) .none kV8 dc8 pm8 an8 cd8 ct8), sl8⟩) (c8 : PySem.W.codeIn K cd8 "Pledge.__init__" = true) (k8 : PySem.W.keepIn K (.ref f8) = true)
    {f9 : Addr} {od9 an9 : Option Addr} {sl9 : Array (Option Value)} {oc9 kV9 dc9 pm9 cd9 ct9 : Value}
    (a9 : PySem.W.findIn K (.ref C_Pledge) "spare" = some (some (.ref f9))) (fn9 : PySem.W.isFn K (.ref f9) = true)
    (l9 : K.lookup f9 = some ⟨oc9, od9, .func (PySem.W.fnOf "spare" "Pledge.spare" (defArgs s_Pledge_spare) (defBody s_Pledge_spare) (defScope s_Pledge_spare) .none kV9 dc9 pm9 an9 cd9 ct9), sl9⟩) (c9 : PySem.W.codeIn K cd9 "Pledge.spare" = true) (k9 : PySem.W.keepIn K (.ref f9) = true)
    {f10 : Addr} {od10 an10 : Option Addr} {sl10 : Array (Option Value)} {oc10 kV10 dc10 pm10 cd10 ct10 : Value}
    (a10 : PySem.W.findIn K (.ref C_BadNumber) "__init__" = some (some (.ref f10))) (tI10 : PySem.W.typeIn K (.ref f10) = some (.type "function"))
    (l10 : K.lookup f10 = some ⟨oc10, od10, .func (PySem.W.fnOf "__init__" "BadNumber.__init__" (defArgs s_BadNumber_init) (defBody s_BadNumber_init) (defScope s_BadNumber_init) .none kV10 dc10 pm10 an10 cd10 ct10), sl10⟩) (c10 : PySem.W.codeIn K cd10 "BadNumber.__init__" = true) (k10 : PySem.W.keepIn K (.ref f10) = true)
    {f11 : Addr} {od11 an11 : Option Addr} {sl11 : Array (Option Value)} {oc11 kV11 dc11 pm11 cd11 ct11 : Value}
    (a11 : PySem.W.findIn K (.ref C_TooFewServed) "__init__" = some (some (.ref f11))) (tI11 : PySem.W.typeIn K (.ref f11) = some (.type "function"))
    (l11 : K.lookup f11 = some ⟨oc11, od11, .func (PySem.W.fnOf "__init__" "TooFewServed.__init__" (defArgs s_TooFewServed_init) (defBody s_TooFewServed_init) (defScope s_TooFewServed_init) .none kV11 dc11 pm11 an11 cd11 ct11), sl11⟩) (c11 : PySem.W.codeIn K cd11 "TooFewServed.__init__" = true) (k11 : PySem.W.keepIn K (.ref f11) = true)
    (z_ValueError : PySem.W.nsIn K mainGlobals "ValueError" = some none)
    (z_abs : PySem.W.nsIn K mainGlobals "abs" = some none)
    (z_bool : PySem.W.nsIn K mainGlobals "bool" = some none)
    (z_int : PySem.W.nsIn K mainGlobals "int" = some none)
    (z_isinstance : PySem.W.nsIn K mainGlobals "isinstance" = some none)
    (z_len : PySem.W.nsIn K mainGlobals "len" = some none)
    (z_list : PySem.W.nsIn K mainGlobals "list" = some none)
    (z_max : PySem.W.nsIn K mainGlobals "max" = some none)
    (z_range : PySem.W.nsIn K mainGlobals "range" = some none)
    (z_repr : PySem.W.nsIn K mainGlobals "repr" = some none)
    {t_LIMIT : Tok} (y_LIMIT : PySem.W.nsIn K mainGlobals "LIMIT" = some (some (.int (1000) t_LIMIT)))
    (h_cg : PySem.W.specialIn K (.builtin "object.__class__") "__get__" = some (some (.builtin "getset_descriptor.__get__")))
    (h_ct : PySem.W.takesIn K (.builtin "object.__class__") = some true)
    (h_a_PartyError : PySem.W.nsIn K mainGlobals "PartyError" = some (some (.ref C_PartyError)))
    (h_cl_PartyError : PySem.W.isClsIn K C_PartyError = true)
    (h_ty_PartyError : PySem.W.typeIn K (.ref C_PartyError) = some (.type "type"))
    (h_k_PartyError : PySem.W.keepIn K (.ref C_PartyError) = true)
    (h_hd_PartyError : PySem.W.hasDictIn K C_PartyError = true)
    (h_ca_PartyError : PySem.W.findIn K (.ref C_PartyError) "__class__" = some (some (.builtin "object.__class__")))
    (h_mo_PartyError : PySem.W.mroIn K C_PartyError (.type "object") = some true)
    (h_sa_PartyError : PySem.W.findIn K (.ref C_PartyError) "__setattr__" = some (some (.builtin "object.__setattr__")))
    (h_s_PartyError_PartyError : PySem.W.subIn K (.ref C_PartyError) (.ref C_PartyError) = some true)
    (h_s_PartyError_BadFoot : PySem.W.subIn K (.ref C_PartyError) (.ref C_BadFoot) = some false)
    (h_s_PartyError_BadSize : PySem.W.subIn K (.ref C_PartyError) (.ref C_BadSize) = some false)
    (h_s_PartyError_BadNumber : PySem.W.subIn K (.ref C_PartyError) (.ref C_BadNumber) = some false)
    (h_s_PartyError_TooFewServed : PySem.W.subIn K (.ref C_PartyError) (.ref C_TooFewServed) = some false)
    (h_s_PartyError_Pledge : PySem.W.subIn K (.ref C_PartyError) (.ref C_Pledge) = some false)
    (h_s_PartyError_ValueError : PySem.W.subIn K (.ref C_PartyError) (.type "ValueError") = some true)
    (h_s_PartyError_LookupError : PySem.W.subIn K (.ref C_PartyError) (.type "LookupError") = some false)
    (h_s_PartyError_list : PySem.W.subIn K (.ref C_PartyError) (.type "list") = some false)
    (h_s_PartyError_tuple : PySem.W.subIn K (.ref C_PartyError) (.type "tuple") = some false)
    (h_s_PartyError_int : PySem.W.subIn K (.ref C_PartyError) (.type "int") = some false)
    (h_s_PartyError_str : PySem.W.subIn K (.ref C_PartyError) (.type "str") = some false)
    (h_s_PartyError_bool : PySem.W.subIn K (.ref C_PartyError) (.type "bool") = some false)
    (h_a_BadFoot : PySem.W.nsIn K mainGlobals "BadFoot" = some (some (.ref C_BadFoot)))
    (h_cl_BadFoot : PySem.W.isClsIn K C_BadFoot = true)
    (h_ty_BadFoot : PySem.W.typeIn K (.ref C_BadFoot) = some (.type "type"))
    (h_k_BadFoot : PySem.W.keepIn K (.ref C_BadFoot) = true)
    (h_hd_BadFoot : PySem.W.hasDictIn K C_BadFoot = true)
    (h_ca_BadFoot : PySem.W.findIn K (.ref C_BadFoot) "__class__" = some (some (.builtin "object.__class__")))
    (h_mo_BadFoot : PySem.W.mroIn K C_BadFoot (.type "object") = some true)
    (h_sa_BadFoot : PySem.W.findIn K (.ref C_BadFoot) "__setattr__" = some (some (.builtin "object.__setattr__")))
    (h_s_BadFoot_PartyError : PySem.W.subIn K (.ref C_BadFoot) (.ref C_PartyError) = some true)
    (h_s_BadFoot_BadFoot : PySem.W.subIn K (.ref C_BadFoot) (.ref C_BadFoot) = some true)
    (h_s_BadFoot_BadSize : PySem.W.subIn K (.ref C_BadFoot) (.ref C_BadSize) = some false)
    (h_s_BadFoot_BadNumber : PySem.W.subIn K (.ref C_BadFoot) (.ref C_BadNumber) = some false)
    (h_s_BadFoot_TooFewServed : PySem.W.subIn K (.ref C_BadFoot) (.ref C_TooFewServed) = some false)
    (h_s_BadFoot_Pledge : PySem.W.subIn K (.ref C_BadFoot) (.ref C_Pledge) = some false)
    (h_s_BadFoot_ValueError : PySem.W.subIn K (.ref C_BadFoot) (.type "ValueError") = some true)
    (h_s_BadFoot_LookupError : PySem.W.subIn K (.ref C_BadFoot) (.type "LookupError") = some false)
    (h_s_BadFoot_list : PySem.W.subIn K (.ref C_BadFoot) (.type "list") = some false)
    (h_s_BadFoot_tuple : PySem.W.subIn K (.ref C_BadFoot) (.type "tuple") = some false)
    (h_s_BadFoot_int : PySem.W.subIn K (.ref C_BadFoot) (.type "int") = some false)
    (h_s_BadFoot_str : PySem.W.subIn K (.ref C_BadFoot) (.type "str") = some false)
    (h_s_BadFoot_bool : PySem.W.subIn K (.ref C_BadFoot) (.type "bool") = some false)
    (h_a_BadSize : PySem.W.nsIn K mainGlobals "BadSize" = some (some (.ref C_BadSize)))
    (h_cl_BadSize : PySem.W.isClsIn K C_BadSize = true)
    (h_ty_BadSize : PySem.W.typeIn K (.ref C_BadSize) = some (.type "type"))
    (h_k_BadSize : PySem.W.keepIn K (.ref C_BadSize) = true)
    (h_hd_BadSize : PySem.W.hasDictIn K C_BadSize = true)
    (h_ca_BadSize : PySem.W.findIn K (.ref C_BadSize) "__class__" = some (some (.builtin "object.__class__")))
    (h_mo_BadSize : PySem.W.mroIn K C_BadSize (.type "object") = some true)
    (h_sa_BadSize : PySem.W.findIn K (.ref C_BadSize) "__setattr__" = some (some (.builtin "object.__setattr__")))
    (h_s_BadSize_PartyError : PySem.W.subIn K (.ref C_BadSize) (.ref C_PartyError) = some true)
    (h_s_BadSize_BadFoot : PySem.W.subIn K (.ref C_BadSize) (.ref C_BadFoot) = some false)
    (h_s_BadSize_BadSize : PySem.W.subIn K (.ref C_BadSize) (.ref C_BadSize) = some true)
    (h_s_BadSize_BadNumber : PySem.W.subIn K (.ref C_BadSize) (.ref C_BadNumber) = some false)
    (h_s_BadSize_TooFewServed : PySem.W.subIn K (.ref C_BadSize) (.ref C_TooFewServed) = some false)
    (h_s_BadSize_Pledge : PySem.W.subIn K (.ref C_BadSize) (.ref C_Pledge) = some false)
    (h_s_BadSize_ValueError : PySem.W.subIn K (.ref C_BadSize) (.type "ValueError") = some true)
    (h_s_BadSize_LookupError : PySem.W.subIn K (.ref C_BadSize) (.type "LookupError") = some false)
    (h_s_BadSize_list : PySem.W.subIn K (.ref C_BadSize) (.type "list") = some false)
    (h_s_BadSize_tuple : PySem.W.subIn K (.ref C_BadSize) (.type "tuple") = some false)
    (h_s_BadSize_int : PySem.W.subIn K (.ref C_BadSize) (.type "int") = some false)
    (h_s_BadSize_str : PySem.W.subIn K (.ref C_BadSize) (.type "str") = some false)
    (h_s_BadSize_bool : PySem.W.subIn K (.ref C_BadSize) (.type "bool") = some false)
    (h_a_BadNumber : PySem.W.nsIn K mainGlobals "BadNumber" = some (some (.ref C_BadNumber)))
    (h_cl_BadNumber : PySem.W.isClsIn K C_BadNumber = true)
    (h_ty_BadNumber : PySem.W.typeIn K (.ref C_BadNumber) = some (.type "type"))
    (h_k_BadNumber : PySem.W.keepIn K (.ref C_BadNumber) = true)
    (h_hd_BadNumber : PySem.W.hasDictIn K C_BadNumber = true)
    (h_ca_BadNumber : PySem.W.findIn K (.ref C_BadNumber) "__class__" = some (some (.builtin "object.__class__")))
    (h_mo_BadNumber : PySem.W.mroIn K C_BadNumber (.type "object") = some true)
    (h_sa_BadNumber : PySem.W.findIn K (.ref C_BadNumber) "__setattr__" = some (some (.builtin "object.__setattr__")))
    (h_s_BadNumber_PartyError : PySem.W.subIn K (.ref C_BadNumber) (.ref C_PartyError) = some true)
    (h_s_BadNumber_BadFoot : PySem.W.subIn K (.ref C_BadNumber) (.ref C_BadFoot) = some false)
    (h_s_BadNumber_BadSize : PySem.W.subIn K (.ref C_BadNumber) (.ref C_BadSize) = some false)
    (h_s_BadNumber_BadNumber : PySem.W.subIn K (.ref C_BadNumber) (.ref C_BadNumber) = some true)
    (h_s_BadNumber_TooFewServed : PySem.W.subIn K (.ref C_BadNumber) (.ref C_TooFewServed) = some false)
    (h_s_BadNumber_Pledge : PySem.W.subIn K (.ref C_BadNumber) (.ref C_Pledge) = some false)
    (h_s_BadNumber_ValueError : PySem.W.subIn K (.ref C_BadNumber) (.type "ValueError") = some true)
    (h_s_BadNumber_LookupError : PySem.W.subIn K (.ref C_BadNumber) (.type "LookupError") = some false)
    (h_s_BadNumber_list : PySem.W.subIn K (.ref C_BadNumber) (.type "list") = some false)
    (h_s_BadNumber_tuple : PySem.W.subIn K (.ref C_BadNumber) (.type "tuple") = some false)
    (h_s_BadNumber_int : PySem.W.subIn K (.ref C_BadNumber) (.type "int") = some false)
    (h_s_BadNumber_str : PySem.W.subIn K (.ref C_BadNumber) (.type "str") = some false)
    (h_s_BadNumber_bool : PySem.W.subIn K (.ref C_BadNumber) (.type "bool") = some false)
    (h_a_TooFewServed : PySem.W.nsIn K mainGlobals "TooFewServed" = some (some (.ref C_TooFewServed)))
    (h_cl_TooFewServed : PySem.W.isClsIn K C_TooFewServed = true)
    (h_ty_TooFewServed : PySem.W.typeIn K (.ref C_TooFewServed) = some (.type "type"))
    (h_k_TooFewServed : PySem.W.keepIn K (.ref C_TooFewServed) = true)
    (h_hd_TooFewServed : PySem.W.hasDictIn K C_TooFewServed = true)
    (h_ca_TooFewServed : PySem.W.findIn K (.ref C_TooFewServed) "__class__" = some (some (.builtin "object.__class__")))
    (h_mo_TooFewServed : PySem.W.mroIn K C_TooFewServed (.type "object") = some true)
    (h_sa_TooFewServed : PySem.W.findIn K (.ref C_TooFewServed) "__setattr__" = some (some (.builtin "object.__setattr__")))
    (h_s_TooFewServed_PartyError : PySem.W.subIn K (.ref C_TooFewServed) (.ref C_PartyError) = some true)
    (h_s_TooFewServed_BadFoot : PySem.W.subIn K (.ref C_TooFewServed) (.ref C_BadFoot) = some false)
    (h_s_TooFewServed_BadSize : PySem.W.subIn K (.ref C_TooFewServed) (.ref C_BadSize) = some false)
    (h_s_TooFewServed_BadNumber : PySem.W.subIn K (.ref C_TooFewServed) (.ref C_BadNumber) = some false)
    (h_s_TooFewServed_TooFewServed : PySem.W.subIn K (.ref C_TooFewServed) (.ref C_TooFewServed) = some true)
    (h_s_TooFewServed_Pledge : PySem.W.subIn K (.ref C_TooFewServed) (.ref C_Pledge) = some false)
    (h_s_TooFewServed_ValueError : PySem.W.subIn K (.ref C_TooFewServed) (.type "ValueError") = some true)
    (h_s_TooFewServed_LookupError : PySem.W.subIn K (.ref C_TooFewServed) (.type "LookupError") = some false)
    (h_s_TooFewServed_list : PySem.W.subIn K (.ref C_TooFewServed) (.type "list") = some false)
    (h_s_TooFewServed_tuple : PySem.W.subIn K (.ref C_TooFewServed) (.type "tuple") = some false)
    (h_s_TooFewServed_int : PySem.W.subIn K (.ref C_TooFewServed) (.type "int") = some false)
    (h_s_TooFewServed_str : PySem.W.subIn K (.ref C_TooFewServed) (.type "str") = some false)
    (h_s_TooFewServed_bool : PySem.W.subIn K (.ref C_TooFewServed) (.type "bool") = some false)
    (h_a_Pledge : PySem.W.nsIn K mainGlobals "Pledge" = some (some (.ref C_Pledge)))
    (h_cl_Pledge : PySem.W.isClsIn K C_Pledge = true)
    (h_ty_Pledge : PySem.W.typeIn K (.ref C_Pledge) = some (.type "type"))
    (h_k_Pledge : PySem.W.keepIn K (.ref C_Pledge) = true)
    (h_hd_Pledge : PySem.W.hasDictIn K C_Pledge = true)
    (h_ca_Pledge : PySem.W.findIn K (.ref C_Pledge) "__class__" = some (some (.builtin "object.__class__")))
    (h_mo_Pledge : PySem.W.mroIn K C_Pledge (.type "object") = some true)
    (h_sa_Pledge : PySem.W.findIn K (.ref C_Pledge) "__setattr__" = some (some (.builtin "object.__setattr__")))
    (h_s_Pledge_PartyError : PySem.W.subIn K (.ref C_Pledge) (.ref C_PartyError) = some false)
    (h_s_Pledge_BadFoot : PySem.W.subIn K (.ref C_Pledge) (.ref C_BadFoot) = some false)
    (h_s_Pledge_BadSize : PySem.W.subIn K (.ref C_Pledge) (.ref C_BadSize) = some false)
    (h_s_Pledge_BadNumber : PySem.W.subIn K (.ref C_Pledge) (.ref C_BadNumber) = some false)
    (h_s_Pledge_TooFewServed : PySem.W.subIn K (.ref C_Pledge) (.ref C_TooFewServed) = some false)
    (h_s_Pledge_Pledge : PySem.W.subIn K (.ref C_Pledge) (.ref C_Pledge) = some true)
    (h_s_Pledge_ValueError : PySem.W.subIn K (.ref C_Pledge) (.type "ValueError") = some false)
    (h_s_Pledge_LookupError : PySem.W.subIn K (.ref C_Pledge) (.type "LookupError") = some false)
    (h_s_Pledge_list : PySem.W.subIn K (.ref C_Pledge) (.type "list") = some false)
    (h_s_Pledge_tuple : PySem.W.subIn K (.ref C_Pledge) (.type "tuple") = some false)
    (h_s_Pledge_int : PySem.W.subIn K (.ref C_Pledge) (.type "int") = some false)
    (h_s_Pledge_str : PySem.W.subIn K (.ref C_Pledge) (.type "str") = some false)
    (h_s_Pledge_bool : PySem.W.subIn K (.ref C_Pledge) (.type "bool") = some false)
    (h_q_NoneType_Pledge : PySem.W.subIn K (.type "NoneType") (.ref C_Pledge) = some false)
    (h_q_bool_Pledge : PySem.W.subIn K (.type "bool") (.ref C_Pledge) = some false)
    (h_q_int_Pledge : PySem.W.subIn K (.type "int") (.ref C_Pledge) = some false)
    (h_q_str_Pledge : PySem.W.subIn K (.type "str") (.ref C_Pledge) = some false)
    (h_q_list_Pledge : PySem.W.subIn K (.type "list") (.ref C_Pledge) = some false)
    (h_q_tuple_Pledge : PySem.W.subIn K (.type "tuple") (.ref C_Pledge) = some false)
    (h_q_dict_Pledge : PySem.W.subIn K (.type "dict") (.ref C_Pledge) = some false)
    (h_ga_PartyError : PySem.W.findIn K (.ref C_PartyError) "__getattribute__" = some (some (.builtin "BaseException.__getattribute__")))
    (h_gt_PartyError : PySem.W.findIn K (.ref C_PartyError) "__getattr__" = some none)
    (h_sb_PartyError : PySem.W.subIn K (.ref C_PartyError) (.type "BaseException") = some true)
    (h_ga_BadFoot : PySem.W.findIn K (.ref C_BadFoot) "__getattribute__" = some (some (.builtin "BaseException.__getattribute__")))
    (h_gt_BadFoot : PySem.W.findIn K (.ref C_BadFoot) "__getattr__" = some none)
    (h_sb_BadFoot : PySem.W.subIn K (.ref C_BadFoot) (.type "BaseException") = some true)
    (h_n_BadFoot : PySem.W.findIn K (.ref C_BadFoot) "value" = some none)
    (h_ga_BadSize : PySem.W.findIn K (.ref C_BadSize) "__getattribute__" = some (some (.builtin "BaseException.__getattribute__")))
    (h_gt_BadSize : PySem.W.findIn K (.ref C_BadSize) "__getattr__" = some none)
    (h_sb_BadSize : PySem.W.subIn K (.ref C_BadSize) (.type "BaseException") = some true)
    (h_n_BadSize : PySem.W.findIn K (.ref C_BadSize) "value" = some none)
    (h_ga_BadNumber : PySem.W.findIn K (.ref C_BadNumber) "__getattribute__" = some (some (.builtin "BaseException.__getattribute__")))
    (h_gt_BadNumber : PySem.W.findIn K (.ref C_BadNumber) "__getattr__" = some none)
    (h_sb_BadNumber : PySem.W.subIn K (.ref C_BadNumber) (.type "BaseException") = some true)
    (h_n_BadNumber : PySem.W.findIn K (.ref C_BadNumber) "value" = some none)
    (h_ga_TooFewServed : PySem.W.findIn K (.ref C_TooFewServed) "__getattribute__" = some (some (.builtin "BaseException.__getattribute__")))
    (h_gt_TooFewServed : PySem.W.findIn K (.ref C_TooFewServed) "__getattr__" = some none)
    (h_sb_TooFewServed : PySem.W.subIn K (.ref C_TooFewServed) (.type "BaseException") = some true)
    (h_n_TooFewServed : PySem.W.findIn K (.ref C_TooFewServed) "number" = some none)
    (h_pg_Pledge : PySem.W.plainGet K C_Pledge Str.empty = true)
    (h_po_Pledge : PySem.W.plainOver K C_Pledge = true)
    (h_mk_Pledge : PySem.W.makesIn K C_Pledge = true)
    (h_f_Pledge_pledge : PySem.W.findIn K (.ref C_Pledge) "pledge" = some none)
    {nm_BadNumber q_BadNumber : Str} {N_BadNumber : Addr} {bs_BadNumber bm_BadNumber : List Value} {sn_BadNumber : List Str} {sub_BadNumber : List Value} {ab_BadNumber : Bool} {col_BadNumber : Option Bool} {dd_BadNumber : Option Addr} {m0_BadNumber m1_BadNumber m2_BadNumber m3_BadNumber m5_BadNumber : Option Value}
    (xL_BadNumber : K.lookup C_BadNumber = some (excClassObj nm_BadNumber q_BadNumber C_BadNumber N_BadNumber bs_BadNumber bm_BadNumber true sn_BadNumber sub_BadNumber ab_BadNumber col_BadNumber dd_BadNumber m0_BadNumber m1_BadNumber m2_BadNumber m3_BadNumber m5_BadNumber "ValueError.__new__")) (xr_BadNumber : PySem.HandSPX.refsVE bm_BadNumber = true)
    {nm_TooFewServed q_TooFewServed : Str} {N_TooFewServed : Addr} {bs_TooFewServed bm_TooFewServed : List Value} {sn_TooFewServed : List Str} {sub_TooFewServed : List Value} {ab_TooFewServed : Bool} {col_TooFewServed : Option Bool} {dd_TooFewServed : Option Addr} {m0_TooFewServed m1_TooFewServed m2_TooFewServed m3_TooFewServed m5_TooFewServed : Option Value}
    (xL_TooFewServed : K.lookup C_TooFewServed = some (excClassObj nm_TooFewServed q_TooFewServed C_TooFewServed N_TooFewServed bs_TooFewServed bm_TooFewServed true sn_TooFewServed sub_TooFewServed ab_TooFewServed col_TooFewServed dd_TooFewServed m0_TooFewServed m1_TooFewServed m2_TooFewServed m3_TooFewServed m5_TooFewServed "ValueError.__new__")) (xr_TooFewServed : PySem.HandSPX.refsVE bm_TooFewServed = true)
    (e0_PartyError : PySem.W.excIn K C_PartyError [.type "ValueError", .type "Exception", .type "BaseException", .type "object"] "ValueError.__new__" = true)
    : ∃ fd : FuncData, (∀ (s : Shared) (v : Value), BindsTo s fd ⟨[v], []⟩ [("script", v)]) ∧ ∀ base : Heap, K.In base → base.Ns mainGlobals mg → FnG l.prog w K mg base 6 fa fd ["script"] (spLaw K) :=
  all_mk (C := ⟨C_PartyError, C_BadFoot, C_BadSize, C_BadNumber, C_TooFewServed, C_Pledge⟩) X G hfa a0 l0 c0 k0 a1 l1 c1 k1 a2 l2 c2 k2 a3 l3 c3 k3 a4 l4 c4 k4 a5 l5 c5 k5 a6 l6 c6 k6 a7 l7 c7 k7 a8 fn8 l8 c8 k8 a9 fn9 l9 c9 k9 a10 tI10 l10 c10 k10 a11 tI11 l11 c11 k11 z_ValueError z_abs z_bool z_int z_isinstance z_len z_list z_max z_range z_repr y_LIMIT h_cg h_ct h_a_PartyError h_cl_PartyError h_ty_PartyError h_k_PartyError h_hd_PartyError h_ca_PartyError h_mo_PartyError h_sa_PartyError h_s_PartyError_PartyError h_s_PartyError_BadFoot h_s_PartyError_BadSize h_s_PartyError_BadNumber h_s_PartyError_TooFewServed h_s_PartyError_Pledge h_s_PartyError_ValueError h_s_PartyError_LookupError h_s_PartyError_list h_s_PartyError_tuple h_s_PartyError_int h_s_PartyError_str h_s_PartyError_bool h_a_BadFoot h_cl_BadFoot h_ty_BadFoot h_k_BadFoot h_hd_BadFoot h_ca_BadFoot h_mo_BadFoot h_sa_BadFoot h_s_BadFoot_PartyError h_s_BadFoot_BadFoot h_s_BadFoot_BadSize h_s_BadFoot_BadNumber h_s_BadFoot_TooFewServed h_s_BadFoot_Pledge h_s_BadFoot_ValueError h_s_BadFoot_LookupError h_s_BadFoot_list h_s_BadFoot_tuple h_s_BadFoot_int h_s_BadFoot_str h_s_BadFoot_bool h_a_BadSize h_cl_BadSize h_ty_BadSize h_k_BadSize h_hd_BadSize h_ca_BadSize h_mo_BadSize h_sa_BadSize h_s_BadSize_PartyError h_s_BadSize_BadFoot h_s_BadSize_BadSize h_s_BadSize_BadNumber h_s_BadSize_TooFewServed h_s_BadSize_Pledge h_s_BadSize_ValueError h_s_BadSize_LookupError h_s_BadSize_list h_s_BadSize_tuple h_s_BadSize_int h_s_BadSize_str h_s_BadSize_bool h_a_BadNumber h_cl_BadNumber h_ty_BadNumber h_k_BadNumber h_hd_BadNumber h_ca_BadNumber h_mo_BadNumber h_sa_BadNumber h_s_BadNumber_PartyError h_s_BadNumber_BadFoot h_s_BadNumber_BadSize h_s_BadNumber_BadNumber h_s_BadNumber_TooFewServed h_s_BadNumber_Pledge h_s_BadNumber_ValueError h_s_BadNumber_LookupError h_s_BadNumber_list h_s_BadNumber_tuple h_s_BadNumber_int h_s_BadNumber_str h_s_BadNumber_bool h_a_TooFewServed h_cl_TooFewServed h_ty_TooFewServed h_k_TooFewServed h_hd_TooFewServed h_ca_TooFewServed h_mo_TooFewServed h_sa_TooFewServed h_s_TooFewServed_PartyError h_s_TooFewServed_BadFoot h_s_TooFewServed_BadSize h_s_TooFewServed_BadNumber h_s_TooFewServed_TooFewServed h_s_TooFewServed_Pledge h_s_TooFewServed_ValueError h_s_TooFewServed_LookupError h_s_TooFewServed_list h_s_TooFewServed_tuple h_s_TooFewServed_int h_s_TooFewServed_str h_s_TooFewServed_bool h_a_Pledge h_cl_Pledge h_ty_Pledge h_k_Pledge h_hd_Pledge h_ca_Pledge h_mo_Pledge h_sa_Pledge h_s_Pledge_PartyError h_s_Pledge_BadFoot h_s_Pledge_BadSize h_s_Pledge_BadNumber h_s_Pledge_TooFewServed h_s_Pledge_Pledge h_s_Pledge_ValueError h_s_Pledge_LookupError h_s_Pledge_list h_s_Pledge_tuple h_s_Pledge_int h_s_Pledge_str h_s_Pledge_bool h_q_NoneType_Pledge h_q_bool_Pledge h_q_int_Pledge h_q_str_Pledge h_q_list_Pledge h_q_tuple_Pledge h_q_dict_Pledge h_ga_PartyError h_gt_PartyError h_sb_PartyError h_ga_BadFoot h_gt_BadFoot h_sb_BadFoot h_n_BadFoot h_ga_BadSize h_gt_BadSize h_sb_BadSize h_n_BadSize h_ga_BadNumber h_gt_BadNumber h_sb_BadNumber h_n_BadNumber h_ga_TooFewServed h_gt_TooFewServed h_sb_TooFewServed h_n_TooFewServed h_pg_Pledge h_po_Pledge h_mk_Pledge h_f_Pledge_pledge xL_BadNumber xr_BadNumber xL_TooFewServed xr_TooFewServed e0_PartyError
end DL

open PySem PySem.W PyProof.Rows in
set_option maxRecDepth 100000 in
set_option maxHeartbeats 0 in
theorem PySem.Challenge.cw_shoeparty_k46_pledges_holds : PySem.Challenge.rw_shoeparty_k46_pledges.Holds := by
  w_on; o_law; k_head; (case hw => w_witness2)
  k_fill
  refine DL.walk_g (l := PySem.Challenge.rw_shoeparty_k46_pledges) (k := 6) (x := "script") rfl rfl ⟨rfl, by decide, by decide⟩ (fun w h Y => PySem.W.kIn_of Y) ?F
  case F =>
    intro w mg fa h KX G hmg
    refine' DL.all_mk2 KX G hmg ?a0 ?l0 ?c0 ?k0 ?a1 ?l1 ?c1 ?k1 ?a2 ?l2 ?c2 ?k2 ?a3 ?l3 ?c3 ?k3 ?a4 ?l4 ?c4 ?k4 ?a5 ?l5 ?c5 ?k5 ?a6 ?l6 ?c6 ?k6 ?a7 ?l7 ?c7 ?k7 ?a8 ?fn8 ?l8 ?c8 ?k8 ?a9 ?fn9 ?l9 ?c9 ?k9 ?a10 ?tI10 ?l10 ?c10 ?k10 ?a11 ?tI11 ?l11 ?c11 ?k11 ?z_ValueError ?z_abs ?z_bool ?z_int ?z_isinstance ?z_len ?z_list ?z_max ?z_range ?z_repr ?y_LIMIT ?h_cg ?h_ct ?h_a_PartyError ?h_cl_PartyError ?h_ty_PartyError ?h_k_PartyError ?h_hd_PartyError ?h_ca_PartyError ?h_mo_PartyError ?h_sa_PartyError ?h_s_PartyError_PartyError ?h_s_PartyError_BadFoot ?h_s_PartyError_BadSize ?h_s_PartyError_BadNumber ?h_s_PartyError_TooFewServed ?h_s_PartyError_Pledge ?h_s_PartyError_ValueError ?h_s_PartyError_LookupError ?h_s_PartyError_list ?h_s_PartyError_tuple ?h_s_PartyError_int ?h_s_PartyError_str ?h_s_PartyError_bool ?h_a_BadFoot ?h_cl_BadFoot ?h_ty_BadFoot ?h_k_BadFoot ?h_hd_BadFoot ?h_ca_BadFoot ?h_mo_BadFoot ?h_sa_BadFoot ?h_s_BadFoot_PartyError ?h_s_BadFoot_BadFoot ?h_s_BadFoot_BadSize ?h_s_BadFoot_BadNumber ?h_s_BadFoot_TooFewServed ?h_s_BadFoot_Pledge ?h_s_BadFoot_ValueError ?h_s_BadFoot_LookupError ?h_s_BadFoot_list ?h_s_BadFoot_tuple ?h_s_BadFoot_int ?h_s_BadFoot_str ?h_s_BadFoot_bool ?h_a_BadSize ?h_cl_BadSize ?h_ty_BadSize ?h_k_BadSize ?h_hd_BadSize ?h_ca_BadSize ?h_mo_BadSize ?h_sa_BadSize ?h_s_BadSize_PartyError ?h_s_BadSize_BadFoot ?h_s_BadSize_BadSize ?h_s_BadSize_BadNumber ?h_s_BadSize_TooFewServed ?h_s_BadSize_Pledge ?h_s_BadSize_ValueError ?h_s_BadSize_LookupError ?h_s_BadSize_list ?h_s_BadSize_tuple ?h_s_BadSize_int ?h_s_BadSize_str ?h_s_BadSize_bool ?h_a_BadNumber ?h_cl_BadNumber ?h_ty_BadNumber ?h_k_BadNumber ?h_hd_BadNumber ?h_ca_BadNumber ?h_mo_BadNumber ?h_sa_BadNumber ?h_s_BadNumber_PartyError ?h_s_BadNumber_BadFoot ?h_s_BadNumber_BadSize ?h_s_BadNumber_BadNumber ?h_s_BadNumber_TooFewServed ?h_s_BadNumber_Pledge ?h_s_BadNumber_ValueError ?h_s_BadNumber_LookupError ?h_s_BadNumber_list ?h_s_BadNumber_tuple ?h_s_BadNumber_int ?h_s_BadNumber_str ?h_s_BadNumber_bool ?h_a_TooFewServed ?h_cl_TooFewServed ?h_ty_TooFewServed ?h_k_TooFewServed ?h_hd_TooFewServed ?h_ca_TooFewServed ?h_mo_TooFewServed ?h_sa_TooFewServed ?h_s_TooFewServed_PartyError ?h_s_TooFewServed_BadFoot ?h_s_TooFewServed_BadSize ?h_s_TooFewServed_BadNumber ?h_s_TooFewServed_TooFewServed ?h_s_TooFewServed_Pledge ?h_s_TooFewServed_ValueError ?h_s_TooFewServed_LookupError ?h_s_TooFewServed_list ?h_s_TooFewServed_tuple ?h_s_TooFewServed_int ?h_s_TooFewServed_str ?h_s_TooFewServed_bool ?h_a_Pledge ?h_cl_Pledge ?h_ty_Pledge ?h_k_Pledge ?h_hd_Pledge ?h_ca_Pledge ?h_mo_Pledge ?h_sa_Pledge ?h_s_Pledge_PartyError ?h_s_Pledge_BadFoot ?h_s_Pledge_BadSize ?h_s_Pledge_BadNumber ?h_s_Pledge_TooFewServed ?h_s_Pledge_Pledge ?h_s_Pledge_ValueError ?h_s_Pledge_LookupError ?h_s_Pledge_list ?h_s_Pledge_tuple ?h_s_Pledge_int ?h_s_Pledge_str ?h_s_Pledge_bool ?h_q_NoneType_Pledge ?h_q_bool_Pledge ?h_q_int_Pledge ?h_q_str_Pledge ?h_q_list_Pledge ?h_q_tuple_Pledge ?h_q_dict_Pledge ?h_ga_PartyError ?h_gt_PartyError ?h_sb_PartyError ?h_ga_BadFoot ?h_gt_BadFoot ?h_sb_BadFoot ?h_n_BadFoot ?h_ga_BadSize ?h_gt_BadSize ?h_sb_BadSize ?h_n_BadSize ?h_ga_BadNumber ?h_gt_BadNumber ?h_sb_BadNumber ?h_n_BadNumber ?h_ga_TooFewServed ?h_gt_TooFewServed ?h_sb_TooFewServed ?h_n_TooFewServed ?h_pg_Pledge ?h_po_Pledge ?h_mk_Pledge ?h_f_Pledge_pledge ?xL_BadNumber ?xr_BadNumber ?xL_TooFewServed ?xr_TooFewServed ?e0_PartyError
    (case h_a_PartyError => k_is)
    (case h_a_BadFoot => k_is)
    (case h_a_BadSize => k_is)
    (case h_a_BadNumber => k_is)
    (case h_a_TooFewServed => k_is)
    (case h_a_Pledge => k_is)
    (case a0 => k_is)
    (case l0 => k_is)
    (case c0 => k_is)
    (case k0 => k_is)
    (case a1 => k_is)
    (case l1 => k_is)
    (case c1 => k_is)
    (case k1 => k_is)
    (case a2 => k_is)
    (case l2 => k_is)
    (case c2 => k_is)
    (case k2 => k_is)
    (case a3 => k_is)
    (case l3 => k_is)
    (case c3 => k_is)
    (case k3 => k_is)
    (case a4 => k_is)
    (case l4 => k_is)
    (case c4 => k_is)
    (case k4 => k_is)
    (case a5 => k_is)
    (case l5 => k_is)
    (case c5 => k_is)
    (case k5 => k_is)
    (case a6 => k_is)
    (case l6 => k_is)
    (case c6 => k_is)
    (case k6 => k_is)
    (case a7 => k_is)
    (case l7 => k_is)
    (case c7 => k_is)
    (case k7 => k_is)
    (case a8 => k_is)
    (case fn8 => k_is)
    (case l8 => k_is)
    (case c8 => k_is)
    (case k8 => k_is)
    (case a9 => k_is)
    (case fn9 => k_is)
    (case l9 => k_is)
    (case c9 => k_is)
    (case k9 => k_is)
    (case a10 => k_is)
    (case tI10 => k_is)
    (case l10 => k_is)
    (case c10 => k_is)
    (case k10 => k_is)
    (case a11 => k_is)
    (case tI11 => k_is)
    (case l11 => k_is)
    (case c11 => k_is)
    (case k11 => k_is)
    (case z_ValueError => k_is)
    (case z_abs => k_is)
    (case z_bool => k_is)
    (case z_int => k_is)
    (case z_isinstance => k_is)
    (case z_len => k_is)
    (case z_list => k_is)
    (case z_max => k_is)
    (case z_range => k_is)
    (case z_repr => k_is)
    (case y_LIMIT => k_is)
    (case h_cg => k_is)
    (case h_ct => k_is)
    (case h_cl_PartyError => k_is)
    (case h_ty_PartyError => k_is)
    (case h_k_PartyError => k_is)
    (case h_hd_PartyError => k_is)
    (case h_ca_PartyError => k_is)
    (case h_mo_PartyError => k_is)
    (case h_sa_PartyError => k_is)
    (case h_s_PartyError_PartyError => k_is)
    (case h_s_PartyError_BadFoot => k_is)
    (case h_s_PartyError_BadSize => k_is)
    (case h_s_PartyError_BadNumber => k_is)
    (case h_s_PartyError_TooFewServed => k_is)
    (case h_s_PartyError_Pledge => k_is)
    (case h_s_PartyError_ValueError => k_is)
    (case h_s_PartyError_LookupError => k_is)
    (case h_s_PartyError_list => k_is)
    (case h_s_PartyError_tuple => k_is)
    (case h_s_PartyError_int => k_is)
    (case h_s_PartyError_str => k_is)
    (case h_s_PartyError_bool => k_is)
    (case h_cl_BadFoot => k_is)
    (case h_ty_BadFoot => k_is)
    (case h_k_BadFoot => k_is)
    (case h_hd_BadFoot => k_is)
    (case h_ca_BadFoot => k_is)
    (case h_mo_BadFoot => k_is)
    (case h_sa_BadFoot => k_is)
    (case h_s_BadFoot_PartyError => k_is)
    (case h_s_BadFoot_BadFoot => k_is)
    (case h_s_BadFoot_BadSize => k_is)
    (case h_s_BadFoot_BadNumber => k_is)
    (case h_s_BadFoot_TooFewServed => k_is)
    (case h_s_BadFoot_Pledge => k_is)
    (case h_s_BadFoot_ValueError => k_is)
    (case h_s_BadFoot_LookupError => k_is)
    (case h_s_BadFoot_list => k_is)
    (case h_s_BadFoot_tuple => k_is)
    (case h_s_BadFoot_int => k_is)
    (case h_s_BadFoot_str => k_is)
    (case h_s_BadFoot_bool => k_is)
    (case h_cl_BadSize => k_is)
    (case h_ty_BadSize => k_is)
    (case h_k_BadSize => k_is)
    (case h_hd_BadSize => k_is)
    (case h_ca_BadSize => k_is)
    (case h_mo_BadSize => k_is)
    (case h_sa_BadSize => k_is)
    (case h_s_BadSize_PartyError => k_is)
    (case h_s_BadSize_BadFoot => k_is)
    (case h_s_BadSize_BadSize => k_is)
    (case h_s_BadSize_BadNumber => k_is)
    (case h_s_BadSize_TooFewServed => k_is)
    (case h_s_BadSize_Pledge => k_is)
    (case h_s_BadSize_ValueError => k_is)
    (case h_s_BadSize_LookupError => k_is)
    (case h_s_BadSize_list => k_is)
    (case h_s_BadSize_tuple => k_is)
    (case h_s_BadSize_int => k_is)
    (case h_s_BadSize_str => k_is)
    (case h_s_BadSize_bool => k_is)
    (case h_cl_BadNumber => k_is)
    (case h_ty_BadNumber => k_is)
    (case h_k_BadNumber => k_is)
    (case h_hd_BadNumber => k_is)
    (case h_ca_BadNumber => k_is)
    (case h_mo_BadNumber => k_is)
    (case h_sa_BadNumber => k_is)
    (case h_s_BadNumber_PartyError => k_is)
    (case h_s_BadNumber_BadFoot => k_is)
    (case h_s_BadNumber_BadSize => k_is)
    (case h_s_BadNumber_BadNumber => k_is)
    (case h_s_BadNumber_TooFewServed => k_is)
    (case h_s_BadNumber_Pledge => k_is)
    (case h_s_BadNumber_ValueError => k_is)
    (case h_s_BadNumber_LookupError => k_is)
    (case h_s_BadNumber_list => k_is)
    (case h_s_BadNumber_tuple => k_is)
    (case h_s_BadNumber_int => k_is)
    (case h_s_BadNumber_str => k_is)
    (case h_s_BadNumber_bool => k_is)
    (case h_cl_TooFewServed => k_is)
    (case h_ty_TooFewServed => k_is)
    (case h_k_TooFewServed => k_is)
    (case h_hd_TooFewServed => k_is)
    (case h_ca_TooFewServed => k_is)
    (case h_mo_TooFewServed => k_is)
    (case h_sa_TooFewServed => k_is)
    (case h_s_TooFewServed_PartyError => k_is)
    (case h_s_TooFewServed_BadFoot => k_is)
    (case h_s_TooFewServed_BadSize => k_is)
    (case h_s_TooFewServed_BadNumber => k_is)
    (case h_s_TooFewServed_TooFewServed => k_is)
    (case h_s_TooFewServed_Pledge => k_is)
    (case h_s_TooFewServed_ValueError => k_is)
    (case h_s_TooFewServed_LookupError => k_is)
    (case h_s_TooFewServed_list => k_is)
    (case h_s_TooFewServed_tuple => k_is)
    (case h_s_TooFewServed_int => k_is)
    (case h_s_TooFewServed_str => k_is)
    (case h_s_TooFewServed_bool => k_is)
    (case h_cl_Pledge => k_is)
    (case h_ty_Pledge => k_is)
    (case h_k_Pledge => k_is)
    (case h_hd_Pledge => k_is)
    (case h_ca_Pledge => k_is)
    (case h_mo_Pledge => k_is)
    (case h_sa_Pledge => k_is)
    (case h_s_Pledge_PartyError => k_is)
    (case h_s_Pledge_BadFoot => k_is)
    (case h_s_Pledge_BadSize => k_is)
    (case h_s_Pledge_BadNumber => k_is)
    (case h_s_Pledge_TooFewServed => k_is)
    (case h_s_Pledge_Pledge => k_is)
    (case h_s_Pledge_ValueError => k_is)
    (case h_s_Pledge_LookupError => k_is)
    (case h_s_Pledge_list => k_is)
    (case h_s_Pledge_tuple => k_is)
    (case h_s_Pledge_int => k_is)
    (case h_s_Pledge_str => k_is)
    (case h_s_Pledge_bool => k_is)
    (case h_q_NoneType_Pledge => k_is)
    (case h_q_bool_Pledge => k_is)
    (case h_q_int_Pledge => k_is)
    (case h_q_str_Pledge => k_is)
    (case h_q_list_Pledge => k_is)
    (case h_q_tuple_Pledge => k_is)
    (case h_q_dict_Pledge => k_is)
    (case h_ga_PartyError => k_is)
    (case h_gt_PartyError => k_is)
    (case h_sb_PartyError => k_is)
    (case h_ga_BadFoot => k_is)
    (case h_gt_BadFoot => k_is)
    (case h_sb_BadFoot => k_is)
    (case h_n_BadFoot => k_is)
    (case h_ga_BadSize => k_is)
    (case h_gt_BadSize => k_is)
    (case h_sb_BadSize => k_is)
    (case h_n_BadSize => k_is)
    (case h_ga_BadNumber => k_is)
    (case h_gt_BadNumber => k_is)
    (case h_sb_BadNumber => k_is)
    (case h_n_BadNumber => k_is)
    (case h_ga_TooFewServed => k_is)
    (case h_gt_TooFewServed => k_is)
    (case h_sb_TooFewServed => k_is)
    (case h_n_TooFewServed => k_is)
    (case h_pg_Pledge => k_is)
    (case h_po_Pledge => k_is)
    (case h_mk_Pledge => k_is)
    (case h_f_Pledge_pledge => k_is)
    (case xL_BadNumber => k_is)
    (case xL_TooFewServed => k_is)
    (case xr_BadNumber => decide +kernel)
    (case xr_TooFewServed => decide +kernel)
    (case e0_PartyError => k_exc)
#print axioms PySem.Challenge.cw_shoeparty_k46_pledges_holds
