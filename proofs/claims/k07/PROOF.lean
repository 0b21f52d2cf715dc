import PyProof.Rows.All
import PyProof.LongRange
import HandS.Style
import PyProof.ReprRoads
import PyProof.ReprBulk
import Wide.All
import OpenK.AllK
import Wide.FinOn
import HandS.ForMost
import HandS.ForExc
import HandS.Wide
import HandS.Property
import HandS.Gcd
import HandS.ExcInit
import HandS.IsInst
import HandS.MakeKw
import KE.KMathGC
import HandS.Conv
import KE.KExcIs
import HandS.ExcIs
import HandS.ExcField
import HandS.WordsExc
import HandS.Iter
import HandS.Walk
import KE.DataMinMax
import HandS.RevRange
import HandS.SortRule
import PyProof.Rows.SetFrom
import HandS.SetFor
import HandS.Strs
import HandS.SortInts
import HandS.SetBool
import PySem.Challenge.RW_fitsizes_k07_errors_of_pipelines
set_option Elab.async false
set_option linter.all false
set_option autoImplicit false
set_option maxRecDepth 100000
/-! A calculus over the hand layer: names hold data, mutable things stand in a store, the heap is hidden. -/
namespace Gm
open PySem L2

/-! ### data -/
inductive D where
  | non | bl (b : Bool) | int (i : Int) | str (s : Str)
  | scr (ns : List Int)
  | lst (xs : List D) | tup (xs : List D)
  | obj (C : Addr) (fs : List (Str × D))
  | cls (C : Addr) | ty (n : String)
  /-- a caught error at a, its dict at dd, its value -/
  | exn (a dd : Addr) (u : D)
  /-- an error that is held: its class, its value -/
  | eob (C : Addr) (u : D)

mutual
inductive Den (K : PySem.W.Frag) (R : Hp) : V → D → Prop
  | non : Den K R .non .non
  | bl (b : Bool) : Den K R (.bl b) (.bl b)
  | int (i : Int) : Den K R (.int i) (.int i)
  | str (x : Str) : Den K R (.str x) (.str x)
  | cls (C : Addr) : Den K R (.ref C) (.cls C)
  | ty (n : String) : Den K R (.ty n) (.ty n)
  | scr {a : Addr} {ns : List Int} : SqL K R a (ns.map V.int) → Den K R (.ref a) (.scr ns)
  | lst {a : Addr} {vs : List V} {ds : List D} : R a = some (.lst vs) → Dens K R vs ds → Den K R (.ref a) (.lst ds)
  | tup {a : Addr} {vs : List V} {ds : List D} : R a = some (.tup vs) → Dens K R vs ds → Den K R (.ref a) (.tup ds)
  | obj {a C dx : Addr} {fs : List (Str × V)} {gs : List (Str × D)} : R a = some (.ins C dx fs) → DenF K R fs gs → Den K R (.ref a) (.obj C gs)
  | exn {a dd : Addr} {z : V} {u : D} : R dd = some (.xd [(("value" : Str), z)]) → Den K R z u → Den K R (.ref a) (.exn a dd u)
  | eob {a dd C : Addr} {z : V} {u : D} : R a = some (exo a C (some dd)) → R dd = some (exd dd [(("value" : Str), z)]) → Den K R z u → Den K R (.ref a) (.eob C u)
inductive Dens (K : PySem.W.Frag) (R : Hp) : List V → List D → Prop
  | nil : Dens K R [] []
  | cons {v : V} {vs : List V} {d : D} {ds : List D} : Den K R v d → Dens K R vs ds → Dens K R (v :: vs) (d :: ds)
inductive DenF (K : PySem.W.Frag) (R : Hp) : List (Str × V) → List (Str × D) → Prop
  | nil : DenF K R [] []
  | cons {x : Str} {v : V} {d : D} {fs : List (Str × V)} {gs : List (Str × D)} : Den K R v d → DenF K R fs gs → DenF K R ((x, v) :: fs) ((x, d) :: gs)
end

def Sub (R R' : Hp) : Prop := ∀ b o, R b = some o → R' b = some o
theorem Sub.refl (R : Hp) : Sub R R := fun _ _ h => h
theorem Sub.trans {R R1 R2 : Hp} (a : Sub R R1) (b : Sub R1 R2) : Sub R R2 := fun c o h => b c o (a c o h)
theorem sub_seq {K : PySem.W.Frag} {H H' : Hp} {a : Addr} {xs : List V} (e : Sub H H') (h : SqL K H a xs) : SqL K H' a xs := by
  rcases h with (h | ⟨o, h⟩) | h
  · exact .inl (.inl (e _ _ h))
  · exact .inl (.inr ⟨o, e _ _ h⟩)
  · exact .inr h

section
variable {K : PySem.W.Frag} {R R' : Hp}
mutual
theorem Den.mono (e : Sub R R') : ∀ {v : V} {d : D}, Den K R v d → Den K R' v d
  | _, _, .non => .non
  | _, _, .bl b => .bl b
  | _, _, .int i => .int i
  | _, _, .str x => .str x
  | _, _, .exn h t => .exn (e _ _ h) (Den.mono e t)
  | _, _, .eob h i t => .eob (e _ _ h) (e _ _ i) (Den.mono e t)
  | _, _, .cls C => .cls C
  | _, _, .ty n => .ty n
  | _, _, .scr h => .scr (sub_seq e h)
  | _, _, .lst h r => .lst (e _ _ h) (Dens.mono e r)
  | _, _, .tup h r => .tup (e _ _ h) (Dens.mono e r)
  | _, _, .obj h r => .obj (e _ _ h) (DenF.mono e r)
theorem Dens.mono (e : Sub R R') : ∀ {vs : List V} {ds : List D}, Dens K R vs ds → Dens K R' vs ds
  | _, _, .nil => .nil
  | _, _, .cons h r => .cons (Den.mono e h) (Dens.mono e r)
theorem DenF.mono (e : Sub R R') : ∀ {vs : List (Str × V)} {ds : List (Str × D)}, DenF K R vs ds → DenF K R' vs ds
  | _, _, .nil => .nil
  | _, _, .cons h r => .cons (Den.mono e h) (DenF.mono e r)
end
theorem Dens.len : ∀ {vs : List V} {ds : List D}, Dens K R vs ds → vs.length = ds.length
  | _, _, .nil => rfl
  | _, _, .cons _ r => congrArg (· + 1) (Dens.len r)
theorem Dens.get : ∀ {vs : List V} {ds : List D} {i : Nat} {d : D}, Dens K R vs ds → ds[i]? = some d → ∃ v, vs[i]? = some v ∧ Den K R v d
  | _, _, _, _, .nil, e => by simp at e
  | _, _, 0, _, .cons h _, e => by simp at e; subst e; exact ⟨_, rfl, h⟩
  | _, _, i + 1, _, .cons _ r, e => by
    obtain ⟨v, h1, h2⟩ := Dens.get (i := i) r (by simpa using e)
    exact ⟨v, by simpa using h1, h2⟩
theorem Dens.get2 : ∀ {vs : List V} {ds : List D} {i : Nat} {v : V}, Dens K R vs ds → vs[i]? = some v → ∃ d, ds[i]? = some d ∧ Den K R v d
  | _, _, _, _, .nil, e => by simp at e
  | _, _, 0, _, .cons h _, e => by simp at e; subst e; exact ⟨_, rfl, h⟩
  | _, _, i + 1, _, .cons _ r, e => by
    obtain ⟨v, h1, h2⟩ := Dens.get2 (i := i) r (by simpa using e)
    exact ⟨v, by simpa using h1, h2⟩
theorem Dens.append : ∀ {vs ws : List V} {ds es : List D}, Dens K R vs ds → Dens K R ws es → Dens K R (vs ++ ws) (ds ++ es)
  | _, _, _, _, .nil, s => s
  | _, _, _, _, .cons h r, s => .cons h (Dens.append r s)
theorem Dens.take : ∀ {vs : List V} {ds : List D} (n : Nat), Dens K R vs ds → Dens K R (vs.take n) (ds.take n)
  | _, _, 0, _ => by simpa using Dens.nil
  | _, _, _ + 1, .nil => .nil
  | _, _, n + 1, .cons h r => .cons h (Dens.take n r)
theorem Dens.drop : ∀ {vs : List V} {ds : List D} (n : Nat), Dens K R vs ds → Dens K R (vs.drop n) (ds.drop n)
  | _, _, 0, r => r
  | _, _, _ + 1, .nil => .nil
  | _, _, n + 1, .cons _ r => Dens.drop n r
theorem Dens.set {v : V} {d : D} (h : Den K R v d) : ∀ {vs : List V} {ds : List D} (i : Nat), Dens K R vs ds → Dens K R (vs.set i v) (ds.set i d)
  | _, _, _, .nil => .nil
  | _, _, 0, .cons _ r => .cons h r
  | _, _, i + 1, .cons h' r => .cons h' (Dens.set h i r)
theorem Dens.dropLast {vs : List V} {ds : List D} (r : Dens K R vs ds) : Dens K R vs.dropLast ds.dropLast := by
  rw [List.dropLast_eq_take, List.dropLast_eq_take, r.len]
  exact r.take _
theorem Dens.ints : ∀ {vs : List V} {ns : List Int}, Dens K R vs (ns.map D.int) → vs = ns.map V.int
  | _, [], r => by cases r; rfl
  | _, n :: ns, r => by
    cases r with
    | cons h r => cases h; rw [Dens.ints r]; rfl
theorem Dens.of_ints : ∀ (ns : List Int), Dens K R (ns.map V.int) (ns.map D.int)
  | [] => .nil
  | n :: ns => .cons (.int n) (Dens.of_ints ns)
theorem DenF.lookup {f : Str} : ∀ {fs : List (Str × V)} {gs : List (Str × D)} {d : D}, DenF K R fs gs → gs.lookup f = some d → ∃ v, fs.lookup f = some v ∧ Den K R v d
  | _, _, _, .nil, e => by simp at e
  | _, _, d, .cons (x := x) (v := v) (d := d') h r, e => by
    simp only [List.lookup_cons] at e ⊢
    cases q : (f == x) with
    | true => rw [q] at e; cases e; exact ⟨_, rfl, h⟩
    | false => rw [q] at e; exact DenF.lookup r e
theorem DenF.none {f : Str} : ∀ {fs : List (Str × V)} {gs : List (Str × D)}, DenF K R fs gs → gs.lookup f = none → fs.lookup f = none
  | _, _, .nil, _ => rfl
  | _, _, .cons (x := x) (v := v) (d := d') h r, e => by
    simp only [List.lookup_cons] at e ⊢
    cases q : (f == x) with
    | true => rw [q] at e; cases e
    | false => rw [q] at e; exact DenF.none r e
theorem DenF.len : ∀ {fs : List (Str × V)} {gs : List (Str × D)}, DenF K R fs gs → fs.length = gs.length
  | _, _, .nil => rfl
  | _, _, .cons _ r => congrArg (· + 1) (DenF.len r)
/-- a field stored, over data -/
def putG (f : Str) (d : D) : List (Str × D) → List (Str × D)
  | [] => [(f, d)]
  | (x, e) :: r => if x = f then (x, d) :: r else (x, e) :: putG f d r
theorem DenF.put {f : Str} {v : V} {d : D} (h : Den K R v d) : ∀ {fs : List (Str × V)} {gs : List (Str × D)}, DenF K R fs gs → DenF K R (putF f v fs) (putG f d gs)
  | _, _, .nil => .cons h .nil
  | _, _, .cons (x := x) (v := w) (d := e) (fs := fs) (gs := gs) h' r => by
    show DenF K R (if x = f then (x, v) :: fs else (x, w) :: putF f v fs) (if x = f then (x, d) :: gs else (x, e) :: putG f d gs)
    by_cases q : x = f
    · rw [if_pos q, if_pos q]; exact .cons h r
    · rw [if_neg q, if_neg q]; exact .cons h' (DenF.put h r)
end

/-! ### the store -/
inductive Own where
  | lst (xs : List D) | ins (C : Addr) (fs : List (Str × D)) | gone
  /-- a dict with texts as keys; a list that stands at g -/
  | dct (gs : List (Str × D)) | lat (g : Addr) (xs : List D)
  /-- a dict whose keys are pairs of numbers (what stands there is not told) -/
  | sn (ps : List (Int × Int))
inductive Ent where
  | d (x : D) | own (i : Nat) | tup (es : List Ent)

structure Wd where
  K : PySem.W.Frag
  R0 : Hp
  H0 : Hp
  as0 : List Addr

/-- the pairs of a dict whose keys are texts -/
def DenK (K : PySem.W.Frag) (R : Hp) : List (L2.Key × V) → List (Str × D) → Prop
  | [], [] => True
  | p :: ps, q :: qs => p.1 = .inr q.1 ∧ Den K R p.2 q.2 ∧ DenK K R ps qs
  | _, _ => False
theorem DenK.mono {K : PySem.W.Frag} {R R' : Hp} (r : Sub R R') : ∀ {ps : List (L2.Key × V)} {qs : List (Str × D)}, DenK K R ps qs → DenK K R' ps qs
  | [], [], _ => trivial
  | _ :: _, _ :: _, ⟨a, b, c⟩ => ⟨a, b.mono r, c.mono r⟩
  | [], _ :: _, h => h.elim
  | _ :: _, [], h => h.elim
def RegOk (K : PySem.W.Frag) (R H : Hp) (a : Addr) : Own → Prop
  | .lst xs => R a = none ∧ ∃ vs, H a = some (.lst vs) ∧ Dens K R vs xs
  | .ins C gs => R a = none ∧ ∃ dx fs, H a = some (.ins C dx fs) ∧ DenF K R fs gs
  | .gone => True
  | .dct gs => R a = none ∧ ∃ kvs, H a = some (.dK kvs) ∧ DenK K R kvs gs
  | .lat g xs => a = g ∧ R a = none ∧ ∃ vs, H a = some (.lst vs) ∧ Dens K R vs xs
  | .sn ps => R a = none ∧ ∃ kvs : List (List L2.Key × V), H a = some (.dT kvs) ∧ kvs.map (·.1) = ps.map fun p => [.inl p.1, .inl p.2]

structure Rel (w : Wd) (R H : Hp) (as : List Addr) (S : List Own) : Prop where
  r0 : Sub w.R0 R
  sub : Sub R H
  keep : ∀ b o, w.H0 b = some o → b ∉ w.as0 → H b = some o
  there : ∀ b, H b = none → w.H0 b = none
  pre : ∀ (i : Nat) (a : Addr), w.as0[i]? = some a → as[i]? = some a
  orig : ∀ b o, R b = some o → w.R0 b = some o ∨ w.H0 b = none ∨ b ∈ w.as0
  len : as.length = S.length
  reg : ∀ (i : Nat) (o : Own) (a : Addr), S[i]? = some o → as[i]? = some a → o ≠ .gone → RegOk w.K R H a o ∧ (w.H0 a = none ∨ a ∈ w.as0)
  dist : ∀ (i j : Nat) (a : Addr) (o u : Own), S[i]? = some o → S[j]? = some u → o ≠ .gone → u ≠ .gone → as[i]? = some a → as[j]? = some a → i = j

mutual
def EntOk (K : PySem.W.Frag) (R : Hp) (as : List Addr) : V → Ent → Prop
  | v, .d x => Den K R v x
  | v, .own i => ∃ a, as[i]? = some a ∧ v = .ref a
  | v, .tup es => ∃ a vs, v = .ref a ∧ R a = some (.tup vs) ∧ EntsOk K R as vs es
def EntsOk (K : PySem.W.Frag) (R : Hp) (as : List Addr) : List V → List Ent → Prop
  | [], [] => True
  | v :: vs, e :: es => EntOk K R as v e ∧ EntsOk K R as vs es
  | _, _ => False
end
def Pre (as as' : List Addr) : Prop := ∀ (i : Nat) (a : Addr), as[i]? = some a → as'[i]? = some a
theorem Pre.refl (as : List Addr) : Pre as as := fun _ _ h => h
theorem Pre.trans {a b c : List Addr} (h : Pre a b) (k : Pre b c) : Pre a c := fun i x e => k i x (h i x e)
theorem Pre.app (as bs : List Addr) : Pre as (as ++ bs) := fun i a h => by
  have := (List.getElem?_eq_some_iff.mp h).1
  rw [List.getElem?_append_left this]; exact h
mutual
theorem EntOk.mono {K : PySem.W.Frag} {R R' : Hp} {as as' : List Addr} (r : Sub R R') (p : Pre as as') : ∀ {v : V} {e : Ent}, EntOk K R as v e → EntOk K R' as' v e
  | _, .d _, h => Den.mono r h
  | _, .own _, ⟨a, h1, h2⟩ => ⟨a, p _ _ h1, h2⟩
  | _, .tup _, ⟨a, vs, h1, h2, h3⟩ => ⟨a, vs, h1, r _ _ h2, EntsOk.mono r p h3⟩
theorem EntsOk.mono {K : PySem.W.Frag} {R R' : Hp} {as as' : List Addr} (r : Sub R R') (p : Pre as as') : ∀ {vs : List V} {es : List Ent}, EntsOk K R as vs es → EntsOk K R' as' vs es
  | [], [], _ => trivial
  | _ :: _, _ :: _, ⟨h, t⟩ => ⟨EntOk.mono r p h, EntsOk.mono r p t⟩
  | [], _ :: _, h => h.elim
  | _ :: _, [], h => h.elim
end
theorem EntOk.mo {K : PySem.W.Frag} {R R' : Hp} {as as' : List Addr} {v : V} {e : Ent} (h : EntOk K R as v e) (r : Sub R R') (p : Pre as as') : EntOk K R' as' v e := EntOk.mono r p h
theorem EntsOk.mo {K : PySem.W.Frag} {R R' : Hp} {as as' : List Addr} {vs : List V} {es : List Ent} (h : EntsOk K R as vs es) (r : Sub R R') (p : Pre as as') : EntsOk K R' as' vs es := EntsOk.mono r p h
abbrev Env := List (Option Ent)
structure Sts (K : PySem.W.Frag) (R : Hp) (as : List Addr) (σ : St) (Γ : Env) : Prop where
  len : σ.length = Γ.length
  get : ∀ (i : Nat) (e : Ent), Γ[i]? = some (some e) → ∃ v, σ[i]? = some (some v) ∧ EntOk K R as v e
theorem Sts.mono {K : PySem.W.Frag} {R R' : Hp} {as as' : List Addr} {σ : St} {Γ : Env} (h : Sts K R as σ Γ) (r : Sub R R') (p : Pre as as') : Sts K R' as' σ Γ :=
  ⟨h.len, fun i e q => let ⟨v, h1, h2⟩ := h.get i e q; ⟨v, h1, h2.mo r p⟩⟩
theorem Sts.set {K : PySem.W.Frag} {R : Hp} {as : List Addr} {σ : St} {Γ : Env} {v : V} {e : Ent} (h : Sts K R as σ Γ) (i : Nat) (q : EntOk K R as v e) : Sts K R as (σ.set i (some v)) (Γ.set i (some e)) := by
  refine ⟨by rw [List.length_set, List.length_set]; exact h.len, fun j u hj => ?_⟩
  by_cases hij : i = j
  · subst hij
    have hlt : i < Γ.length := by
      have := (List.getElem?_eq_some_iff.mp hj).1
      rw [List.length_set] at this; exact this
    rw [List.getElem?_set_self hlt] at hj
    cases hj
    exact ⟨v, List.getElem?_set_self (by rw [h.len]; exact hlt), q⟩
  · rw [List.getElem?_set_ne hij] at hj
    obtain ⟨x, h1, h2⟩ := h.get j u hj
    exact ⟨x, by rw [List.getElem?_set_ne hij]; exact h1, h2⟩
theorem Sts.wipe1 {K : PySem.W.Frag} {R : Hp} {as : List Addr} {σ : St} {Γ : Env} (h : Sts K R as σ Γ) (i : Nat) : Sts K R as (σ.set i none) (Γ.set i none) := by
  refine ⟨by rw [List.length_set, List.length_set]; exact h.len, fun j u hj => ?_⟩
  by_cases hij : i = j
  · subst hij
    have hlt : i < Γ.length := by
      have := (List.getElem?_eq_some_iff.mp hj).1
      rw [List.length_set] at this; exact this
    rw [List.getElem?_set_self hlt] at hj
    cases hj
  · rw [List.getElem?_set_ne hij] at hj
    obtain ⟨x, h1, h2⟩ := h.get j u hj
    exact ⟨x, by rw [List.getElem?_set_ne hij]; exact h1, h2⟩
/-- slots forgotten -/
def wipeG (Γ : Env) : List Nat → Env
  | [] => Γ
  | v :: vs => (wipeG Γ vs).set v none
theorem Sts.wipe {K : PySem.W.Frag} {R : Hp} {as : List Addr} {σ : St} {Γ : Env} (h : Sts K R as σ Γ) : ∀ vs : List Nat, Sts K R as (wipe σ vs) (wipeG Γ vs)
  | [] => h
  | v :: vs => (Sts.wipe h vs).wipe1 v
theorem Sts.weak {K : PySem.W.Frag} {R : Hp} {as : List Addr} {σ : St} {Γ Γ' : Env} (h : Sts K R as σ Γ) (hl : Γ'.length = Γ.length) (g : ∀ (i : Nat) (e : Ent), Γ'[i]? = some (some e) → Γ[i]? = some (some e)) : Sts K R as σ Γ' :=
  ⟨h.len.trans hl.symm, fun i e q => h.get i e (g i e q)⟩

section
variable {w : Wd} {R H : Hp} {as : List Addr} {S : List Own}
theorem Rel.own (r : Rel w R H as S) {i : Nat} {o : Own} (h : S[i]? = some o) : ∃ a, as[i]? = some a := by
  have := (List.getElem?_eq_some_iff.mp h).1
  exact ⟨as[i]'(by rw [r.len]; exact this), List.getElem?_eq_getElem _⟩
theorem Rel.fresh (r : Rel w R H as S) {p : Addr} (h : H p = none) : R p = none ∧ w.H0 p = none := by
  refine ⟨?_, r.there p h⟩
  cases q : R p with
  | none => rfl
  | some o => rw [r.sub p o q] at h; cases h
theorem RegOk.upd_ {K : PySem.W.Frag} {R R' H H' : Hp} {a : Addr} {o : Own} (h : RegOk K R H a o) (r : Sub R R') (n : o ≠ .gone → R a = none → R' a = none) (k : o ≠ .gone → H' a = H a) : RegOk K R' H' a o := by
  cases o with
  | lst xs =>
    obtain ⟨h1, vs, h2, h3⟩ := h
    exact ⟨n (by intro z; cases z) h1, vs, by rw [k (by intro z; cases z)]; exact h2, h3.mono r⟩
  | ins C gs =>
    obtain ⟨h1, dx, fs, h2, h3⟩ := h
    exact ⟨n (by intro z; cases z) h1, dx, fs, by rw [k (by intro z; cases z)]; exact h2, h3.mono r⟩
  | gone => trivial
  | dct gs =>
    obtain ⟨h1, kvs, h2, h3⟩ := h
    exact ⟨n (by intro z; cases z) h1, kvs, by rw [k (by intro z; cases z)]; exact h2, h3.mono r⟩
  | lat g xs =>
    obtain ⟨h0, h1, vs, h2, h3⟩ := h
    exact ⟨h0, n (by intro z; cases z) h1, vs, by rw [k (by intro z; cases z)]; exact h2, h3.mono r⟩
  | sn ps =>
    obtain ⟨h1, kvs, h2, h3⟩ := h
    exact ⟨n (by intro z; cases z) h1, kvs, by rw [k (by intro z; cases z)]; exact h2, h3⟩
theorem RegOk.there {K : PySem.W.Frag} {R H : Hp} {a : Addr} {o : Own} (h : RegOk K R H a o) (n : o ≠ .gone) : R a = none ∧ ∃ u, H a = some u := by
  cases o with
  | lst xs => obtain ⟨h1, vs, h2, h3⟩ := h; exact ⟨h1, _, h2⟩
  | ins C gs => obtain ⟨h1, dx, fs, h2, h3⟩ := h; exact ⟨h1, _, h2⟩
  | gone => exact absurd rfl n
  | dct gs => obtain ⟨h1, kvs, h2, h3⟩ := h; exact ⟨h1, _, h2⟩
  | lat g xs => obtain ⟨h0, h1, vs, h2, h3⟩ := h; exact ⟨h1, _, h2⟩
  | sn ps => obtain ⟨h1, kvs, h2, h3⟩ := h; exact ⟨h1, _, h2⟩
/-- a new object, immutable from then on -/
theorem Rel.alloc (r : Rel w R H as S) {p : Addr} (hp : H p = none) (o : HO) : Rel w (upd R p o) (upd H p o) as S ∧ Sub R (upd R p o) := by
  obtain ⟨hR, h0⟩ := r.fresh hp
  have hs : Sub R (upd R p o) := fun b u e => by rw [upd_ne (ne_of_none e hR)]; exact e
  refine ⟨⟨r.r0.trans hs, fun b u e => ?_, fun b u e n => ?_, fun b e => ?_, r.pre, fun b u e => ?_, r.len, fun i u a h1 h2 h3 => ?_, r.dist⟩, hs⟩
  · by_cases hb : b = p
    · subst hb; rw [upd_same] at e; rw [upd_same]; exact e
    · rw [upd_ne hb] at e ⊢; exact r.sub b u e
  · have := r.keep b u e n
    rw [upd_ne (ne_of_none this hp)]; exact this
  · by_cases hb : b = p
    · subst hb; exact h0
    · rw [upd_ne hb] at e; exact r.there b e
  · by_cases hb : b = p
    · subst hb; exact .inr (.inl h0)
    · rw [upd_ne hb] at e; exact r.orig b u e
  · obtain ⟨g1, g2⟩ := r.reg i u a h1 h2 h3
    obtain ⟨z1, z, z2⟩ := g1.there h3
    have ne : a ≠ p := ne_of_none z2 hp
    exact ⟨g1.upd_ hs (fun _ q => by rw [upd_ne ne]; exact q) fun _ => upd_ne ne, g2⟩
/-- a new region -/
theorem Rel.allocO (r : Rel w R H as S) {p : Addr} (hp : H p = none) (u : HO) {o : Own} (ho : RegOk w.K R (upd H p u) p o) : Rel w R (upd H p u) (as ++ [p]) (S ++ [o]) := by
  obtain ⟨hR, h0⟩ := r.fresh hp
  refine ⟨r.r0, fun b u' e => ?_, fun b u' e n => ?_, fun b e => ?_, fun i a h => Pre.app _ _ i a (r.pre i a h), r.orig, by rw [List.length_append, List.length_append, r.len]; rfl, fun i o' a h1 h2 h3 => ?_, fun i j a o1 o2 h1 h2 n1 n2 a1 a2 => ?_⟩
  · rw [upd_ne (ne_of_none e hR)]; exact r.sub b u' e
  · have := r.keep b u' e n
    rw [upd_ne (ne_of_none this hp)]; exact this
  · by_cases hb : b = p
    · subst hb; exact h0
    · rw [upd_ne hb] at e; exact r.there b e
  · by_cases hi : i < S.length
    · rw [List.getElem?_append_left hi] at h1
      rw [List.getElem?_append_left (by rw [r.len]; exact hi)] at h2
      obtain ⟨g1, g2⟩ := r.reg i o' a h1 h2 h3
      obtain ⟨z1, z, z2⟩ := g1.there h3
      have ne : a ≠ p := ne_of_none z2 hp
      exact ⟨g1.upd_ (Sub.refl _) (fun _ q => q) fun _ => upd_ne ne, g2⟩
    · have hi' : i = S.length := by
        have := (List.getElem?_eq_some_iff.mp h1).1
        rw [List.length_append] at this; simp at this; omega
      subst hi'
      rw [List.getElem?_append_right (Nat.le_refl _)] at h1
      rw [← r.len, List.getElem?_append_right (Nat.le_refl _)] at h2
      simp at h1 h2
      subst h1 h2
      exact ⟨ho, .inl h0⟩
  · have old : ∀ (k : Nat) (q : Own), (S ++ [o])[k]? = some q → q ≠ .gone → (as ++ [p])[k]? = some a → k < S.length → a ≠ p := fun k q e1 e2 e3 hk => by
      rw [List.getElem?_append_left hk] at e1
      rw [List.getElem?_append_left (by rw [r.len]; exact hk)] at e3
      obtain ⟨z1, z, z2⟩ := (r.reg k q a e1 e3 e2).1.there e2
      exact ne_of_none z2 hp
    have new : ∀ k : Nat, (as ++ [p])[k]? = some a → ¬ k < S.length → a = p ∧ k = S.length := fun k e hk => by
      have h := (List.getElem?_eq_some_iff.mp e).1
      rw [List.length_append] at h
      simp at h
      have hk' : k = as.length := by rw [r.len] at h ⊢; omega
      subst hk'
      rw [List.getElem?_append_right (Nat.le_refl _)] at e
      simp at e
      exact ⟨e.symm, r.len⟩
    by_cases hi : i < S.length <;> by_cases hj : j < S.length
    · rw [List.getElem?_append_left hi] at h1
      rw [List.getElem?_append_left hj] at h2
      rw [List.getElem?_append_left (by rw [r.len]; exact hi)] at a1
      rw [List.getElem?_append_left (by rw [r.len]; exact hj)] at a2
      exact r.dist i j a o1 o2 h1 h2 n1 n2 a1 a2
    · exact absurd (new j a2 hj).1 (old i o1 h1 n1 a1 hi)
    · exact absurd (new i a1 hi).1 (old j o2 h2 n2 a2 hj)
    · rw [(new i a1 hi).2, (new j a2 hj).2]
/-- a region changed -/
theorem Rel.write (r : Rel w R H as S) {i : Nat} {a : Addr} {o o' : Own} {u : HO} (hi : S[i]? = some o) (ha : as[i]? = some a) (n : o ≠ .gone) (n' : o' ≠ .gone) (ho : RegOk w.K R (upd H a u) a o') : Rel w R (upd H a u) as (S.set i o') := by
  obtain ⟨g1, g2⟩ := r.reg i o a hi ha n
  obtain ⟨z1, z, z2⟩ := g1.there n
  have hlt := (List.getElem?_eq_some_iff.mp hi).1
  have setn : ∀ (k : Nat) (q : Own), (S.set i o')[k]? = some q → q ≠ .gone → ∃ q', S[k]? = some q' ∧ q' ≠ .gone := fun k q e e2 => by
    by_cases hk : i = k
    · subst hk; exact ⟨o, hi, n⟩
    · rw [List.getElem?_set_ne hk] at e; exact ⟨q, e, e2⟩
  refine ⟨r.r0, fun b u' e => ?_, fun b u' e m => ?_, fun b e => ?_, r.pre, r.orig, by rw [List.length_set]; exact r.len, fun k q b h1 h2 h3 => ?_, fun k j b o1 o2 h1 h2 n1 n2 a1 a2 => ?_⟩
  · rw [upd_ne (ne_of_none e z1)]; exact r.sub b u' e
  · have ne : b ≠ a := by
      rintro rfl
      rcases g2 with g2 | g2
      · rw [e] at g2; cases g2
      · exact m g2
    rw [upd_ne ne]; exact r.keep b u' e m
  · by_cases hb : b = a
    · subst hb; rw [upd_same] at e; cases e
    · rw [upd_ne hb] at e; exact r.there b e
  · by_cases hk : i = k
    · subst hk
      rw [List.getElem?_set_self hlt] at h1
      cases h1
      rw [ha] at h2; cases h2
      exact ⟨ho, g2⟩
    · rw [List.getElem?_set_ne hk] at h1
      obtain ⟨y1, y2⟩ := r.reg k q b h1 h2 h3
      have ne : b ≠ a := by
        rintro rfl
        exact hk (r.dist i k b o q hi h1 n h3 ha h2)
      exact ⟨y1.upd_ (Sub.refl _) (fun _ q => q) fun _ => upd_ne ne, y2⟩
  · obtain ⟨q1, e1, m1⟩ := setn k o1 h1 n1
    obtain ⟨q2, e2, m2⟩ := setn j o2 h2 n2
    exact r.dist k j b q1 q2 e1 e2 m1 m2 a1 a2
/-- a region becomes data -/
theorem Rel.freeze (r : Rel w R H as S) {i : Nat} {a : Addr} {o : Own} {u : HO} (hi : S[i]? = some o) (ha : as[i]? = some a) (n : o ≠ .gone) (hu : H a = some u) : Rel w (upd R a u) H as (S.set i .gone) ∧ Sub R (upd R a u) := by
  obtain ⟨g1, g2⟩ := r.reg i o a hi ha n
  obtain ⟨z1, z, z2⟩ := g1.there n
  have hlt := (List.getElem?_eq_some_iff.mp hi).1
  have hs : Sub R (upd R a u) := fun b u' e => by rw [upd_ne (ne_of_none e z1)]; exact e
  have setn : ∀ (k : Nat) (q : Own), (S.set i .gone)[k]? = some q → q ≠ .gone → S[k]? = some q ∧ i ≠ k := fun k q e e2 => by
    by_cases hk : i = k
    · subst hk
      rw [List.getElem?_set_self hlt] at e
      cases e; exact absurd rfl e2
    · rw [List.getElem?_set_ne hk] at e; exact ⟨e, hk⟩
  refine ⟨⟨r.r0.trans hs, fun b u' e => ?_, r.keep, r.there, r.pre, fun b u' e => ?_, by rw [List.length_set]; exact r.len, fun k q b h1 h2 h3 => ?_, fun k j b o1 o2 h1 h2 n1 n2 a1 a2 => ?_⟩, hs⟩
  · by_cases hb : b = a
    · subst hb; rw [upd_same] at e; cases e; exact hu
    · rw [upd_ne hb] at e; exact r.sub b u' e
  · by_cases hb : b = a
    · subst hb; exact .inr g2
    · rw [upd_ne hb] at e; exact r.orig b u' e
  · obtain ⟨e1, hk⟩ := setn k q h1 h3
    obtain ⟨y1, y2⟩ := r.reg k q b e1 h2 h3
    have ne : b ≠ a := by
      rintro rfl
      exact hk (r.dist i k b o q hi e1 n h3 ha h2)
    exact ⟨y1.upd_ hs (fun _ q => by rw [upd_ne ne]; exact q) fun _ => rfl, y2⟩
  · exact r.dist k j b o1 o2 (setn k o1 h1 n1).1 (setn j o2 h2 n2).1 n1 n2 a1 a2
end
end Gm
namespace Gm
open PySem L2

/-! ### judgements: what a reading needs, over data -/
abbrev KE := Ent → List Own → Prop
abbrev KX := Addr → D → List Own → Prop
/-- an expression's reading t, names Γ, store S: k holds of what comes -/
def LE (w : Wd) (t : TE) (Γ : Env) (S : List Own) (k : KE) : Prop :=
  ∀ (σ : St) (R H : Hp) (as : List Addr) (Q : VK), Rel w R H as S → Sts w.K R as σ Γ →
    (∀ v e S' R' H' as', Rel w R' H' as' S' → Sub R R' → Pre as as' → EntOk w.K R' as' v e → k e S' → Q v H') → t σ H Q
theorem EntsOk.len {K : PySem.W.Frag} {R : Hp} {as : List Addr} : ∀ {vs : List V} {es : List Ent}, EntsOk K R as vs es → vs.length = es.length
  | [], [], _ => rfl
  | _ :: _, _ :: _, ⟨_, t⟩ => congrArg (· + 1) (EntsOk.len t)
def LA (w : Wd) (t : TA) (Γ : Env) (S : List Own) (k : List Ent → List Own → Prop) : Prop :=
  ∀ (σ : St) (R H : Hp) (as : List Addr) (Q : List V → Hp → Prop), Rel w R H as S → Sts w.K R as σ Γ →
    (∀ vs es S' R' H' as', Rel w R' H' as' S' → Sub R R' → Pre as as' → EntsOk w.K R' as' vs es → k es S' → Q vs H') → t σ H Q
def LT (w : Wd) (t : TT) (Γ : Env) (S : List Own) (k : Bool → List Own → Prop) : Prop :=
  ∀ (σ : St) (R H : Hp) (as : List Addr) (Q : Bool → Hp → Prop), Rel w R H as S → Sts w.K R as σ Γ →
    (∀ b S' R' H' as', Rel w R' H' as' S' → Sub R R' → Pre as as' → k b S' → Q b H') → t σ H Q
/-- an operation on two values; on one; a call of a built-in on values -/
def RR (w : Wd) (r : R2) (x y : Ent) (S : List Own) (k : KE) : Prop :=
  ∀ (R H : Hp) (as : List Addr) (u v : V) (Q : VK), Rel w R H as S → EntOk w.K R as u x → EntOk w.K R as v y →
    (∀ v e S' R' H' as', Rel w R' H' as' S' → Sub R R' → Pre as as' → EntOk w.K R' as' v e → k e S' → Q v H') → r u v H Q
def R1 (w : Wd) (r : V → Hp → VK → Prop) (x : Ent) (S : List Own) (k : KE) : Prop :=
  ∀ (R H : Hp) (as : List Addr) (u : V) (Q : VK), Rel w R H as S → EntOk w.K R as u x →
    (∀ v e S' R' H' as', Rel w R' H' as' S' → Sub R R' → Pre as as' → EntOk w.K R' as' v e → k e S' → Q v H') → r u H Q
def RC (w : Wd) (r : List V → Hp → VK → Prop) (xs : List Ent) (S : List Own) (k : KE) : Prop :=
  ∀ (R H : Hp) (as : List Addr) (us : List V) (Q : VK), Rel w R H as S → EntsOk w.K R as us xs →
    (∀ v e S' R' H' as', Rel w R' H' as' S' → Sub R R' → Pre as as' → EntOk w.K R' as' v e → k e S' → Q v H') → r us H Q
/-- a method of a built-in type, on the receiver and the arguments -/
def RM (w : Wd) (r : V → List V → Hp → VK → Prop) (x : Ent) (xs : List Ent) (S : List Own) (k : KE) : Prop :=
  ∀ (R H : Hp) (as : List Addr) (u : V) (us : List V) (Q : VK), Rel w R H as S → EntOk w.K R as u x → EntsOk w.K R as us xs →
    (∀ v e S' R' H' as', Rel w R' H' as' S' → Sub R R' → Pre as as' → EntOk w.K R' as' v e → k e S' → Q v H') → r u us H Q
structure GE where
  nx : Env → List Own → Prop
  rt : KE
  bk : Env → List Own → Prop := fun _ _ => False
  ct : Env → List Own → Prop := fun _ _ => False
structure EndsOk (w : Wd) (Rb : Hp) (G : GE) (D : Ends) : Prop where
  nx : ∀ Γ S σ R H as, Sub Rb R → Rel w R H as S → Sts w.K R as σ Γ → G.nx Γ S → D.nx σ H
  rt : ∀ v e S R H as, Sub Rb R → Rel w R H as S → EntOk w.K R as v e → G.rt e S → D.rt v H
  bk : ∀ Γ S σ R H as, Sub Rb R → Rel w R H as S → Sts w.K R as σ Γ → G.bk Γ S → D.bk σ H
  ct : ∀ Γ S σ R H as, Sub Rb R → Rel w R H as S → Sts w.K R as σ Γ → G.ct Γ S → D.ct σ H
theorem EndsOk.up {w : Wd} {Ra Rb : Hp} {G : GE} {D : Ends} (e : EndsOk w Ra G D) (h : Sub Ra Rb) : EndsOk w Rb G D :=
  ⟨fun Γ S σ R H as s => e.nx Γ S σ R H as (h.trans s), fun v x S R H as s => e.rt v x S R H as (h.trans s), fun Γ S σ R H as s => e.bk Γ S σ R H as (h.trans s), fun Γ S σ R H as s => e.ct Γ S σ R H as (h.trans s)⟩
def LS (w : Wd) (t : TS) (Γ : Env) (S : List Own) (G : GE) : Prop :=
  ∀ (D : Ends) (σ : St) (R H : Hp) (as : List Addr), Rel w R H as S → Sts w.K R as σ Γ → EndsOk w R G D → t D σ H
/-- an assignment's target -/
def LG (w : Wd) (g : TG) (e : Ent) (Γ : Env) (S : List Own) (k : Env → List Own → Prop) : Prop :=
  ∀ (v : V) (σ : St) (R H : Hp) (as : List Addr) (Q : St → Hp → Prop), Rel w R H as S → Sts w.K R as σ Γ → EntOk w.K R as v e →
    (∀ Γ' S' σ' R' H' as', Rel w R' H' as' S' → Sub R R' → Pre as as' → Sts w.K R' as' σ' Γ' → k Γ' S' → Q σ' H') → g v σ H Q

section
variable {w : Wd} {Γ : Env} {S : List Own} {k : KE} {ta tb te : TE} {G : GE}

/-! ### expressions -/
theorem ok_own {K : PySem.W.Frag} {R : Hp} {as : List Addr} {i : Nat} {a : Addr} (h : as[i]? = some a) : EntOk K R as (.ref a) (.own i) := ⟨a, h, rfl⟩
theorem ok_d {K : PySem.W.Frag} {R : Hp} {as : List Addr} {v : V} {x : D} (h : Den K R v x) : EntOk K R as v (.d x) := h
theorem le_var {i : Nat} {e : Ent} (h : Γ[i]? = some (some e)) (q : k e S) : LE w (tVar i) Γ S k := fun σ R H as Q r s c => by
  obtain ⟨v, h1, h2⟩ := s.get i e h
  exact ⟨v, h1, c v e S R H as r (Sub.refl _) (Pre.refl _) h2 q⟩
theorem le_int {i : Int} (q : k (.d (.int i)) S) : LE w (tC (.int i)) Γ S k := fun σ R H as Q r s c => c _ _ S R H as r (Sub.refl _) (Pre.refl _) (ok_d (Den.int i)) q
theorem le_bl {b : Bool} (q : k (.d (.bl b)) S) : LE w (tC (.bl b)) Γ S k := fun σ R H as Q r s c => c _ _ S R H as r (Sub.refl _) (Pre.refl _) (ok_d (Den.bl b)) q
theorem le_str {x : Str} (q : k (.d (.str x)) S) : LE w (tC (.str x)) Γ S k := fun σ R H as Q r s c => c _ _ S R H as r (Sub.refl _) (Pre.refl _) (ok_d (Den.str x)) q
theorem le_non (q : k (.d .non) S) : LE w (tC .non) Γ S k := fun σ R H as Q r s c => c _ _ S R H as r (Sub.refl _) (Pre.refl _) (ok_d Den.non) q
theorem le_cls {C : Addr} (q : k (.d (.cls C)) S) : LE w (tC (.ref C)) Γ S k := fun σ R H as Q r s c => c _ _ S R H as r (Sub.refl _) (Pre.refl _) (ok_d (Den.cls C)) q
theorem le_ty {n : String} (q : k (.d (.ty n)) S) : LE w (tC (.ty n)) Γ S k := fun σ R H as Q r s c => c _ _ S R H as r (Sub.refl _) (Pre.refl _) (ok_d (Den.ty n)) q
theorem le_op {r : R2} (h : LE w ta Γ S fun x S1 => LE w tb Γ S1 fun y S2 => RR w r x y S2 k) : LE w (tOp r ta tb) Γ S k := fun σ R H as Q rl s c =>
  h σ R H as _ rl s fun v e S1 R1 H1 as1 rl1 s1 p1 e1 h1 => h1 σ R1 H1 as1 _ rl1 (s.mono s1 p1) fun v2 e2 S2 R2 H2 as2 rl2 s2 p2 e2' h2 =>
    h2 R2 H2 as2 v v2 Q rl2 (e1.mono s2 p2) e2' fun v' e' S' R' H' as' a1 a2 a3 a4 a5 => c v' e' S' R' H' as' a1 ((s1.trans s2).trans a2) ((p1.trans p2).trans a3) a4 a5
theorem le_un {r : V → Hp → VK → Prop} (h : LE w ta Γ S fun x S1 => R1 w r x S1 k) : LE w (tUn r ta) Γ S k := fun σ R H as Q rl s c =>
  h σ R H as _ rl s fun v e S1 R1 H1 as1 rl1 s1 p1 e1 h1 => h1 R1 H1 as1 v Q rl1 e1 fun v' e' S' R' H' as' a1 a2 a3 a4 a5 => c v' e' S' R' H' as' a1 (s1.trans a2) (p1.trans a3) a4 a5
theorem la_nil {k : List Ent → List Own → Prop} (q : k [] S) : LA w tNil Γ S k := fun σ R H as Q rl s c => c [] [] S R H as rl (Sub.refl _) (Pre.refl _) trivial q
theorem la_cons {tr : TA} {k : List Ent → List Own → Prop} (h : LE w ta Γ S fun x S1 => LA w tr Γ S1 fun xs S2 => k (x :: xs) S2) : LA w (tCons ta tr) Γ S k := fun σ R H as Q rl s c =>
  h σ R H as _ rl s fun v e S1 R1 H1 as1 rl1 s1 p1 e1 h1 => h1 σ R1 H1 as1 _ rl1 (s.mono s1 p1) fun vs es S2 R2 H2 as2 rl2 s2 p2 es2 h2 =>
    c (v :: vs) (e :: es) S2 R2 H2 as2 rl2 (s1.trans s2) (p1.trans p2) ⟨e1.mono s2 p2, es2⟩ h2
theorem le_cb {r : List V → Hp → VK → Prop} {t : TA} (h : LA w t Γ S fun xs S1 => RC w r xs S1 k) : LE w (tCB r t) Γ S k := fun σ R H as Q rl s c =>
  h σ R H as _ rl s fun vs es S1 R1 H1 as1 rl1 s1 p1 e1 h1 => h1 R1 H1 as1 vs Q rl1 e1 fun v' e' S' R' H' as' a1 a2 a3 a4 a5 => c v' e' S' R' H' as' a1 (s1.trans a2) (p1.trans a3) a4 a5
theorem le_if {t : TT} (h : LT w t Γ S fun b S1 => (b = true → LE w ta Γ S1 k) ∧ (b = false → LE w tb Γ S1 k)) : LE w (tIf t ta tb) Γ S k := fun σ R H as Q rl s c =>
  h σ R H as _ rl s fun b S1 R1 H1 as1 rl1 s1 p1 h1 => by
    cases b with
    | true => exact h1.1 rfl σ R1 H1 as1 Q rl1 (s.mono s1 p1) fun v' e' S' R' H' as' a1 a2 a3 a4 a5 => c v' e' S' R' H' as' a1 (s1.trans a2) (p1.trans a3) a4 a5
    | false => exact h1.2 rfl σ R1 H1 as1 Q rl1 (s.mono s1 p1) fun v' e' S' R' H' as' a1 a2 a3 a4 a5 => c v' e' S' R' H' as' a1 (s1.trans a2) (p1.trans a3) a4 a5
theorem le_mono {k' : KE} (h : LE w te Γ S k) (q : ∀ e S', k e S' → k' e S') : LE w te Γ S k' := fun σ R H as Q rl s c =>
  h σ R H as Q rl s fun v' e' S' R' H' as' a1 a2 a3 a4 a5 => c v' e' S' R' H' as' a1 a2 a3 a4 (q _ _ a5)

/-! ### operations on values -/
theorem rr_int0 {f : Int → Int → Int} {i j : Int} (q : k (.d (.int (f i j))) S) : RR w (rI0 fun i j => .int (f i j)) (.d (.int i)) (.d (.int j)) S k := fun R H as u v Q rl hu hv c => by
  cases hu; cases hv
  exact ⟨i, j, rfl, rfl, c _ _ S R H as rl (Sub.refl _) (Pre.refl _) (ok_d (Den.int _)) q⟩
theorem rr_bl0 {f : Int → Int → Bool} {i j : Int} (q : k (.d (.bl (f i j))) S) : RR w (rI0 fun i j => .bl (f i j)) (.d (.int i)) (.d (.int j)) S k := fun R H as u v Q rl hu hv c => by
  cases hu; cases hv
  exact ⟨i, j, rfl, rfl, c _ _ S R H as rl (Sub.refl _) (Pre.refl _) (ok_d (Den.bl _)) q⟩
theorem rr_int {C : Int → Int → Prop} {f : Int → Int → Int} {i j : Int} (hc : C i j) (q : k (.d (.int (f i j))) S) : RR w (rI C fun i j => .int (f i j)) (.d (.int i)) (.d (.int j)) S k := fun R H as u v Q rl hu hv c => by
  cases hu; cases hv
  exact ⟨i, j, rfl, rfl, hc, c _ _ S R H as rl (Sub.refl _) (Pre.refl _) (ok_d (Den.int _)) q⟩
theorem r1_int {f : Int → Int} {i : Int} (q : k (.d (.int (f i))) S) : R1 w (rU fun i => .int (f i)) (.d (.int i)) S k := fun R H as u Q rl hu c => by
  cases hu
  exact ⟨i, rfl, c _ _ S R H as rl (Sub.refl _) (Pre.refl _) (ok_d (Den.int _)) q⟩
/-- == of plain things -/
def flatD : D → Option V
  | .non => some .non
  | .bl b => some (.bl b)
  | .int i => some (.int i)
  | .str x => some (.str x)
  | _ => none
theorem flat_den {K : PySem.W.Frag} {R : Hp} {v u : V} {d : D} (h : flatD d = some u) (r : Den K R v d) : v = u := by
  cases r <;> simp [flatD] at h <;> exact h
theorem rr_eq {x y : D} {u v : V} (hx : flatD x = some u) (hy : flatD y = some v) (hs : scal u v = true) (q : k (.d (.bl (decide (u = v)))) S) : RR w rEq (.d x) (.d y) S k := fun R H as u' v' Q rl hu hv c => by
  cases flat_den hx hu; cases flat_den hy hv
  exact ⟨hs, c _ _ S R H as rl (Sub.refl _) (Pre.refl _) (ok_d (Den.bl _)) q⟩
theorem rr_ne {x y : D} {u v : V} (hx : flatD x = some u) (hy : flatD y = some v) (hs : scal u v = true) (q : k (.d (.bl (!decide (u = v)))) S) : RR w rNe (.d x) (.d y) S k := fun R H as u' v' Q rl hu hv c => by
  cases flat_den hx hu; cases flat_den hy hv
  exact ⟨hs, c _ _ S R H as rl (Sub.refl _) (Pre.refl _) (ok_d (Den.bl _)) q⟩
def isN : D → Bool | .non => true | _ => false
theorem den_non {K : PySem.W.Frag} {R : Hp} {v : V} {d : D} (r : Den K R v d) : decide (v = .non) = isN d := by
  cases r <;> simp [isN]
abbrev rIsNon : R2 := fun x y H Q => y = .non ∧ Q (.bl (decide (x = .non))) H
abbrev rNotNon : R2 := fun x y H Q => y = .non ∧ Q (.bl (!decide (x = .non))) H
theorem rr_isN {x : D} (q : k (.d (.bl (isN x))) S) : RR w rIsNon (.d x) (.d .non) S k := fun R H as u' v' Q rl hu hv c => by
  cases hv
  refine ⟨rfl, ?_⟩
  rw [den_non hu]
  exact c _ _ S R H as rl (Sub.refl _) (Pre.refl _) (ok_d (Den.bl _)) q
theorem rr_notN {x : D} (q : k (.d (.bl (!isN x))) S) : RR w rNotNon (.d x) (.d .non) S k := fun R H as u' v' Q rl hu hv c => by
  cases hv
  refine ⟨rfl, ?_⟩
  rw [den_non hu]
  exact c _ _ S R H as rl (Sub.refl _) (Pre.refl _) (ok_d (Den.bl _)) q
/-! indexing -/
theorem atI_map {α β : Type} {xs : List α} {ys : List β} (hl : xs.length = ys.length) {i : Int} {j : Nat} (h : ixN ys.length i = some j) {v : α} (hv : xs[j]? = some v) : atI xs i = some v := by
  unfold atI
  rw [hl, h]
  exact hv
theorem atI_ix {ds : List D} {i : Int} {d : D} (h : atI ds i = some d) : ∃ j, ixN ds.length i = some j ∧ ds[j]? = some d := by
  unfold atI at h
  cases q : ixN ds.length i with
  | none => rw [q] at h; cases h
  | some j => rw [q] at h; exact ⟨j, rfl, h⟩
theorem rr_ixL {ds : List D} {i : Int} {d : D} (h : atI ds i = some d) (q : k (.d d) S) : RR w (rIxL w.K) (.d (.lst ds)) (.d (.int i)) S k := fun R H as u' v' Q rl hu hv c => by
  cases hv
  obtain ⟨j, h1, h2⟩ := atI_ix h
  cases hu with
  | lst ha hd =>
    obtain ⟨v, e1, e2⟩ := hd.get h2
    exact ⟨_, _, i, v, rfl, rfl, SqL.of (rl.sub _ _ ha), atI_map hd.len h1 e1, c _ _ S R H as rl (Sub.refl _) (Pre.refl _) (ok_d e2) q⟩
theorem rr_ixS {ns : List Int} {i n : Int} (h : atI ns i = some n) (q : k (.d (.int n)) S) : RR w (rIxL w.K) (.d (.scr ns)) (.d (.int i)) S k := fun R H as u' v' Q rl hu hv c => by
  cases hv
  cases hu with
  | scr ha =>
    refine ⟨_, _, i, .int n, rfl, rfl, sub_seq rl.sub ha, ?_, c _ _ S R H as rl (Sub.refl _) (Pre.refl _) (ok_d (Den.int n)) q⟩
    unfold atI at h ⊢
    rw [List.length_map]
    cases q : ixN ns.length i with
    | none => rw [q] at h; cases h
    | some j => rw [q] at h; show (ns.map V.int)[j]? = _; rw [List.getElem?_map, show ns[j]? = some n from h]; rfl
theorem rr_ixT {ds : List D} {i : Int} {d : D} (h : atI ds i = some d) (q : k (.d d) S) : RR w (rIxT w.K) (.d (.tup ds)) (.d (.int i)) S k := fun R H as u' v' Q rl hu hv c => by
  cases hv
  obtain ⟨j, h1, h2⟩ := atI_ix h
  cases hu with
  | tup ha hd =>
    obtain ⟨v, e1, e2⟩ := hd.get h2
    exact ⟨_, _, i, v, rfl, rfl, SqT.of (rl.sub _ _ ha), atI_map hd.len h1 e1, c _ _ S R H as rl (Sub.refl _) (Pre.refl _) (ok_d e2) q⟩
/-- an item of a list of the store -/
theorem rr_ixO {ds : List D} {n : Nat} {i : Int} {d : D} (hn : S[n]? = some (.lst ds)) (h : atI ds i = some d) (q : k (.d d) S) : RR w (rIxL w.K) (.own n) (.d (.int i)) S k := fun R H as u' v' Q rl hu hv c => by
  cases hv
  obtain ⟨a, ha, rfl⟩ := hu
  obtain ⟨⟨z, vs, e, hd⟩, _⟩ := rl.reg n _ a hn ha (by intro z; cases z)
  obtain ⟨j, h1, h2⟩ := atI_ix h
  obtain ⟨v, e1, e2⟩ := hd.get h2
  exact ⟨_, _, i, v, rfl, rfl, SqL.of e, atI_map hd.len h1 e1, c _ _ S R H as rl (Sub.refl _) (Pre.refl _) (ok_d e2) q⟩
/-! displays -/
def Ent.ds : List Ent → Option (List D)
  | [] => some []
  | .d x :: es => (Ent.ds es).map (x :: ·)
  | .own _ :: _ => none
  | .tup _ :: _ => none
theorem ents_ds {K : PySem.W.Frag} {R : Hp} {as : List Addr} : ∀ {vs : List V} {es : List Ent} {ds : List D}, EntsOk K R as vs es → Ent.ds es = some ds → Dens K R vs ds
  | [], [], _, _, e => by cases e; exact .nil
  | v :: vs, .d x :: es, ds, ⟨h, t⟩, e => by
    cases q : Ent.ds es with
    | none => simp [Ent.ds, q] at e
    | some r => simp [Ent.ds, q] at e; subst e; exact .cons h (ents_ds t q)
  | v :: vs, .own i :: es, ds, _, e => by simp [Ent.ds] at e
  | v :: vs, .tup _ :: es, ds, _, e => by simp [Ent.ds] at e
  | [], _ :: _, _, h, _ => h.elim
  | _ :: _, [], _, h, _ => h.elim
theorem le_lst {t : TA} (h : LA w t Γ S fun es S1 => ∃ ds, Ent.ds es = some ds ∧ ds.length ≤ sizeLine ∧ k (.d (.lst ds)) S1) : LE w (tLst t) Γ S k := fun σ R H as Q rl s c =>
  h σ R H as _ rl s fun vs es S1 R1 H1 as1 rl1 s1 p1 e1 ⟨ds, h1, h2, h3⟩ => by
    have hd := ents_ds e1 h1
    refine ⟨by rw [hd.len]; exact h2, fun p hp => ?_⟩
    obtain ⟨rl2, s2⟩ := rl1.alloc hp (.lst vs)
    exact c _ _ S1 _ _ as1 rl2 (s1.trans s2) p1 (ok_d (Den.lst upd_same (hd.mono s2))) h3
theorem le_tup {t : TA} (h : LA w t Γ S fun es S1 => ∃ ds, Ent.ds es = some ds ∧ ds.length ≤ sizeLine ∧ k (.d (.tup ds)) S1) : LE w (tTup t) Γ S k := fun σ R H as Q rl s c =>
  h σ R H as _ rl s fun vs es S1 R1 H1 as1 rl1 s1 p1 e1 ⟨ds, h1, h2, h3⟩ => by
    have hd := ents_ds e1 h1
    refine ⟨by rw [hd.len]; exact h2, fun p hp => ?_⟩
    obtain ⟨rl2, s2⟩ := rl1.alloc hp (.tup vs)
    exact c _ _ S1 _ _ as1 rl2 (s1.trans s2) p1 (ok_d (Den.tup upd_same (hd.mono s2))) h3
/-- a tuple of anything -/
theorem le_tupE {t : TA} (h : LA w t Γ S fun es S1 => es.length ≤ sizeLine ∧ k (.tup es) S1) : LE w (tTup t) Γ S k := fun σ R H as Q rl s c =>
  h σ R H as _ rl s fun vs es S1 R1 H1 as1 rl1 s1 p1 e1 ⟨h2, h3⟩ => by
    refine ⟨by rw [e1.len]; exact h2, fun p hp => ?_⟩
    obtain ⟨rl2, s2⟩ := rl1.alloc hp (.tup vs)
    exact c _ (.tup es) S1 _ _ as1 rl2 (s1.trans s2) p1 ⟨p, vs, rfl, upd_same, e1.mono s2 (Pre.refl _)⟩ h3
/-- a list of the store made -/
theorem le_lstO {t : TA} (h : LA w t Γ S fun es S1 => ∃ ds, Ent.ds es = some ds ∧ ds.length ≤ sizeLine ∧ k (.own S1.length) (S1 ++ [.lst ds])) : LE w (tLst t) Γ S k := fun σ R H as Q rl s c =>
  h σ R H as _ rl s fun vs es S1 R1 H1 as1 rl1 s1 p1 e1 ⟨ds, h1, h2, h3⟩ => by
    have hd := ents_ds e1 h1
    refine ⟨by rw [hd.len]; exact h2, fun p hp => ?_⟩
    have hf := (rl1.fresh hp).1
    have rl2 := rl1.allocO hp (.lst vs) (o := .lst ds) ⟨hf, vs, upd_same, hd⟩
    exact c _ _ _ _ _ _ rl2 s1 (p1.trans (Pre.app _ _)) (ok_own (by rw [← rl1.len]; exact List.getElem?_concat_length)) h3


/-! ### tests -/
variable {kb : Bool → List Own → Prop} {t u : TT}
theorem lt_test (h : LE w te Γ S fun e S1 => ∃ b, e = .d (.bl b) ∧ kb b S1) : LT w (tTest te) Γ S kb := fun σ R H as Q rl s c =>
  h σ R H as _ rl s fun v e S1 R1 H1 as1 rl1 s1 p1 e1 ⟨b, h1, h2⟩ => by
    subst h1; cases e1
    exact ⟨b, rfl, c b S1 R1 H1 as1 rl1 s1 p1 h2⟩
theorem lt_tb (h : LE w te Γ S fun e S1 => ∃ b, e = .d (.bl b) ∧ kb b S1) : LT w (tB te) Γ S kb := fun σ R H as Q rl s c =>
  h σ R H as _ rl s fun v e S1 R1 H1 as1 rl1 s1 p1 e1 ⟨b, h1, h2⟩ => by
    subst h1; cases e1
    exact ⟨b, rfl, c b S1 R1 H1 as1 rl1 s1 p1 h2⟩
theorem lt_and (h : LT w t Γ S fun b S1 => (b = true → LT w u Γ S1 kb) ∧ (b = false → kb false S1)) : LT w (tAnd t u) Γ S kb := fun σ R H as Q rl s c =>
  h σ R H as _ rl s fun b S1 R1 H1 as1 rl1 s1 p1 h1 => by
    cases b with
    | true => exact h1.1 rfl σ R1 H1 as1 Q rl1 (s.mono s1 p1) fun b S' R' H' as' a1 a2 a3 a5 => c b S' R' H' as' a1 (s1.trans a2) (p1.trans a3) a5
    | false => exact c false S1 R1 H1 as1 rl1 s1 p1 (h1.2 rfl)
theorem lt_or (h : LT w t Γ S fun b S1 => (b = true → kb true S1) ∧ (b = false → LT w u Γ S1 kb)) : LT w (tOr t u) Γ S kb := fun σ R H as Q rl s c =>
  h σ R H as _ rl s fun b S1 R1 H1 as1 rl1 s1 p1 h1 => by
    cases b with
    | false => exact h1.2 rfl σ R1 H1 as1 Q rl1 (s.mono s1 p1) fun b S' R' H' as' a1 a2 a3 a5 => c b S' R' H' as' a1 (s1.trans a2) (p1.trans a3) a5
    | true => exact c true S1 R1 H1 as1 rl1 s1 p1 (h1.1 rfl)
theorem lt_not (h : LT w t Γ S fun b S1 => kb (!b) S1) : LT w (tNot t) Γ S kb := fun σ R H as Q rl s c =>
  h σ R H as _ rl s fun b S1 R1 H1 as1 rl1 s1 p1 h1 => c _ S1 R1 H1 as1 rl1 s1 p1 h1
theorem le_andV (h : LE w ta Γ S fun e S1 => ∃ b, e = .d (.bl b) ∧ (b = true → LE w tb Γ S1 k) ∧ (b = false → k (.d (.bl false)) S1)) : LE w (tAndV ta tb) Γ S k := fun σ R H as Q rl s c =>
  h σ R H as _ rl s fun v e S1 R1 H1 as1 rl1 s1 p1 e1 ⟨b, h1, h2, h3⟩ => by
    subst h1; cases e1
    refine ⟨b, rfl, ?_⟩
    cases b with
    | true => exact h2 rfl σ R1 H1 as1 Q rl1 (s.mono s1 p1) fun v' e' S' R' H' as' a1 a2 a3 a4 a5 => c v' e' S' R' H' as' a1 (s1.trans a2) (p1.trans a3) a4 a5
    | false => exact c _ _ S1 R1 H1 as1 rl1 s1 p1 (ok_d (Den.bl _)) (h3 rfl)
theorem le_orV (h : LE w ta Γ S fun e S1 => ∃ b, e = .d (.bl b) ∧ (b = true → k (.d (.bl true)) S1) ∧ (b = false → LE w tb Γ S1 k)) : LE w (tOrV ta tb) Γ S k := fun σ R H as Q rl s c =>
  h σ R H as _ rl s fun v e S1 R1 H1 as1 rl1 s1 p1 e1 ⟨b, h1, h2, h3⟩ => by
    subst h1; cases e1
    refine ⟨b, rfl, ?_⟩
    cases b with
    | false => exact h3 rfl σ R1 H1 as1 Q rl1 (s.mono s1 p1) fun v' e' S' R' H' as' a1 a2 a3 a4 a5 => c v' e' S' R' H' as' a1 (s1.trans a2) (p1.trans a3) a4 a5
    | true => exact c _ _ S1 R1 H1 as1 rl1 s1 p1 (ok_d (Den.bl _)) (h2 rfl)
theorem le_notV (h : LE w ta Γ S fun e S1 => ∃ b, e = .d (.bl b) ∧ k (.d (.bl (!b))) S1) : LE w (tNotV ta) Γ S k := fun σ R H as Q rl s c =>
  h σ R H as _ rl s fun v e S1 R1 H1 as1 rl1 s1 p1 e1 ⟨b, h1, h2⟩ => by
    subst h1; cases e1
    exact ⟨b, rfl, c _ _ S1 R1 H1 as1 rl1 s1 p1 (ok_d (Den.bl _)) h2⟩
theorem le_chain {r r' : R2} {tc : TE} (h : LE w ta Γ S fun x S1 => LE w tb Γ S1 fun y S2 => RR w r x y S2 fun z S3 => ∃ b, z = .d (.bl b) ∧ (b = true → LE w tc Γ S3 fun z' S4 => RR w r' y z' S4 k) ∧ (b = false → k (.d (.bl false)) S3)) : LE w (tChain r r' ta tb tc) Γ S k := fun σ R H as Q rl s c => by
  refine h σ R H as _ rl s fun v e S1 R1 H1 as1 rl1 s1 p1 e1 h1 => ?_
  refine h1 σ R1 H1 as1 _ rl1 (s.mono s1 p1) fun v2 e2 S2 R2 H2 as2 rl2 s2 p2 e2' h2 => ?_
  refine h2 R2 H2 as2 v v2 _ rl2 (e1.mono s2 p2) e2' fun v3 e3 S3 R3 H3 as3 rl3 s3 p3 e3' q => ?_
  obtain ⟨b, q1, q2, q3⟩ := q
  subst q1; cases e3'
  refine ⟨b, rfl, ?_⟩
  have s13 := (s1.trans s2).trans s3
  have p13 := (p1.trans p2).trans p3
  cases b with
  | true =>
    rw [if_pos rfl]
    refine q2 rfl σ R3 H3 as3 _ rl3 (s.mono s13 p13) fun v4 e4 S4 R4 H4 as4 rl4 s4 p4 e4' h4 => ?_
    exact h4 R4 H4 as4 v2 v4 Q rl4 (e2'.mono (s3.trans s4) (p3.trans p4)) e4' fun v' e' S' R' H' as' a1 a2 a3 a4 a5 => c v' e' S' R' H' as' a1 ((s13.trans s4).trans a2) ((p13.trans p4).trans a3) a4 a5
  | false =>
    rw [if_neg Bool.false_ne_true]
    exact c _ _ S3 R3 H3 as3 rl3 s13 p13 (ok_d (Den.bl _)) (q3 rfl)

/-! ### statements -/
variable {t1 t2 : TS}
theorem ls_seq (h : LS w t1 Γ S { G with nx := fun Γ1 S1 => LS w t2 Γ1 S1 G }) : LS w (tSeq t1 t2) Γ S G := fun D σ R H as rl s e =>
  h { D with nx := t2 D } σ R H as rl s ⟨fun Γ1 S1 σ1 R1 H1 as1 u r1 s1 q => q D σ1 R1 H1 as1 r1 s1 (e.up u), e.rt, e.bk, e.ct⟩
theorem ls_next (q : G.nx Γ S) : LS w tNext Γ S G := fun D σ R H as rl s e => e.nx Γ S σ R H as (Sub.refl _) rl s q
theorem ls_brk (q : G.bk Γ S) : LS w tBreak Γ S G := fun D σ R H as rl s e => e.bk Γ S σ R H as (Sub.refl _) rl s q
theorem ls_cont (q : G.ct Γ S) : LS w tCont Γ S G := fun D σ R H as rl s e => e.ct Γ S σ R H as (Sub.refl _) rl s q
theorem ls_drop (h : LE w te Γ S fun _ S1 => G.nx Γ S1) : LS w (tDrop te) Γ S G := fun D σ R H as rl s e =>
  h σ R H as _ rl s fun v x S1 R1 H1 as1 rl1 s1 p1 e1 q => e.nx Γ S1 σ R1 H1 as1 s1 rl1 (s.mono s1 p1) q
theorem ls_ret (h : LE w te Γ S G.rt) : LS w (tRet te) Γ S G := fun D σ R H as rl s e =>
  h σ R H as _ rl s fun v x S1 R1 H1 as1 rl1 s1 p1 e1 q => e.rt v x S1 R1 H1 as1 s1 rl1 e1 q
theorem ls_retN (q : G.rt (.d .non) S) : LS w tRetN Γ S G := fun D σ R H as rl s e => e.rt .non (.d .non) S R H as (Sub.refl _) rl Den.non q
theorem ls_if {c : TT} (h : LT w c Γ S fun b S1 => (b = true → LS w t1 Γ S1 G) ∧ (b = false → LS w t2 Γ S1 G)) : LS w (tIfS c t1 t2) Γ S G := fun D σ R H as rl s e =>
  h σ R H as _ rl s fun b S1 R1 H1 as1 rl1 s1 p1 q => by
    cases b with
    | true => exact q.1 rfl D σ R1 H1 as1 rl1 (s.mono s1 p1) (e.up s1)
    | false => exact q.2 rfl D σ R1 H1 as1 rl1 (s.mono s1 p1) (e.up s1)
theorem ls_asg {g : TG} (h : LE w te Γ S fun e S1 => LG w g e Γ S1 G.nx) : LS w (tAsg te g) Γ S G := fun D σ R H as rl s e =>
  h σ R H as _ rl s fun v x S1 R1 H1 as1 rl1 s1 p1 e1 q => q v σ R1 H1 as1 _ rl1 (s.mono s1 p1) e1 fun Γ' S' σ' R' H' as' a1 a2 a3 a4 a5 => e.nx Γ' S' σ' R' H' as' (s1.trans a2) a1 a4 a5
theorem lg_name {i : Nat} {e : Ent} {k : Env → List Own → Prop} (q : k (Γ.set i (some e)) S) : LG w (gName i) e Γ S k := fun v σ R H as Q rl s h c =>
  c _ S _ R H as rl (Sub.refl _) (Pre.refl _) (s.set i h) q
theorem ls_set {i : Nat} (h : LE w te Γ S fun e S1 => G.nx (Γ.set i (some e)) S1) : LS w (tAsg te (gName i)) Γ S G :=
  ls_asg (le_mono h fun e S' q => lg_name q)
/-- several targets -/
def LGs (w : Wd) (g : TGs) (es : List Ent) (Γ : Env) (S : List Own) (k : Env → List Own → Prop) : Prop :=
  ∀ (vs : List V) (σ : St) (R H : Hp) (as : List Addr) (Q : St → Hp → Prop), Rel w R H as S → Sts w.K R as σ Γ → EntsOk w.K R as vs es →
    (∀ Γ' S' σ' R' H' as', Rel w R' H' as' S' → Sub R R' → Pre as as' → Sts w.K R' as' σ' Γ' → k Γ' S' → Q σ' H') → g vs σ H Q
theorem lgs_nil {k : Env → List Own → Prop} (q : k Γ S) : LGs w gNil [] Γ S k := fun vs σ R H as Q rl s h c => by
  cases vs with
  | nil => exact ⟨rfl, c Γ S σ R H as rl (Sub.refl _) (Pre.refl _) s q⟩
  | cons _ _ => exact h.elim
theorem lgs_cons {g : TG} {gs : TGs} {e : Ent} {es : List Ent} {k : Env → List Own → Prop} (h : LG w g e Γ S fun Γ1 S1 => LGs w gs es Γ1 S1 k) : LGs w (gCons g gs) (e :: es) Γ S k := fun vs σ R H as Q rl s he c => by
  cases vs with
  | nil => exact he.elim
  | cons v vs =>
    refine ⟨v, vs, rfl, h v σ R H as _ rl s he.1 fun Γ1 S1 σ1 R1 H1 as1 a1 a2 a3 a4 a5 => ?_⟩
    exact a5 vs σ1 R1 H1 as1 _ a1 a4 (he.2.mono a2 a3) fun Γ' S' σ' R' H' as' b1 b2 b3 b4 b5 => c Γ' S' σ' R' H' as' b1 (a2.trans b2) (a3.trans b3) b4 b5
theorem dens_ents {K : PySem.W.Frag} {R : Hp} {as : List Addr} : ∀ {vs : List V} {ds : List D}, Dens K R vs ds → EntsOk K R as vs (ds.map Ent.d)
  | _, _, .nil => trivial
  | _, _, .cons h r => ⟨h, dens_ents r⟩
theorem lg_tup {n : Nat} {gs : TGs} {ds : List D} {k : Env → List Own → Prop} (hl : ds.length = n) (h : LGs w gs (ds.map Ent.d) Γ S k) : LG w (gTup w.K n gs) (.d (.tup ds)) Γ S k := fun v σ R H as Q rl s he c => by
  cases he with
  | tup ha hd => exact ⟨_, _, rfl, SqT.of (rl.sub _ _ ha), by rw [hd.len]; exact hl, h _ σ R H as Q rl s (dens_ents hd) c⟩
theorem lg_tupE {n : Nat} {gs : TGs} {es : List Ent} {k : Env → List Own → Prop} (hl : es.length = n) (h : LGs w gs es Γ S k) : LG w (gTup w.K n gs) (.tup es) Γ S k := fun v σ R H as Q rl s he c => by
  obtain ⟨a, vs, rfl, h1, h2⟩ := he
  exact ⟨_, _, rfl, SqT.of (rl.sub _ _ h1), by rw [h2.len]; exact hl, h _ σ R H as Q rl s h2 c⟩
theorem ls_par {i j : Nat} {ta : TA} (h : LA w ta Γ S fun es S1 => ∃ x y, es = [x, y] ∧ G.nx ((Γ.set i (some x)).set j (some y)) S1) : LS w (tPar i j ta) Γ S G := fun D σ R H as rl s e =>
  h σ R H as _ rl s fun vs es S1 R1 H1 as1 rl1 s1 p1 e1 ⟨x, y, h1, h2⟩ => by
    subst h1
    match vs, e1 with
    | [a, b], ⟨q1, q2, _⟩ => exact ⟨a, b, rfl, e.nx _ S1 _ R1 H1 as1 s1 rl1 (((s.mono s1 p1).set i q1).set j q2) h2⟩
theorem ls_aug {i : Nat} {ti : TIp} {x : Ent} (hx : Γ[i]? = some (some x)) (h : LE w te Γ S fun y S1 => RR w ti x y S1 fun z S2 => G.nx (Γ.set i (some z)) S2) : LS w (tAug i te ti) Γ S G := fun D σ R H as rl s e => by
  obtain ⟨v, h1, h2⟩ := s.get i x hx
  refine ⟨v, h1, h σ R H as _ rl s fun v2 e2 S1 R1 H1 as1 rl1 s1 p1 e1 q => ?_⟩
  exact q R1 H1 as1 v v2 _ rl1 (h2.mono s1 p1) e1 fun v3 e3 S3 R3 H3 as3 rl3 s3 p3 e3' q3 => e.nx _ S3 _ R3 H3 as3 (s1.trans s3) rl3 ((s.mono (s1.trans s3) (p1.trans p3)).set i e3') q3
theorem ls_never (q : False) : LS w tNever Γ S G := q.elim
theorem ls_while {c : TT} (I : Nat → Env → List Own → Prop) (m0 : Nat) (h0 : I m0 Γ S)
    (hs : ∀ m Γ1 S1, I m Γ1 S1 → LT w c Γ1 S1 fun b S2 => (b = true → LS w t1 Γ1 S2 { G with nx := fun Γ' S' => ∃ m', m' < m ∧ I m' Γ' S', ct := fun Γ' S' => ∃ m', m' < m ∧ I m' Γ' S', bk := G.nx }) ∧ (b = false → G.nx Γ1 S2)) : LS w (tWhile c t1) Γ S G := fun D σ R H as rl s e => by
  refine ⟨fun m σ' H' => ∃ Γ' S' R' as', Sub R R' ∧ Rel w R' H' as' S' ∧ Sts w.K R' as' σ' Γ' ∧ I m Γ' S', ⟨m0, Γ, S, R, as, Sub.refl _, rl, s, h0⟩, ?_⟩
  rintro m σ1 H1 ⟨Γ1, S1, R1, as1, u1, rl1, st1, i1⟩
  refine hs m Γ1 S1 i1 σ1 R1 H1 as1 _ rl1 st1 fun b S2 R2 H2 as2 rl2 s2 p2 q => ?_
  cases b with
  | true =>
    refine ⟨fun σ' H' => ∃ m', m' < m ∧ ∃ Γ' S' R' as', Sub R R' ∧ Rel w R' H' as' S' ∧ Sts w.K R' as' σ' Γ' ∧ I m' Γ' S', fun σ' H' h => h, ?_⟩
    have up := u1.trans s2
    have e2 := e.up up
    exact q.1 rfl _ σ1 R2 H2 as2 rl2 (st1.mono s2 p2) ⟨fun Γ' S' σ' R' H' as' u a b ⟨m', hm, hi⟩ => ⟨m', hm, Γ', S', R', as', up.trans u, a, b, hi⟩, e2.rt, e2.nx, fun Γ' S' σ' R' H' as' u a b ⟨m', hm, hi⟩ => ⟨m', hm, Γ', S', R', as', up.trans u, a, b, hi⟩⟩
  | false => exact e.nx Γ1 S2 σ1 R2 H2 as2 (u1.trans s2) rl2 (st1.mono s2 p2) (q.2 rfl)

/-! ### for -/
/-- over lo, lo + 1, .. (n of them), by whatever makes the range -/
def LR (w : Wd) (wi : TI) (Γ : Env) (S : List Own) (k : Int → Nat → List Own → Prop) : Prop :=
  ∀ (σ : St) (R H : Hp) (as : List Addr) (Q : It → Hp → Prop), Rel w R H as S → Sts w.K R as σ Γ →
    (∀ lo n S' R' H' as', Rel w R' H' as' S' → Sub R R' → Pre as as' → k lo n S' → Q (Itr lo n) H') → wi σ H Q
theorem lr_1 {ta : TA} {k : Int → Nat → List Own → Prop} (h : LA w ta Γ S fun es S1 => ∃ j, es = [.d (.int j)] ∧ -(2 ^ 62) ≤ j ∧ j < 2 ^ 62 ∧ k 0 j.toNat S1) : LR w (iRng1 ta) Γ S k := fun σ R H as Q rl s c =>
  h σ R H as _ rl s fun vs es S1 R1 H1 as1 rl1 s1 p1 e1 ⟨j, h1, h2, h3, h4⟩ => by
    subst h1
    match vs, e1 with
    | [a], ⟨q1, _⟩ => cases q1; exact ⟨j, rfl, h2, h3, c 0 _ S1 R1 H1 as1 rl1 s1 p1 h4⟩
theorem lr_2 {ta : TA} {k : Int → Nat → List Own → Prop} (h : LA w ta Γ S fun es S1 => ∃ i j, es = [.d (.int i), .d (.int j)] ∧ (-(2 ^ 62) ≤ i ∧ i < 2 ^ 62 ∧ -(2 ^ 62) ≤ j ∧ j < 2 ^ 62) ∧ k i (j - i).toNat S1) : LR w (iRng2 ta) Γ S k := fun σ R H as Q rl s c =>
  h σ R H as _ rl s fun vs es S1 R1 H1 as1 rl1 s1 p1 e1 ⟨i, j, h1, h2, h4⟩ => by
    subst h1
    match vs, e1 with
    | [a, b], ⟨q1, q2, _⟩ => cases q1; cases q2; exact ⟨i, j, rfl, h2, c i _ S1 R1 H1 as1 rl1 s1 p1 h4⟩
theorem ls_forR {wi : TI} {g : TG} (h : LR w wi Γ S fun lo n S1 => ∃ I : Nat → Env → List Own → Prop, I 0 Γ S1 ∧
    (∀ i Γ1 S2, i < n → I i Γ1 S2 → LG w g (.d (.int (lo + i))) Γ1 S2 fun Γ2 S3 => LS w t1 Γ2 S3 { G with nx := I (i + 1), ct := I (i + 1), bk := G.nx }) ∧ (∀ Γ1 S2, I n Γ1 S2 → G.nx Γ1 S2)) : LS w (tFor wi g t1) Γ S G := fun D σ R H as rl s e => by
  refine h σ R H as _ rl s fun lo n S1 R1 H1 as1 rl1 s1 p1 ⟨I, i0, is, iE⟩ => ?_
  refine for_range (fun i σ' H' => ∃ Γ' S' R' as', Sub R R' ∧ Rel w R' H' as' S' ∧ Sts w.K R' as' σ' Γ' ∧ I i Γ' S') ⟨Γ, S1, R1, as1, s1, rl1, s.mono s1 p1, i0⟩ ?_ ?_
  · rintro i σ2 H2 hi ⟨Γ2, S2, R2, as2, u2, rl2, st2, i2⟩
    refine is i Γ2 S2 hi i2 _ σ2 R2 H2 as2 _ rl2 st2 (Den.int _) fun Γ3 S3 σ3 R3 H3 as3 rl3 s3 p3 st3 q => ?_
    have up := u2.trans s3
    have e2 := e.up up
    exact q _ σ3 R3 H3 as3 rl3 st3 ⟨fun Γ' S' σ' R' H' as' u a b hi => ⟨Γ', S', R', as', up.trans u, a, b, hi⟩, e2.rt, e2.nx, fun Γ' S' σ' R' H' as' u a b hi => ⟨Γ', S', R', as', up.trans u, a, b, hi⟩⟩
  · rintro σ2 H2 ⟨Γ2, S2, R2, as2, u2, rl2, st2, i2⟩
    exact e.nx Γ2 S2 σ2 R2 H2 as2 u2 rl2 st2 (iE Γ2 S2 i2)
theorem ls_forL {tl : TE} {g : TG} (h : LE w tl Γ S fun e S1 => ∃ ds, e = .d (.lst ds) ∧ ∃ I : Nat → Env → List Own → Prop, I 0 Γ S1 ∧
    (∀ i d Γ1 S2, ds[i]? = some d → I i Γ1 S2 → LG w g (.d d) Γ1 S2 fun Γ2 S3 => LS w t1 Γ2 S3 { G with nx := I (i + 1), ct := I (i + 1), bk := G.nx }) ∧ (∀ Γ1 S2, I ds.length Γ1 S2 → G.nx Γ1 S2)) : LS w (tFor (iList w.K tl) g t1) Γ S G := fun D σ R H as rl s e => by
  refine h σ R H as _ rl s fun v x S1 R1 H1 as1 rl1 s1 p1 e1 ⟨ds, h1, I, i0, is, iE⟩ => ?_
  subst h1
  cases e1 with
  | lst ha hd =>
    rename_i a vs
    refine ⟨a, rfl, ⟨vs, SqL.of (rl1.sub _ _ ha)⟩, ?_⟩
    refine for_list (xs := vs) (fun i σ' H' => ∃ Γ' S' R' as', Sub R1 R' ∧ Rel w R' H' as' S' ∧ Sts w.K R' as' σ' Γ' ∧ I i Γ' S') ⟨Γ, S1, R1, as1, Sub.refl _, rl1, s.mono s1 p1, i0⟩ ?_ ?_ ?_
    · rintro i σ2 H2 hi ⟨Γ2, S2, R2, as2, u2, rl2, st2, i2⟩
      exact SqL.of (rl2.sub _ _ (u2 _ _ ha))
    · rintro i x σ2 H2 hx ⟨Γ2, S2, R2, as2, u2, rl2, st2, i2⟩
      obtain ⟨d, hd1, hd2⟩ := hd.get2 hx
      refine is i d Γ2 S2 hd1 i2 _ σ2 R2 H2 as2 _ rl2 st2 (Den.mono u2 hd2) fun Γ3 S3 σ3 R3 H3 as3 rl3 s3 p3 st3 q => ?_
      have up := u2.trans s3
      have e2 := e.up (s1.trans up)
      exact q _ σ3 R3 H3 as3 rl3 st3 ⟨fun Γ' S' σ' R' H' as' u a b hi => ⟨Γ', S', R', as', up.trans u, a, b, hi⟩, e2.rt, e2.nx, fun Γ' S' σ' R' H' as' u a b hi => ⟨Γ', S', R', as', up.trans u, a, b, hi⟩⟩
    · rintro σ2 H2 ⟨Γ2, S2, R2, as2, u2, rl2, st2, i2⟩
      exact e.nx Γ2 S2 σ2 R2 H2 as2 (s1.trans u2) rl2 st2 (by rw [hd.len] at i2; exact iE Γ2 S2 i2)
theorem ls_forT {tl : TE} {g : TG} (h : LE w tl Γ S fun e S1 => ∃ ds, e = .d (.tup ds) ∧ ∃ I : Nat → Env → List Own → Prop, I 0 Γ S1 ∧
    (∀ i d Γ1 S2, ds[i]? = some d → I i Γ1 S2 → LG w g (.d d) Γ1 S2 fun Γ2 S3 => LS w t1 Γ2 S3 { G with nx := I (i + 1), ct := I (i + 1), bk := G.nx }) ∧ (∀ Γ1 S2, I ds.length Γ1 S2 → G.nx Γ1 S2)) : LS w (tFor (iTup w.K tl) g t1) Γ S G := fun D σ R H as rl s e => by
  refine h σ R H as _ rl s fun v x S1 R1 H1 as1 rl1 s1 p1 e1 ⟨ds, h1, I, i0, is, iE⟩ => ?_
  subst h1
  cases e1 with
  | tup ha hd =>
    rename_i a vs
    refine ⟨a, rfl, ⟨vs, SqT.of (rl1.sub _ _ ha)⟩, ?_⟩
    refine for_tup (xs := vs) (fun i σ' H' => ∃ Γ' S' R' as', Sub R1 R' ∧ Rel w R' H' as' S' ∧ Sts w.K R' as' σ' Γ' ∧ I i Γ' S') ⟨Γ, S1, R1, as1, Sub.refl _, rl1, s.mono s1 p1, i0⟩ ?_ ?_ ?_
    · rintro i σ2 H2 hi ⟨Γ2, S2, R2, as2, u2, rl2, st2, i2⟩
      exact SqT.of (rl2.sub _ _ (u2 _ _ ha))
    · rintro i x σ2 H2 hx ⟨Γ2, S2, R2, as2, u2, rl2, st2, i2⟩
      obtain ⟨d, hd1, hd2⟩ := hd.get2 hx
      refine is i d Γ2 S2 hd1 i2 _ σ2 R2 H2 as2 _ rl2 st2 (Den.mono u2 hd2) fun Γ3 S3 σ3 R3 H3 as3 rl3 s3 p3 st3 q => ?_
      have up := u2.trans s3
      have e2 := e.up (s1.trans up)
      exact q _ σ3 R3 H3 as3 rl3 st3 ⟨fun Γ' S' σ' R' H' as' u a b hi => ⟨Γ', S', R', as', up.trans u, a, b, hi⟩, e2.rt, e2.nx, fun Γ' S' σ' R' H' as' u a b hi => ⟨Γ', S', R', as', up.trans u, a, b, hi⟩⟩
    · rintro σ2 H2 ⟨Γ2, S2, R2, as2, u2, rl2, st2, i2⟩
      exact e.nx Γ2 S2 σ2 R2 H2 as2 (s1.trans u2) rl2 st2 (by rw [hd.len] at i2; exact iE Γ2 S2 i2)
end
end Gm
namespace Gm
open PySem L2

/-! ### calls -/
def wb (S : List Own) : List Nat → List Own → List Own
  | [], _ => S
  | _ :: _, [] => S
  | i :: is, b :: bs => wb (S.set i b) is bs
theorem wb_len : ∀ (is : List Nat) (bs : List Own) (S : List Own), (wb S is bs).length = S.length
  | [], _, _ => by simp [wb]
  | _ :: _, [], _ => by simp [wb]
  | i :: is, b :: bs, S => by unfold wb; rw [wb_len is bs, List.length_set]
theorem wb_out : ∀ (is : List Nat) (bs : List Own) (S : List Own) (i : Nat), i ∉ is → (wb S is bs)[i]? = S[i]?
  | [], _, _, _, _ => by simp [wb]
  | _ :: _, [], _, _, _ => by simp [wb]
  | j :: is, b :: bs, S, i, h => by
    unfold wb
    rw [wb_out is bs _ i (fun q => h (List.mem_cons_of_mem _ q)), List.getElem?_set_ne (fun q => h (by rw [q]; exact List.mem_cons_self ..))]
theorem wb_in : ∀ (is : List Nat) (bs : List Own) (S : List Own) (j i : Nat) (b : Own), is.Nodup → is[j]? = some i → bs[j]? = some b → i < S.length → (wb S is bs)[i]? = some b
  | [], _, _, _, _, _, _, h, _, _ => by simp at h
  | _ :: _, [], _, _, _, _, _, _, h, _ => by simp at h
  | x :: is, y :: bs, S, 0, i, b, hn, h1, h2, hl => by
    simp at h1 h2
    subst h1 h2
    unfold wb
    rw [wb_out is bs _ x (List.nodup_cons.mp hn).1, List.getElem?_set_self hl]
  | x :: is, y :: bs, S, j + 1, i, b, hn, h1, h2, hl => by
    unfold wb
    exact wb_in is bs _ j i b (List.nodup_cons.mp hn).2 (by simpa using h1) (by simpa using h2) (by rw [List.length_set]; exact hl)

def picks (as : List Addr) (is : List Nat) : List Addr := is.map fun i => (as[i]?).getD 0
def Ent.ren (is : List Nat) : Ent → Ent
  | .d x => .d x
  | .own j => .own ((is[j]?).getD 0)
  | .tup es => .tup es
def Ent.wf (n : Nat) : Ent → Bool
  | .d _ => true
  | .own j => decide (j < n)
  | .tup _ => false
mutual
def Ent.back (is : List Nat) (n : Nat) : Ent → Ent
  | .d x => .d x
  | .own j => if j < is.length then .own ((is[j]?).getD 0) else .own (n + (j - is.length))
  | .tup es => .tup (Ent.backs is n es)
def Ent.backs (is : List Nat) (n : Nat) : List Ent → List Ent
  | [] => []
  | e :: es => Ent.back is n e :: Ent.backs is n es
end
structure Pick (is : List Nat) (S os : List Own) : Prop where
  nd : is.Nodup
  len : is.length = os.length
  at_ : ∀ (j i : Nat), is[j]? = some i → ∃ o, os[j]? = some o ∧ S[i]? = some o ∧ o ≠ .gone

section
variable {w : Wd} {R H : Hp} {as : List Addr} {S os : List Own} {is : List Nat}
theorem picks_at (r : Rel w R H as S) (p : Pick is S os) {j : Nat} {a : Addr} (h : (picks as is)[j]? = some a) : ∃ (i : Nat) (o : Own), is[j]? = some i ∧ as[i]? = some a ∧ os[j]? = some o ∧ S[i]? = some o ∧ o ≠ .gone := by
  unfold picks at h
  rw [List.getElem?_map] at h
  cases q : is[j]? with
  | none => rw [q] at h; cases h
  | some i =>
    rw [q] at h
    obtain ⟨o, h1, h2, h3⟩ := p.at_ j i q
    obtain ⟨b, hb⟩ := r.own h2
    have e : (as[i]?).getD 0 = a := Option.some.inj h
    rw [hb] at e
    have e' : b = a := e
    subst e'
    exact ⟨i, o, rfl, hb, h1, h2, h3⟩
theorem picks_mem (r : Rel w R H as S) (p : Pick is S os) {a : Addr} (h : a ∈ picks as is) : ∃ (j i : Nat) (o : Own), is[j]? = some i ∧ as[i]? = some a ∧ os[j]? = some o ∧ S[i]? = some o ∧ o ≠ Own.gone := by
  obtain ⟨j, hj⟩ := List.getElem?_of_mem h
  obtain ⟨i, o, q⟩ := picks_at r p hj
  exact ⟨j, i, o, q⟩
theorem picks_len : (picks as is).length = is.length := by unfold picks; rw [List.length_map]
theorem picks_of (r : Rel w R H as S) (p : Pick is S os) {j i : Nat} {a : Addr} (h : is[j]? = some i) (ha : as[i]? = some a) : (picks as is)[j]? = some a := by
  unfold picks
  rw [List.getElem?_map, h]
  show some ((as[i]?).getD 0) = some a
  rw [ha]; rfl
theorem Rel.enter (r : Rel w R H as S) (p : Pick is S os) : Rel ⟨w.K, R, H, picks as is⟩ R H (picks as is) os where
  r0 := Sub.refl _
  sub := r.sub
  keep := fun b o e _ => e
  there := fun b e => e
  pre := fun i a e => e
  orig := fun b o e => .inl e
  len := by rw [picks_len]; exact p.len
  reg := fun j o a h1 h2 h3 => by
    obtain ⟨i, o', e1, e2, e3, e4, e5⟩ := picks_at r p h2
    rw [h1] at e3; cases e3
    exact ⟨(r.reg i o a e4 e2 h3).1, .inr (List.mem_of_getElem? h2)⟩
  dist := fun j1 j2 a o u h1 h2 n1 n2 a1 a2 => by
    obtain ⟨i1, o1, b1, b2, b3, b4, b5⟩ := picks_at r p a1
    obtain ⟨i2, o2, c1, c2, c3, c4, c5⟩ := picks_at r p a2
    have e : i1 = i2 := r.dist i1 i2 a o1 o2 b4 c4 b5 c5 b2 c2
    subst e
    exact nd_ix p.nd b1 c1
theorem Rel.leave {R' H' : Hp} {as' : List Addr} {bs nw : List Own} (r : Rel w R H as S) (p : Pick is S os) (hl : bs.length = is.length) (hb : ∀ o ∈ bs, o ≠ .gone)
    (r' : Rel ⟨w.K, R, H, picks as is⟩ R' H' as' (bs ++ nw)) : Rel w R' H' (as ++ as'.drop is.length) (wb S is bs ++ nw) ∧ Sub R R' ∧ Pre as (as ++ as'.drop is.length) := by
  have p0 : Pre as (as ++ as'.drop is.length) := Pre.app _ _
  have lens : (wb S is bs).length = S.length := wb_len is bs S
  have len' : as'.length = is.length + nw.length := by rw [r'.len, List.length_append, hl]
  -- the addresses by place
  have lo : ∀ {i : Nat} {a : Addr}, i < S.length → (as ++ as'.drop is.length)[i]? = some a → as[i]? = some a := fun hi h => by
    rw [List.getElem?_append_left (by rw [r.len]; exact hi)] at h; exact h
  have hi_ : ∀ {i : Nat} {a : Addr}, ¬ i < S.length → (as ++ as'.drop is.length)[i]? = some a → as'[is.length + (i - S.length)]? = some a := fun {i a} hi h => by
    rw [List.getElem?_append_right (by rw [r.len]; omega), List.getElem?_drop, r.len] at h; exact h
  have slo : ∀ {i : Nat} {o : Own}, i < S.length → (wb S is bs ++ nw)[i]? = some o → (wb S is bs)[i]? = some o := fun hi h => by
    rw [List.getElem?_append_left (by rw [lens]; exact hi)] at h; exact h
  have shi : ∀ {i : Nat} {o : Own}, ¬ i < S.length → (wb S is bs ++ nw)[i]? = some o → (bs ++ nw)[is.length + (i - S.length)]? = some o := fun {i o} hi h => by
    rw [List.getElem?_append_right (by rw [lens]; omega), lens] at h
    rw [List.getElem?_append_right (by rw [hl]; omega), hl, show is.length + (i - S.length) - is.length = i - S.length by omega]; exact h
  -- an old place that is live behind was live before
  have live : ∀ {i : Nat} {o : Own}, (wb S is bs)[i]? = some o → o ≠ .gone → ∃ u, S[i]? = some u ∧ u ≠ .gone := fun {i o} h n => by
    by_cases q : i ∈ is
    · obtain ⟨j, hj⟩ := List.getElem?_of_mem q
      obtain ⟨u, h1, h2, h3⟩ := p.at_ j i hj
      exact ⟨u, h2, h3⟩
    · rw [wb_out is bs S i q] at h; exact ⟨o, h, n⟩
  -- a new place stands apart from all that was there
  have apart : ∀ {i : Nat} {o : Own} {a : Addr}, ¬ i < S.length → (wb S is bs ++ nw)[i]? = some o → o ≠ .gone → (as ++ as'.drop is.length)[i]? = some a → H a = none := fun {i o a} hi h n ha => by
    have e1 := shi hi h
    have e2 := hi_ hi ha
    obtain ⟨g1, g2⟩ := r'.reg _ o a e1 e2 n
    rcases g2 with g2 | g2
    · exact g2
    · obtain ⟨j, i', u, c1, c2, c3, c4, c5⟩ := picks_mem r p g2
      have hj : j < is.length := (List.getElem?_eq_some_iff.mp c1).1
      have hbj : ∃ b, bs[j]? = some b := ⟨_, List.getElem?_eq_getElem (by rw [hl]; exact hj)⟩
      obtain ⟨b, hb1⟩ := hbj
      have e3 : as'[j]? = some a := r'.pre j a (picks_of r p c1 c2)
      have e4 : (bs ++ nw)[j]? = some b := by rw [List.getElem?_append_left (by rw [hl]; exact hj)]; exact hb1
      have := r'.dist j _ a b o e4 e1 (hb b (List.mem_of_getElem? hb1)) n e3 e2
      omega
  refine ⟨⟨r.r0.trans r'.r0, r'.sub, fun b o e n => ?_, fun b e => r.there b (r'.there b e), fun i a e => p0 i a (r.pre i a e), fun b o e => ?_, ?_, fun i o a h1 h2 h3 => ?_, fun i j a o u h1 h2 n1 n2 a1 a2 => ?_⟩, r'.r0, p0⟩
  · refine r'.keep b o (r.keep b o e n) fun hm => ?_
    obtain ⟨j, i, u, c1, c2, c3, c4, c5⟩ := picks_mem r p hm
    rcases (r.reg i u b c4 c2 c5).2 with g | g
    · rw [e] at g; cases g
    · exact n g
  · rcases r'.orig b o e with q | q | q
    · exact r.orig b o q
    · exact .inr (.inl (r.there b q))
    · obtain ⟨j, i, u, c1, c2, c3, c4, c5⟩ := picks_mem r p q
      exact .inr (r.reg i u _ c4 c2 c5).2
  · rw [List.length_append, List.length_drop, List.length_append, lens, r.len, len']; omega
  · by_cases hi : i < S.length
    · have e1 := slo hi h1
      have e2 := lo hi h2
      by_cases q : i ∈ is
      · obtain ⟨j, hj⟩ := List.getElem?_of_mem q
        obtain ⟨u, c1, c2, c3⟩ := p.at_ j i hj
        have hjl : j < is.length := (List.getElem?_eq_some_iff.mp hj).1
        obtain ⟨b, hb1⟩ : ∃ b, bs[j]? = some b := ⟨_, List.getElem?_eq_getElem (by rw [hl]; exact hjl)⟩
        rw [wb_in is bs S j i b p.nd hj hb1 hi] at e1
        cases e1
        have e3 : as'[j]? = some a := r'.pre j a (picks_of r p hj e2)
        have e4 : (bs ++ nw)[j]? = some o := by rw [List.getElem?_append_left (by rw [hl]; exact hjl)]; exact hb1
        exact ⟨(r'.reg j o a e4 e3 h3).1, (r.reg i u a c2 e2 c3).2⟩
      · rw [wb_out is bs S i q] at e1
        obtain ⟨g1, g2⟩ := r.reg i o a e1 e2 h3
        obtain ⟨z1, z, z2⟩ := g1.there h3
        have nm : a ∉ picks as is := fun hm => by
          obtain ⟨j, i', u, c1, c2, c3, c4, c5⟩ := picks_mem r p hm
          have := r.dist i i' a o u e1 c4 h3 c5 e2 c2
          subst this
          exact q (List.mem_of_getElem? c1)
        refine ⟨g1.upd_ r'.r0 (fun _ hr => ?_) fun _ => ?_, g2⟩
        · cases qq : R' a with
          | none => rfl
          | some v =>
            rcases r'.orig a v qq with c | c | c
            · have c' : R a = some v := c
              rw [hr] at c'; cases c'
            · have c' : H a = none := c
              rw [z2] at c'; cases c'
            · exact absurd c nm
        · rw [z2]; exact r'.keep a z z2 nm
    · have e1 := shi hi h1
      have e2 := hi_ hi h2
      exact ⟨(r'.reg _ o a e1 e2 h3).1, .inl (r.there a (apart hi h1 h3 h2))⟩
  · have old : ∀ {k : Nat} {q : Own}, k < S.length → (wb S is bs ++ nw)[k]? = some q → q ≠ .gone → (as ++ as'.drop is.length)[k]? = some a → ∃ z, H a = some z := fun {k q} hk e1 e2 e3 => by
      obtain ⟨u', v1, v2⟩ := live (slo hk e1) e2
      obtain ⟨z1, z, z2⟩ := (r.reg k u' a v1 (lo hk e3) v2).1.there v2
      exact ⟨z, z2⟩
    by_cases hi : i < S.length <;> by_cases hj : j < S.length
    · obtain ⟨u1, v1, v2⟩ := live (slo hi h1) n1
      obtain ⟨u2, v3, v4⟩ := live (slo hj h2) n2
      exact r.dist i j a u1 u2 v1 v3 v2 v4 (lo hi a1) (lo hj a2)
    · obtain ⟨z, z2⟩ := old hi h1 n1 a1
      rw [apart hj h2 n2 a2] at z2; cases z2
    · obtain ⟨z, z2⟩ := old hj h2 n2 a2
      rw [apart hi h1 n1 a1] at z2; cases z2
    · have := r'.dist _ _ a o u (shi hi h1) (shi hj h2) n1 n2 (hi_ hi a1) (hi_ hj a2)
      omega
theorem ents_enter (r : Rel w R H as S) (p : Pick is S os) : ∀ {vs : List V} {es : List Ent}, EntsOk w.K R as vs (es.map (Ent.ren is)) → es.all (Ent.wf is.length) = true → EntsOk w.K R (picks as is) vs es
  | [], [], _, _ => trivial
  | v :: vs, .d x :: es, ⟨h, t⟩, q => ⟨h, ents_enter r p t (by simpa [Ent.wf] using q)⟩
  | v :: vs, .own j :: es, ⟨h, t⟩, q => by
    have q' : j < is.length ∧ es.all (Ent.wf is.length) = true := by simpa [Ent.wf] using q
    refine ⟨?_, ents_enter r p t q'.2⟩
    obtain ⟨a, h1, h2⟩ := h
    rw [List.getElem?_eq_getElem q'.1] at h1
    exact ⟨a, picks_of r p (List.getElem?_eq_getElem q'.1) h1, h2⟩
  | v :: vs, .tup _ :: es, _, q => by simp [Ent.wf] at q
  | [], _ :: _, h, _ => h.elim
  | _ :: _, [], h, _ => h.elim
theorem own_leave {R' H' : Hp} {as' : List Addr} {bs nw : List Own} (r : Rel w R H as S) (p : Pick is S os) (r' : Rel ⟨w.K, R, H, picks as is⟩ R' H' as' (bs ++ nw)) {v : V} {j : Nat} (h : EntOk w.K R' as' v (.own j)) :
    EntOk w.K R' (as ++ as'.drop is.length) v (Ent.back is S.length (.own j)) := by
  obtain ⟨a, h1, h2⟩ := h
  by_cases hj : j < is.length
  · obtain ⟨o, c1, c2, c3⟩ := p.at_ j _ (List.getElem?_eq_getElem hj)
    obtain ⟨b, hb⟩ := r.own c2
    have e3 := r'.pre j b (picks_of r p (List.getElem?_eq_getElem hj) hb)
    rw [h1] at e3; cases e3
    have e : Ent.back is S.length (.own j) = .own (is[j]) := by
      show (if j < is.length then Ent.own ((is[j]?).getD 0) else _) = _
      rw [if_pos hj, List.getElem?_eq_getElem hj]; rfl
    rw [e]
    exact ⟨a, Pre.app _ _ _ _ hb, h2⟩
  · have e : Ent.back is S.length (.own j) = .own (S.length + (j - is.length)) := by
      show (if j < is.length then Ent.own ((is[j]?).getD 0) else _) = _
      rw [if_neg hj]
    rw [e]
    refine ⟨a, ?_, h2⟩
    rw [← r.len, List.getElem?_append_right (by omega), List.getElem?_drop, show is.length + (as.length + (j - is.length) - as.length) = j by omega]
    exact h1
mutual
theorem ent_leave {R' H' : Hp} {as' : List Addr} {bs nw : List Own} (r : Rel w R H as S) (p : Pick is S os) (r' : Rel ⟨w.K, R, H, picks as is⟩ R' H' as' (bs ++ nw)) : ∀ {v : V} {e : Ent}, EntOk w.K R' as' v e →
    EntOk w.K R' (as ++ as'.drop is.length) v (Ent.back is S.length e)
  | _, .d _, h => h
  | _, .own _, h => own_leave r p r' h
  | _, .tup _, ⟨a, vs, h1, h2, h3⟩ => ⟨a, vs, h1, h2, ents_leave r p r' h3⟩
theorem ents_leave {R' H' : Hp} {as' : List Addr} {bs nw : List Own} (r : Rel w R H as S) (p : Pick is S os) (r' : Rel ⟨w.K, R, H, picks as is⟩ R' H' as' (bs ++ nw)) : ∀ {vs : List V} {es : List Ent}, EntsOk w.K R' as' vs es →
    EntsOk w.K R' (as ++ as'.drop is.length) vs (Ent.backs is S.length es)
  | [], [], _ => trivial
  | _ :: _, _ :: _, ⟨h, t⟩ => ⟨ent_leave r p r' h, ents_leave r p r' t⟩
  | [], _ :: _, h => h.elim
  | _ :: _, [], h => h.elim
end
end

/-- what a def is worth, over data: arguments, the borrowed store, what is wanted behind, what of an error -/
abbrev DS := List Ent → List Own → KE → KX → Prop
def ExOk (w : Wd) (E : XK) (x : KX) : Prop := ∀ (C d : Addr) (v : V) (u : D) (S : List Own) (R H : Hp) (as : List Addr), Rel w R H as S → R d = some (.xd [("value", v)]) → Den w.K R v u → x C u S → E (.ref C) (some d) H
def spD (K : PySem.W.Frag) (f : DS) : Sp := fun vs H Q E => ∃ (R : Hp) (as : List Addr) (S : List Own) (es : List Ent) (post : KE) (exn : KX), EntsOk K R as vs es ∧ Rel ⟨K, R, H, as⟩ R H as S ∧ f es S post exn ∧
  (∀ v e S' R' H' as', Rel ⟨K, R, H, as⟩ R' H' as' S' → EntOk K R' as' v e → post e S' → Q v H') ∧ ExOk ⟨K, R, H, as⟩ E exn
section
variable {w : Wd} {Γ : Env} {S : List Own} {k : KE} {f : DS} {E : XK}
/-- the promise is met, by values -/
def RS (w : Wd) (f : DS) (E : XK) (es : List Ent) (S : List Own) (k : KE) : Prop :=
  ∀ (R H : Hp) (as : List Addr) (vs : List V) (Q : VK), Rel w R H as S → EntsOk w.K R as vs es →
    (∀ v e S' R' H' as', Rel w R' H' as' S' → Sub R R' → Pre as as' → EntOk w.K R' as' v e → k e S' → Q v H') → spD w.K f vs H Q E
theorem rs_call {x : KX} (hE : ExOk w E x) (is : List Nat) {os : List Own} {es es' : List Ent} (p : Pick is S os) (he : es = es'.map (Ent.ren is)) (hw : es'.all (Ent.wf is.length) = true)
    (h : f es' os (fun e S' => ∃ bs nw, S' = bs ++ nw ∧ bs.length = is.length ∧ (∀ o ∈ bs, o ≠ .gone) ∧ k (Ent.back is S.length e) (wb S is bs ++ nw))
      (fun C u S' => ∃ bs nw, S' = bs ++ nw ∧ bs.length = is.length ∧ (∀ o ∈ bs, o ≠ .gone) ∧ x C u (wb S is bs ++ nw))) : RS w f E es S k := fun R H as vs Q rl ev c => by
  subst he
  refine ⟨R, picks as is, os, es', _, _, ents_enter rl p ev hw, rl.enter p, h, ?_, ?_⟩
  · rintro v e S' R' H' as' r' ok ⟨bs, nw, rfl, hl, hb, hk⟩
    obtain ⟨a1, a2, a3⟩ := rl.leave p hl hb r'
    exact c v _ _ R' H' _ a1 a2 a3 (ent_leave rl p r' ok) hk
  · rintro C d v u S' R' H' as' r' hd hv ⟨bs, nw, rfl, hl, hb, hk⟩
    obtain ⟨a1, a2, a3⟩ := rl.leave p hl hb r'
    exact hE C d v u _ R' H' _ a1 hd hv hk
theorem ex0 {E : XK} : ExOk w E (fun _ _ _ => False) := fun _ _ _ _ _ _ _ _ _ _ _ h => h.elim
theorem Pick.nil : Pick [] S [] := ⟨List.nodup_nil, rfl, fun j i h => by simp at h⟩
theorem Pick.one {i : Nat} {o : Own} (h : S[i]? = some o) (n : o ≠ .gone) : Pick [i] S [o] := ⟨List.nodup_cons.mpr ⟨List.not_mem_nil, List.nodup_nil⟩, rfl, fun j i' q => by
  match j, q with
  | 0, q => cases q; exact ⟨o, rfl, h, n⟩
  | j + 1, q => simp at q⟩
theorem Pick.two {i j : Nat} {o u : Own} (hij : i ≠ j) (h : S[i]? = some o) (n : o ≠ .gone) (h' : S[j]? = some u) (n' : u ≠ .gone) : Pick [i, j] S [o, u] :=
  ⟨List.nodup_cons.mpr ⟨by simp [hij], List.nodup_cons.mpr ⟨List.not_mem_nil, List.nodup_nil⟩⟩, rfl, fun k i' q => by
    match k, q with
    | 0, q => cases q; exact ⟨o, rfl, h, n⟩
    | 1, q => cases q; exact ⟨u, rfl, h', n'⟩
    | k + 2, q => simp at q⟩
/-- nothing is borrowed -/
theorem rs_call0 {x : KX} (hE : ExOk w E x) {es : List Ent} (hw : es.all (Ent.wf 0) = true) (h : f es [] (fun e S' => k (Ent.back [] S.length e) (S ++ S')) (fun C u S' => x C u (S ++ S'))) (mono : ∀ {es S} {p p' : KE} {x x' : KX}, (∀ e S, p e S → p' e S) → (∀ C u S, x C u S → x' C u S) → f es S p x → f es S p' x') : RS w f E es S k := by
  refine rs_call hE [] (Pick.nil) (es' := es) ?_ hw (mono (fun e S' q => ⟨[], S', rfl, rfl, by simp, q⟩) (fun C u S' q => ⟨[], S', rfl, rfl, by simp, q⟩) h)
  clear h mono hE
  induction es with
  | nil => rfl
  | cons e es ih =>
    have q : Ent.wf 0 e = true ∧ es.all (Ent.wf 0) = true := by simpa using hw
    cases e with
    | d x => show _ = Ent.d x :: _; rw [← ih q.2]
    | own j => simp [Ent.wf] at q
    | tup es => simp [Ent.wf] at q
theorem le_call {t : TA} (h : LA w t Γ S fun es S1 => RS w f E es S1 k) : LE w (tCall (spD w.K f) [] E t) Γ S k := fun σ R H as Q rl s c =>
  h σ R H as _ rl s fun vs es S1 R1 H1 as1 rl1 s1 p1 e1 h1 => by
    rw [List.append_nil]
    exact h1 R1 H1 as1 vs Q rl1 e1 fun v' e' S' R' H' as' a1 a2 a3 a4 a5 => c v' e' S' R' H' as' a1 (s1.trans a2) (p1.trans a3) a4 a5
end
end Gm
namespace Gm
open PySem L2

section
variable {w : Wd} {Γ : Env} {S : List Own} {k : KE} {ta tb te : TE} {G : GE} {f : DS} {E : XK}

/-! ### objects -/
def IsObj (x : Ent) (S : List Own) (C : Addr) (gs : List (Str × D)) : Prop := x = .d (.obj C gs) ∨ ∃ i, x = .own i ∧ S[i]? = some (.ins C gs)
theorem isObj_at {R H : Hp} {as : List Addr} {v : V} {x : Ent} {C : Addr} {gs : List (Str × D)} (o : IsObj x S C gs) (r : Rel w R H as S) (e : EntOk w.K R as v x) : ∃ a dx fs, v = .ref a ∧ H a = some (.ins C dx fs) ∧ DenF w.K R fs gs := by
  rcases o with rfl | ⟨i, rfl, hi⟩
  · cases e with
    | obj h1 h2 => exact ⟨_, _, _, rfl, r.sub _ _ h1, h2⟩
  · obtain ⟨a, ha, rfl⟩ := e
    obtain ⟨⟨z, dx, fs, h1, h2⟩, _⟩ := r.reg i _ a hi ha (by intro z; cases z)
    exact ⟨a, dx, fs, rfl, h1, h2⟩
theorem le_fld {fn : Str} (h : LE w ta Γ S fun x S1 => ∃ C gs d, IsObj x S1 C gs ∧ Cls w.K C ∧ NoAttr w.K C fn ∧ gs.lookup fn = some d ∧ k (.d d) S1) : LE w (tFld w.K ta fn) Γ S k := fun σ R H as Q rl s c =>
  h σ R H as _ rl s fun v e S1 R1 H1 as1 rl1 s1 p1 e1 ⟨C, gs, d, h1, h2, h3, h4, h5⟩ => by
    obtain ⟨a, dx, fs, q1, q2, q3⟩ := isObj_at h1 rl1 e1
    obtain ⟨v', q4, q5⟩ := q3.lookup h4
    exact ⟨a, C, dx, fs, v', q1, q2, h2, h3, q4, c _ _ S1 R1 H1 as1 rl1 s1 p1 (ok_d q5) h5⟩
/-- self.f = e, self in the store -/
theorem ls_fld {tv : TE} {fn : Str} (h : LE w tv Γ S fun y S1 => LE w ta Γ S1 fun x S2 => ∃ d i C gs, y = .d d ∧ x = .own i ∧ S2[i]? = some (.ins C gs) ∧ Cls w.K C ∧ NoAttr w.K C fn ∧ gs.length < 1000 ∧ G.nx Γ (S2.set i (.ins C (putG fn d gs)))) : LS w (sFld w.K ta tv fn) Γ S G := fun D σ R H as rl s e => by
  refine h σ R H as _ rl s fun v y S1 R1 H1 as1 rl1 s1 p1 e1 h1 => ?_
  refine h1 σ R1 H1 as1 _ rl1 (s.mono s1 p1) fun u x S2 R2 H2 as2 rl2 s2 p2 e2 q => ?_
  obtain ⟨d, i, C, gs, rfl, rfl, q1, q2, q3, q4, q5⟩ := q
  obtain ⟨a, ha, rfl⟩ := e2
  obtain ⟨⟨z, dx, fs, c1, c2⟩, _⟩ := rl2.reg i _ a q1 ha (by intro z; cases z)
  have dv : Den w.K R2 v d := (e1.mono s2 p2 : EntOk w.K R2 as2 v (.d d))
  refine ⟨a, C, dx, fs, rfl, c1, q2, q3, by rw [c2.len]; exact q4, ?_⟩
  have rl3 := rl2.write (o' := .ins C (putG fn d gs)) (u := .ins C dx (putF fn v fs)) q1 ha (by intro z; cases z) (by intro z; cases z) ⟨z, dx, _, upd_same, c2.put dv⟩
  exact e.nx Γ _ σ R2 _ as2 (s1.trans s2) rl3 ((s.mono (s1.trans s2) (p1.trans p2))) q5
theorem le_meth {C : Addr} {m : Str} {t : TA} (h : LE w ta Γ S fun x S1 => ∃ gs, IsObj x S1 C gs ∧ gs.lookup m = none ∧ LA w t Γ S1 fun es S2 => RS w f E (x :: es) S2 k) : LE w (tMeth C m (spD w.K f) [] E ta t) Γ S k := fun σ R H as Q rl s c => by
  refine h σ R H as _ rl s fun v x S1 R1 H1 as1 rl1 s1 p1 e1 ⟨gs, h1, h2, h3⟩ => ?_
  obtain ⟨a, dx, fs, rfl, q2, q3⟩ := isObj_at h1 rl1 e1
  refine ⟨a, dx, fs, rfl, q2, q3.none h2, ?_⟩
  refine h3 σ R1 H1 as1 _ rl1 (s.mono s1 p1) fun vs es S2 R2 H2 as2 rl2 s2 p2 e2 h4 => ?_
  rw [List.append_nil]
  exact h4 R2 H2 as2 _ Q rl2 ⟨e1.mono s2 p2, e2⟩ fun v' e' S' R' H' as' a1 a2 a3 a4 a5 => c v' e' S' R' H' as' a1 ((s1.trans s2).trans a2) ((p1.trans p2).trans a3) a4 a5
theorem le_prop {C : Addr} (h : LE w ta Γ S fun x S1 => ∃ gs, IsObj x S1 C gs ∧ RS w f E [x] S1 k) : LE w (tProp C (spD w.K f) [] E ta) Γ S k := fun σ R H as Q rl s c => by
  refine h σ R H as _ rl s fun v x S1 R1 H1 as1 rl1 s1 p1 e1 ⟨gs, h1, h3⟩ => ?_
  obtain ⟨a, dx, fs, rfl, q2, q3⟩ := isObj_at h1 rl1 e1
  refine ⟨a, dx, fs, rfl, q2, ?_⟩
  exact h3 R1 H1 as1 _ Q rl1 ⟨e1, trivial⟩ fun v' e' S' R' H' as' a1 a2 a3 a4 a5 => c v' e' S' R' H' as' a1 (s1.trans a2) (p1.trans a3) a4 a5
theorem EntsOk.dd {K : PySem.W.Frag} {R : Hp} {as bs : List Addr} : ∀ {vs : List V} {es : List Ent}, EntsOk K R as vs es → es.all (Ent.wf 0) = true → EntsOk K R bs vs es
  | [], [], _, _ => trivial
  | v :: vs, .d x :: es, ⟨h, t⟩, q => ⟨h, EntsOk.dd t (by simpa [Ent.wf] using q)⟩
  | v :: vs, .own j :: es, _, q => by simp [Ent.wf] at q
  | v :: vs, .tup _ :: es, _, q => by simp [Ent.wf] at q
  | [], _ :: _, h, _ => h.elim
  | _ :: _, [], h, _ => h.elim
/-- C(..): __init__ fills a new object; it is data from then on -/
theorem le_make {C : Addr} {t : TA} {x : KX} (hE : ExOk w E x) (h : LA w t Γ S fun es S1 => es.all (Ent.wf 0) = true ∧ f (.own 0 :: es) [.ins C []] (fun e S' => e = .d .non ∧ ∃ gs, S' = [.ins C gs] ∧ k (.d (.obj C gs)) S1) (fun Cx u S' => S' ≠ [] ∧ x Cx u S1)) :
    LE w (tMake C (spD w.K f) [] E t) Γ S k := fun σ R H as Q rl s c => by
  refine h σ R H as _ rl s fun vs es S1 R1 H1 as1 rl1 s1 p1 e1 h1 => ?_
  obtain ⟨hw, h1⟩ := h1
  intro xa dx hx hd hne
  rw [List.append_nil]
  obtain ⟨rl2, s2⟩ := rl1.alloc hd (.own xa)
  have hx2 : (upd H1 dx (.own xa)) xa = none := by rw [upd_ne (fun z => hne z.symm)]; exact hx
  -- the callee's world: the new object is borrowed
  have rlc : Rel ⟨w.K, upd R1 dx (.own xa), upd (upd H1 dx (.own xa)) xa (.ins C dx []), [xa]⟩ (upd R1 dx (.own xa)) (upd (upd H1 dx (.own xa)) xa (.ins C dx [])) [xa] [.ins C []] := by
    have hRx : (upd R1 dx (.own xa)) xa = none := (rl2.fresh hx2).1
    refine ⟨Sub.refl _, fun b o e => ?_, fun b o e _ => e, fun b e => e, fun i a e => e, fun b o e => .inl e, rfl, fun i o a q1 q2 q3 => ?_, fun i j a o u q1 q2 _ _ _ _ => ?_⟩
    · rw [upd_ne (ne_of_none e hRx)]; exact rl2.sub b o e
    · match i, q1, q2 with
      | 0, q1, q2 => cases q1; cases q2; exact ⟨⟨hRx, dx, [], upd_same, .nil⟩, .inr (List.mem_cons_self ..)⟩
      | i + 1, q1, _ => simp at q1
    · match i, j, q1, q2 with
      | 0, 0, _, _ => rfl
      | i + 1, _, q1, _ => simp at q1
      | 0, j + 1, _, q2 => simp at q2
  -- back in the caller's world
  have back : ∀ {R' H' : Hp} {as' : List Addr} {S' : List Own}, Rel ⟨w.K, upd R1 dx (.own xa), upd (upd H1 dx (.own xa)) xa (.ins C dx []), [xa]⟩ R' H' as' S' → S' ≠ [] → Rel w R' H' as1 S1 ∧ Sub R1 R' := by
    intro R' H' as' S' r' hS
    have rl3 : Rel w (upd R1 dx (.own xa)) (upd (upd H1 dx (.own xa)) xa (.ins C dx [])) (as1 ++ [xa]) (S1 ++ [.ins C []]) := rl2.allocO hx2 _ ⟨(rl2.fresh hx2).1, dx, [], upd_same, .nil⟩
    have sb : Sub R1 R' := s2.trans r'.r0
    have hxR : xa ∉ w.as0 ∨ True := .inr trivial
    have keepH : ∀ b u, H1 b = some u → H' b = some u := fun b u e => by
      have nb : b ≠ xa := ne_of_none e hx
      have nd : b ≠ dx := ne_of_none e hd
      refine r'.keep b u (by show upd _ _ _ b = _; rw [upd_ne nb, upd_ne nd]; exact e) (by show b ∉ [xa]; simp [nb])
    have noR : ∀ b u, H1 b = some u → R1 b = none → R' b = none := fun b u e hr => by
      have nb : b ≠ xa := ne_of_none e hx
      have nd : b ≠ dx := ne_of_none e hd
      cases qq : R' b with
      | none => rfl
      | some z =>
        rcases r'.orig b z qq with q | q | q
        · have q' : upd R1 dx (.own xa) b = some z := q
          rw [upd_ne nd, hr] at q'; cases q'
        · have q' : upd (upd H1 dx (.own xa)) xa (.ins C dx []) b = none := q
          rw [upd_ne nb, upd_ne nd, e] at q'; cases q'
        · have q' : b ∈ [xa] := q
          simp at q'
          exact absurd q' nb
    refine ⟨⟨rl1.r0.trans sb, r'.sub, fun b u e n => keepH b u (rl1.keep b u e n), fun b e => ?_, rl1.pre, fun b u e => ?_, rl1.len, fun i o a q1 q2 q3 => ?_, rl1.dist⟩, sb⟩
    · refine rl1.there b ?_
      cases qq : H1 b with
      | none => rfl
      | some z => rw [keepH b z qq] at e; cases e
    · by_cases hb : R1 b = some u
      · exact rl1.orig b u hb
      · cases qq : H1 b with
        | none => exact .inr (.inl (rl1.there b qq))
        | some z =>
          cases hr : R1 b with
          | none => rw [noR b z qq hr] at e; cases e
          | some y =>
            rw [sb b y hr] at e
            cases e
            exact absurd hr hb
    · obtain ⟨g1, g2⟩ := rl1.reg i o a q1 q2 q3
      obtain ⟨z1, z, z2⟩ := g1.there q3
      exact ⟨g1.upd_ sb (fun _ hr => noR a z z2 hr) fun _ => by rw [keepH a z z2, z2], g2⟩
  refine ⟨upd R1 dx (.own xa), [xa], [.ins C []], .own 0 :: es, _, _, ⟨⟨xa, rfl, rfl⟩, (e1.mono s2 (Pre.refl _)).dd hw⟩, rlc, h1, ?_, ?_⟩
  · rintro v e S' R' H' as' r' ok ⟨rfl, gs, rfl, hk⟩
    have hv : v = .non := by
      have ok' : Den w.K R' v .non := ok
      cases ok'; rfl
    subst hv
    refine ⟨rfl, ?_⟩
    obtain ⟨b1, b2⟩ := back r' (by simp)
    have ha0 : as'[0]? = some xa := r'.pre 0 xa rfl
    -- freeze
    have g := r'.reg 0 (.ins C gs) xa rfl ha0 (by intro z; cases z)
    obtain ⟨⟨z, dx', fs, c1, c2⟩, _⟩ := g
    have fz := r'.freeze (i := 0) (a := xa) (o := .ins C gs) (u := .ins C dx' fs) rfl ha0 (by intro z; cases z) c1
    obtain ⟨d1, d2⟩ := back fz.1 (by simp)
    exact c (.ref xa) (.d (.obj C gs)) S1 _ H' as1 d1 (s1.trans d2) p1 (ok_d (.obj upd_same (c2.mono fz.2))) hk
  · rintro Cx d v u S' R' H' as' r' hd' hv ⟨hS, hk⟩
    obtain ⟨b1, b2⟩ := back r' hS
    exact hE Cx d v u S1 R' H' as1 b1 hd' hv hk

/-! ### methods of built-in types -/
def IsLst (x : Ent) (S : List Own) (ds : List D) : Prop := x = .d (.lst ds) ∨ ∃ i, x = .own i ∧ S[i]? = some (.lst ds)
theorem isLst_at {R H : Hp} {as : List Addr} {v : V} {x : Ent} {ds : List D} (o : IsLst x S ds) (r : Rel w R H as S) (e : EntOk w.K R as v x) : ∃ a vs, v = .ref a ∧ H a = some (.lst vs) ∧ Dens w.K R vs ds := by
  rcases o with rfl | ⟨i, rfl, hi⟩
  · cases e with
    | lst h1 h2 => exact ⟨_, _, rfl, r.sub _ _ h1, h2⟩
  · obtain ⟨a, ha, rfl⟩ := e
    obtain ⟨⟨z, vs, h1, h2⟩, _⟩ := r.reg i _ a hi ha (by intro z; cases z)
    exact ⟨a, vs, rfl, h1, h2⟩
theorem le_bmL {r : V → List V → Hp → VK → Prop} {t : TA} (h : LE w ta Γ S fun x S1 => (∃ ds, IsLst x S1 ds) ∧ LA w t Γ S1 fun xs S2 => RM w r x xs S2 k) : LE w (tBM w.K "list" r ta t) Γ S k := fun σ R H as Q rl s c => by
  refine h σ R H as _ rl s fun v x S1 R1 H1 as1 rl1 s1 p1 e1 ⟨⟨ds, h1⟩, h3⟩ => ?_
  obtain ⟨a, vs, rfl, q2, q3⟩ := isLst_at h1 rl1 e1
  refine ⟨.inl ⟨rfl, vs, SqL.of q2⟩, ?_⟩
  refine h3 σ R1 H1 as1 _ rl1 (s.mono s1 p1) fun vs es S2 R2 H2 as2 rl2 s2 p2 e2 h4 => ?_
  exact h4 R2 H2 as2 _ _ Q rl2 (e1.mono s2 p2) e2 fun v' e' S' R' H' as' a1 a2 a3 a4 a5 => c v' e' S' R' H' as' a1 ((s1.trans s2).trans a2) ((p1.trans p2).trans a3) a4 a5
theorem le_bmL0 {r : V → List V → Hp → VK → Prop} (h : LE w ta Γ S fun x S1 => (∃ ds, IsLst x S1 ds) ∧ RM w r x [] S1 k) : LE w (tBM0 w.K "list" r ta) Γ S k := fun σ R H as Q rl s c => by
  refine h σ R H as _ rl s fun v x S1 R1 H1 as1 rl1 s1 p1 e1 ⟨⟨ds, h1⟩, h3⟩ => ?_
  obtain ⟨a, vs, rfl, q2, q3⟩ := isLst_at h1 rl1 e1
  refine ⟨.inl ⟨rfl, vs, SqL.of q2⟩, ?_⟩
  exact h3 R1 H1 as1 _ _ Q rl1 e1 trivial fun v' e' S' R' H' as' a1 a2 a3 a4 a5 => c v' e' S' R' H' as' a1 (s1.trans a2) (p1.trans a3) a4 a5
theorem rm_append {i : Nat} {ds : List D} {d : D} (hi : S[i]? = some (.lst ds)) (hl : ds.length < sizeLine) (q : k (.d .non) (S.set i (.lst (ds ++ [d])))) : RM w rAppend (.own i) [.d d] S k := fun R H as u us Q rl hu hus c => by
  obtain ⟨a, ha, rfl⟩ := hu
  obtain ⟨⟨z, vs, c1, c2⟩, _⟩ := rl.reg i _ a hi ha (by intro z; cases z)
  match us, hus with
  | [v], ⟨hv, _⟩ =>
    refine ⟨a, vs, v, rfl, rfl, c1, by rw [c2.len]; exact hl, ?_⟩
    have rl2 := rl.write (o' := .lst (ds ++ [d])) (u := .lst (vs ++ [v])) hi ha (by intro z; cases z) (by intro z; cases z) ⟨z, _, upd_same, c2.append (.cons hv .nil)⟩
    exact c .non (.d .non) _ R _ as rl2 (Sub.refl _) (Pre.refl _) (ok_d .non) q
theorem rm_extend {i : Nat} {ds es : List D} (hi : S[i]? = some (.lst ds)) (hl : ds.length + es.length ≤ sizeLine) (q : k (.d .non) (S.set i (.lst (ds ++ es)))) : RM w rExtend (.own i) [.d (.lst es)] S k := fun R H as u us Q rl hu hus c => by
  obtain ⟨a, ha, rfl⟩ := hu
  obtain ⟨⟨z, vs, c1, c2⟩, _⟩ := rl.reg i _ a hi ha (by intro z; cases z)
  match us, hus with
  | [v], ⟨hv, _⟩ =>
    cases hv with
    | lst h1 h2 =>
      rename_i b ws
      refine ⟨a, b, vs, ws, rfl, rfl, c1, rl.sub _ _ h1, by rw [c2.len, h2.len]; exact hl, ?_⟩
      have rl2 := rl.write (o' := .lst (ds ++ es)) (u := .lst (vs ++ ws)) hi ha (by intro z; cases z) (by intro z; cases z) ⟨z, _, upd_same, c2.append h2⟩
      exact c .non (.d .non) _ R _ as rl2 (Sub.refl _) (Pre.refl _) (ok_d .non) q
theorem lg_sub {to ti : TE} {e : D} {k : Env → List Own → Prop} (h : LE w to Γ S fun x S1 => LE w ti Γ S1 fun y S2 => ∃ i ds n j, x = .own i ∧ S2[i]? = some (.lst ds) ∧ y = .d (.int n) ∧ ixN ds.length n = some j ∧ k Γ (S2.set i (.lst (ds.set j e)))) : LG w (gSub to ti rSetL) (.d e) Γ S k := fun v σ R H as Q rl s he c => by
  refine h σ R H as _ rl s fun u x S1 R1 H1 as1 rl1 s1 p1 e1 h1 => ?_
  refine h1 σ R1 H1 as1 _ rl1 (s.mono s1 p1) fun u2 y S2 R2 H2 as2 rl2 s2 p2 e2 q => ?_
  obtain ⟨i, ds, n, j, rfl, q1, rfl, q2, q3⟩ := q
  obtain ⟨a, ha, rfl⟩ := e1.mono s2 p2
  obtain ⟨⟨z, vs, c1, c2⟩, _⟩ := rl2.reg i _ a q1 ha (by intro z; cases z)
  cases e2
  have hv : Den w.K R2 v e := (he.mono (s1.trans s2) (p1.trans p2) : EntOk w.K R2 as2 v (.d e))
  refine ⟨a, vs, n, j, rfl, rfl, c1, by rw [c2.len]; exact q2, ?_⟩
  have rl3 := rl2.write (o' := .lst (ds.set j e)) (u := .lst (vs.set j v)) q1 ha (by intro z; cases z) (by intro z; cases z) ⟨z, _, upd_same, c2.set hv j⟩
  exact c Γ _ σ R2 _ as2 rl3 (s1.trans s2) (p1.trans p2) (s.mono (s1.trans s2) (p1.trans p2)) q3

/-! ### slices, sums of lists and tuples -/
def LO (w : Wd) (t : TO) (Γ : Env) (S : List Own) (k : Option Int → List Own → Prop) : Prop :=
  ∀ (σ : St) (R H : Hp) (as : List Addr) (Q : Option Int → Hp → Prop), Rel w R H as S → Sts w.K R as σ Γ →
    (∀ o S' R' H' as', Rel w R' H' as' S' → Sub R R' → Pre as as' → k o S' → Q o H') → t σ H Q
theorem lo_none {k : Option Int → List Own → Prop} (q : k none S) : LO w tNoPart Γ S k := fun σ R H as Q rl s c => c none S R H as rl (Sub.refl _) (Pre.refl _) q
theorem lo_some {k : Option Int → List Own → Prop} (h : LE w te Γ S fun e S1 => ∃ i, e = .d (.int i) ∧ k (some i) S1) : LO w (tPart te) Γ S k := fun σ R H as Q rl s c =>
  h σ R H as _ rl s fun v e S1 R1 H1 as1 rl1 s1 p1 e1 ⟨i, h1, h2⟩ => by
    subst h1; cases e1
    exact ⟨i, rfl, c _ S1 R1 H1 as1 rl1 s1 p1 h2⟩
def cutD (xs : List D) (lo hi : Option Int) : List D := (xs.drop (HT.sIx xs.length 0 lo)).take (HT.sIx xs.length xs.length hi - HT.sIx xs.length 0 lo)
theorem cut_dens {K : PySem.W.Frag} {R : Hp} {vs : List V} {ds : List D} (h : Dens K R vs ds) (lo hi : Option Int) : Dens K R (cutV vs lo hi) (cutD ds lo hi) := by
  unfold cutV cutD
  rw [h.len]
  exact (h.drop _).take _
theorem le_slL {tl th : TO} (h : LE w te Γ S fun x S1 => LO w tl Γ S1 fun lo S2 => LO w th Γ S2 fun hi S3 => ∃ ds, IsLst x S3 ds ∧ k (.d (.lst (cutD ds lo hi))) S3) : LE w (tSl (rSlL w.K) te tl th) Γ S k := fun σ R H as Q rl s c => by
  refine h σ R H as _ rl s fun v x S1 R1 H1 as1 rl1 s1 p1 e1 h1 => ?_
  refine h1 σ R1 H1 as1 _ rl1 (s.mono s1 p1) fun lo S2 R2 H2 as2 rl2 s2 p2 h2 => ?_
  refine h2 σ R2 H2 as2 _ rl2 (s.mono (s1.trans s2) (p1.trans p2)) fun hi S3 R3 H3 as3 rl3 s3 p3 ⟨ds, h3, h4⟩ => ?_
  obtain ⟨a, vs, rfl, q2, q3⟩ := isLst_at h3 rl3 ((e1.mono s2 p2).mono s3 p3)
  refine ⟨a, vs, rfl, SqL.of q2, fun p hp => ?_⟩
  obtain ⟨rl4, s4⟩ := rl3.alloc hp (.lst (cutV vs lo hi))
  exact c _ _ S3 _ _ as3 rl4 (((s1.trans s2).trans s3).trans s4) ((p1.trans p2).trans p3) (ok_d (Den.lst upd_same ((cut_dens q3 lo hi).mono s4))) h4
/-- the same, into the store -/
theorem le_slLO {tl th : TO} (h : LE w te Γ S fun x S1 => LO w tl Γ S1 fun lo S2 => LO w th Γ S2 fun hi S3 => ∃ ds, IsLst x S3 ds ∧ k (.own S3.length) (S3 ++ [.lst (cutD ds lo hi)])) : LE w (tSl (rSlL w.K) te tl th) Γ S k := fun σ R H as Q rl s c => by
  refine h σ R H as _ rl s fun v x S1 R1 H1 as1 rl1 s1 p1 e1 h1 => ?_
  refine h1 σ R1 H1 as1 _ rl1 (s.mono s1 p1) fun lo S2 R2 H2 as2 rl2 s2 p2 h2 => ?_
  refine h2 σ R2 H2 as2 _ rl2 (s.mono (s1.trans s2) (p1.trans p2)) fun hi S3 R3 H3 as3 rl3 s3 p3 ⟨ds, h3, h4⟩ => ?_
  obtain ⟨a, vs, rfl, q2, q3⟩ := isLst_at h3 rl3 ((e1.mono s2 p2).mono s3 p3)
  refine ⟨a, vs, rfl, SqL.of q2, fun p hp => ?_⟩
  have rl4 := rl3.allocO hp (.lst (cutV vs lo hi)) (o := .lst (cutD ds lo hi)) ⟨(rl3.fresh hp).1, _, upd_same, cut_dens q3 lo hi⟩
  exact c _ _ _ _ _ _ rl4 ((s1.trans s2).trans s3) (((p1.trans p2).trans p3).trans (Pre.app _ _)) (ok_own (by rw [← rl3.len]; exact List.getElem?_concat_length)) h4
theorem le_slT {tl th : TO} (h : LE w te Γ S fun x S1 => LO w tl Γ S1 fun lo S2 => LO w th Γ S2 fun hi S3 => ∃ ds, x = .d (.tup ds) ∧ ¬ (HT.sIx ds.length 0 lo = 0 ∧ HT.sIx ds.length ds.length hi = ds.length) ∧ k (.d (.tup (cutD ds lo hi))) S3) : LE w (tSl (rSlT w.K) te tl th) Γ S k := fun σ R H as Q rl s c => by
  refine h σ R H as _ rl s fun v x S1 R1 H1 as1 rl1 s1 p1 e1 h1 => ?_
  refine h1 σ R1 H1 as1 _ rl1 (s.mono s1 p1) fun lo S2 R2 H2 as2 rl2 s2 p2 h2 => ?_
  refine h2 σ R2 H2 as2 _ rl2 (s.mono (s1.trans s2) (p1.trans p2)) fun hi S3 R3 H3 as3 rl3 s3 p3 ⟨ds, h3, hn, h4⟩ => ?_
  subst h3
  have e3 := (e1.mono s2 p2).mono s3 p3
  cases e3 with
  | tup ha hd =>
    rename_i a vs
    refine ⟨a, vs, rfl, SqT.of (rl3.sub _ _ ha), by rw [hd.len]; exact hn, fun p hp => ?_⟩
    obtain ⟨rl4, s4⟩ := rl3.alloc hp (.tup (cutV vs lo hi))
    exact c _ _ S3 _ _ as3 rl4 (((s1.trans s2).trans s3).trans s4) ((p1.trans p2).trans p3) (ok_d (Den.tup upd_same ((cut_dens hd lo hi).mono s4))) h4
theorem rr_cat {x y : Ent} {xs ys : List D} (hx : IsLst x S xs) (hy : IsLst y S ys) (hl : xs.length + ys.length ≤ sizeLine) (q : k (.d (.lst (xs ++ ys))) S) : RR w rCat x y S k := fun R H as u v Q rl hu hv c => by
  obtain ⟨a, vs, rfl, q2, q3⟩ := isLst_at hx rl hu
  obtain ⟨b, ws, rfl, q4, q5⟩ := isLst_at hy rl hv
  refine ⟨a, b, vs, ws, rfl, rfl, q2, q4, by rw [q3.len, q5.len]; exact hl, fun p hp => ?_⟩
  obtain ⟨rl2, s2⟩ := rl.alloc hp (.lst (vs ++ ws))
  exact c _ _ S _ _ as rl2 s2 (Pre.refl _) (ok_d (Den.lst upd_same ((q3.append q5).mono s2))) q
theorem rr_catT {xs ys : List D} (hn : xs ≠ []) (hl : xs.length + ys.length ≤ sizeLine) (q : k (.d (.tup (xs ++ ys))) S) : RR w (rCatT w.K) (.d (.tup xs)) (.d (.tup ys)) S k := fun R H as u v Q rl hu hv c => by
  cases hu with
  | tup h1 h2 =>
    cases hv with
    | tup h3 h4 =>
      rename_i a vs b ws
      refine ⟨a, b, vs, ws, rfl, rfl, SqT.of (rl.sub _ _ h1), SqT.of (rl.sub _ _ h3), fun z => hn ?_, by rw [h2.len, h4.len]; exact hl, fun z => ?_, fun z p hp => ?_⟩
      · subst z; cases h2; rfl
      · subst z; cases h4
        rw [List.append_nil] at q
        exact c _ _ S R H as rl (Sub.refl _) (Pre.refl _) (ok_d (Den.tup h1 h2)) q
      · obtain ⟨rl2, s2⟩ := rl.alloc hp (.tup (vs ++ ws))
        exact c _ _ S _ _ as rl2 s2 (Pre.refl _) (ok_d (Den.tup upd_same ((h2.append h4).mono s2))) q

/-! ### built-ins -/
def gLen (K : PySem.W.Frag) : List V → Hp → VK → Prop := fun xs H Q => ∃ p ys, xs = [.ref p] ∧ (SqL K H p ys ∨ SqT K H p ys) ∧ Q (.int ys.length) H
def gAbs : List V → Hp → VK → Prop := fun xs H Q => ∃ i, xs = [.int i] ∧ Q (.int (if i < 0 then -i else i)) H
def gMax2 : List V → Hp → VK → Prop := fun xs H Q => ∃ i j, xs = [.int i, .int j] ∧ Q (.int (if j > i then j else i)) H
def gMin2 : List V → Hp → VK → Prop := fun xs H Q => ∃ i j, xs = [.int i, .int j] ∧ Q (.int (if j < i then j else i)) H
def gInt1 : List V → Hp → VK → Prop := fun xs H Q => (∃ i, xs = [.int i] ∧ Q (.int i) H) ∨ ∃ k, xs = [.bl k] ∧ Q (.int (if k then 1 else 0)) H
def gList (K : PySem.W.Frag) : List V → Hp → VK → Prop := fun xs H Q => ∃ p ys, xs = [.ref p] ∧ (SqL K H p ys ∨ SqT K H p ys) ∧ ∀ l, H l = none → Q (.ref l) (upd H l (.lst ys))
section
variable {X : Cx}
theorem c_len : CallR X (.builtin "len") (gLen X.K) := call_len_seq
theorem c_abs : CallR X (.builtin "abs") gAbs := call_abs
theorem c_max2 (hc : X.calm = true) : CallR X (.builtin "max") gMax2 := call_max2 hc
theorem c_min2 (hc : X.calm = true) : CallR X (.builtin "min") gMin2 := call_min2 hc
theorem c_int1 : CallR X (.type "int") gInt1 := call_int1
theorem c_list : CallR X (.type "list") (gList X.K) := call_list_of
end
theorem one_ent {K : PySem.W.Frag} {R : Hp} {as : List Addr} {us : List V} {x : Ent} (h : EntsOk K R as us [x]) : ∃ v, us = [v] ∧ EntOk K R as v x := by
  match us, h with
  | [v], ⟨h, _⟩ => exact ⟨v, rfl, h⟩
theorem two_ent {K : PySem.W.Frag} {R : Hp} {as : List Addr} {us : List V} {x y : Ent} (h : EntsOk K R as us [x, y]) : ∃ v u, us = [v, u] ∧ EntOk K R as v x ∧ EntOk K R as u y := by
  match us, h with
  | [v, u], ⟨h, h', _⟩ => exact ⟨v, u, rfl, h, h'⟩
def lenOf : D → Option Nat
  | .scr ns => some ns.length
  | .lst xs => some xs.length
  | .tup xs => some xs.length
  | _ => none
theorem rc_len {x : D} {n : Nat} (h : lenOf x = some n) (q : k (.d (.int n)) S) : RC w (gLen w.K) [.d x] S k := fun R H as us Q rl hu c => by
  obtain ⟨v, rfl, hv⟩ := one_ent hu
  have hv' : Den w.K R v x := hv
  cases hv' with
  | non => cases h
  | bl _ => cases h
  | int _ => cases h
  | str _ => cases h
  | obj _ _ => cases h
  | cls _ => cases h
  | ty _ => cases h
  | exn _ _ => cases h
  | eob _ _ _ => cases h
  | scr h1 =>
    cases h
    exact ⟨_, _, rfl, .inl (sub_seq rl.sub h1), by rw [List.length_map]; exact c _ _ S R H as rl (Sub.refl _) (Pre.refl _) (ok_d (Den.int _)) q⟩
  | lst h1 h2 =>
    cases h
    exact ⟨_, _, rfl, .inl (SqL.of (rl.sub _ _ h1)), by rw [h2.len]; exact c _ _ S R H as rl (Sub.refl _) (Pre.refl _) (ok_d (Den.int _)) q⟩
  | tup h1 h2 =>
    cases h
    exact ⟨_, _, rfl, .inr (SqT.of (rl.sub _ _ h1)), by rw [h2.len]; exact c _ _ S R H as rl (Sub.refl _) (Pre.refl _) (ok_d (Den.int _)) q⟩
theorem rc_lenO {i : Nat} {ds : List D} (hi : S[i]? = some (.lst ds)) (q : k (.d (.int ds.length)) S) : RC w (gLen w.K) [.own i] S k := fun R H as us Q rl hu c => by
  obtain ⟨v, rfl, hv⟩ := one_ent hu
  obtain ⟨a, vs, rfl, q2, q3⟩ := isLst_at (.inr ⟨i, rfl, hi⟩) rl hv
  exact ⟨_, _, rfl, .inl (SqL.of q2), by rw [q3.len]; exact c _ _ S R H as rl (Sub.refl _) (Pre.refl _) (ok_d (Den.int _)) q⟩
theorem rc_abs {i : Int} (q : k (.d (.int (if i < 0 then -i else i))) S) : RC w gAbs [.d (.int i)] S k := fun R H as us Q rl hu c => by
  obtain ⟨v, rfl, hv⟩ := one_ent hu
  cases hv
  exact ⟨i, rfl, c _ _ S R H as rl (Sub.refl _) (Pre.refl _) (ok_d (Den.int _)) q⟩
theorem rc_max2 {i j : Int} (q : k (.d (.int (if j > i then j else i))) S) : RC w gMax2 [.d (.int i), .d (.int j)] S k := fun R H as us Q rl hu c => by
  obtain ⟨v, u, rfl, hv, hv2⟩ := two_ent hu
  cases hv; cases hv2
  exact ⟨i, j, rfl, c _ _ S R H as rl (Sub.refl _) (Pre.refl _) (ok_d (Den.int _)) q⟩
theorem rc_min2 {i j : Int} (q : k (.d (.int (if j < i then j else i))) S) : RC w gMin2 [.d (.int i), .d (.int j)] S k := fun R H as us Q rl hu c => by
  obtain ⟨v, u, rfl, hv, hv2⟩ := two_ent hu
  cases hv; cases hv2
  exact ⟨i, j, rfl, c _ _ S R H as rl (Sub.refl _) (Pre.refl _) (ok_d (Den.int _)) q⟩
theorem rc_int {i : Int} (q : k (.d (.int i)) S) : RC w gInt1 [.d (.int i)] S k := fun R H as us Q rl hu c => by
  obtain ⟨v, rfl, hv⟩ := one_ent hu
  cases hv
  exact .inl ⟨i, rfl, c _ _ S R H as rl (Sub.refl _) (Pre.refl _) (ok_d (Den.int _)) q⟩
theorem rc_intB {b : Bool} (q : k (.d (.int (if b then 1 else 0))) S) : RC w gInt1 [.d (.bl b)] S k := fun R H as us Q rl hu c => by
  obtain ⟨v, rfl, hv⟩ := one_ent hu
  cases hv
  exact .inr ⟨b, rfl, c _ _ S R H as rl (Sub.refl _) (Pre.refl _) (ok_d (Den.int _)) q⟩
def itemsOf : D → Option (List D)
  | .lst xs => some xs
  | .tup xs => some xs
  | _ => none
theorem rc_list {x : D} {ds : List D} (h : itemsOf x = some ds) (q : k (.d (.lst ds)) S) : RC w (gList w.K) [.d x] S k := fun R H as us Q rl hu c => by
  obtain ⟨v, rfl, hv⟩ := one_ent hu
  have hv' : Den w.K R v x := hv
  cases hv' with
  | non => cases h
  | bl _ => cases h
  | int _ => cases h
  | str _ => cases h
  | obj _ _ => cases h
  | cls _ => cases h
  | ty _ => cases h
  | exn _ _ => cases h
  | eob _ _ _ => cases h
  | scr h1 => cases h
  | lst h1 h2 =>
    cases h
    refine ⟨_, _, rfl, .inl (SqL.of (rl.sub _ _ h1)), fun p hp => ?_⟩
    obtain ⟨rl2, s2⟩ := rl.alloc hp (.lst _)
    exact c _ _ S _ _ as rl2 s2 (Pre.refl _) (ok_d (Den.lst upd_same (h2.mono s2))) q
  | tup h1 h2 =>
    cases h
    refine ⟨_, _, rfl, .inr (SqT.of (rl.sub _ _ h1)), fun p hp => ?_⟩
    obtain ⟨rl2, s2⟩ := rl.alloc hp (.lst _)
    exact c _ _ S _ _ as rl2 s2 (Pre.refl _) (ok_d (Den.lst upd_same (h2.mono s2))) q
/-- list(xs) of a list of the store -/
theorem rc_listO {i : Nat} {ds : List D} (hi : S[i]? = some (.lst ds)) (q : k (.d (.lst ds)) S) : RC w (gList w.K) [.own i] S k := fun R H as us Q rl hu c => by
  obtain ⟨v, rfl, hv⟩ := one_ent hu
  obtain ⟨a, vs, rfl, q2, q3⟩ := isLst_at (.inr ⟨i, rfl, hi⟩) rl hv
  refine ⟨_, _, rfl, .inl (SqL.of q2), fun p hp => ?_⟩
  obtain ⟨rl2, s2⟩ := rl.alloc hp (.lst vs)
  exact c _ _ S _ _ as rl2 s2 (Pre.refl _) (ok_d (Den.lst upd_same (q3.mono s2))) q
end
end Gm
namespace Gm
open PySem L2

section
variable {w : Wd} {Γ : Env} {S : List Own} {k : KE} {ta tb te : TE} {G : GE} {f : DS} {E : XK}
/-! ### comprehensions: the list under way stands last in the store -/
theorem take_app {α : Type} {xs : List α} {x : α} : (xs ++ [x]).length = xs.length + 1 := by simp
theorem Rel.drop1 {R H : Hp} {as : List Addr} {o : Own} (r : Rel w R H as (S ++ [o])) : Rel w R H as (S ++ [.gone]) := by
  have hl : ∀ (i : Nat) (u : Own), (S ++ [Own.gone])[i]? = some u → u ≠ .gone → (S ++ [o])[i]? = some u := fun i u h n => by
    by_cases hi : i < S.length
    · rw [List.getElem?_append_left hi] at h ⊢; exact h
    · have h' := (List.getElem?_eq_some_iff.mp h).1
      rw [take_app] at h'
      have e : i = S.length := by omega
      subst e
      rw [List.getElem?_concat_length] at h
      cases h; exact absurd rfl n
  exact ⟨r.r0, r.sub, r.keep, r.there, r.pre, r.orig, by rw [r.len, take_app, take_app], fun i u a h1 h2 h3 => r.reg i u a (hl i u h1 h3) h2 h3, fun i j a u v h1 h2 n1 n2 => r.dist i j a u v (hl i u h1 n1) (hl j v h2 n2) n1 n2⟩
/-- a place that holds nothing may be forgotten at the end -/
theorem Rel.pop {R H : Hp} {as : List Addr} (r : Rel w R H as (S ++ [.gone])) (hp : w.as0.length ≤ S.length) : Rel w R H (as.take S.length) S := by
  have lt : ∀ {i : Nat} {a : Addr}, (as.take S.length)[i]? = some a → as[i]? = some a ∧ i < S.length := fun {i a} h => by
    have hi := (List.getElem?_eq_some_iff.mp h).1
    rw [List.length_take] at hi
    rw [List.getElem?_take] at h
    split at h
    · exact ⟨h, by omega⟩
    · cases h
  have ls : ∀ {i : Nat} {o : Own}, S[i]? = some o → (S ++ [Own.gone])[i]? = some o := fun {i o} h => by
    rw [List.getElem?_append_left (List.getElem?_eq_some_iff.mp h).1]; exact h
  have hlen := r.len
  rw [take_app] at hlen
  refine ⟨r.r0, r.sub, r.keep, r.there, fun i a h => ?_, r.orig, by rw [List.length_take]; omega, fun i o a h1 h2 h3 => r.reg i o a (ls h1) (lt h2).1 h3, fun i j a o u h1 h2 n1 n2 a1 a2 => r.dist i j a o u (ls h1) (ls h2) n1 n2 (lt a1).1 (lt a2).1⟩
  have := (List.getElem?_eq_some_iff.mp h).1
  rw [List.getElem?_take, if_pos (by omega)]
  exact r.pre i a h

theorem lt_yes {kb : Bool → List Own → Prop} (q : kb true S) : LT w tYes Γ S kb := fun σ R H as Q rl s c => c true S R H as rl (Sub.refl _) (Pre.refl _) q
theorem Rel.as0_le {R H : Hp} {as : List Addr} (r : Rel w R H as S) : w.as0.length ≤ S.length := by
  cases h : w.as0.length with
  | zero => exact Nat.zero_le _
  | succ n =>
    have hn : n < w.as0.length := by omega
    have := (List.getElem?_eq_some_iff.mp (r.pre n _ (List.getElem?_eq_getElem hn))).1
    rw [← r.len]; omega
/-- what one turn asks -/
def LcT (w : Wd) (Γ : Env) (v : Nat) (tt : TT) (te : TE) (x : D) (acc : List D) (S2 : List Own) (N : List D → List Own → Prop) : Prop :=
  LT w tt (Γ.set v (some (.d x))) (S2 ++ [.lst acc]) fun b S3 =>
    (b = true → LE w te (Γ.set v (some (.d x))) S3 fun e S4 => ∃ d S5, e = .d d ∧ S4 = S5 ++ [.lst acc] ∧ S5.length = S2.length ∧ acc.length < sizeLine ∧ N (acc ++ [d]) S5) ∧
    (b = false → ∃ S5, S3 = S5 ++ [.lst acc] ∧ S5.length = S2.length ∧ N acc S5)
def LcP (w : Wd) (R1 : Hp) (as1 : List Addr) (n : Nat) (Dl : Addr) (I : List D → List Own → Prop) (H : Hp) : Prop :=
  ∃ S' R' as' acc, Rel w R' H as' (S' ++ [.lst acc]) ∧ Sub R1 R' ∧ Pre as1 as' ∧ as'[S'.length]? = some Dl ∧ S'.length = n ∧ I acc S'
theorem lc_turn {v : Nat} {tt : TT} {σ : St} {R1 R2 H2 : Hp} {as1 as2 : List Addr} {S2 : List Own} {acc : List D} {x : D} {u : V} {Dl : Addr} {N : List D → List Own → Prop} (st : Sts w.K R1 as1 σ Γ)
    (rl : Rel w R2 H2 as2 (S2 ++ [.lst acc])) (sb : Sub R1 R2) (pr : Pre as1 as2) (hD : as2[S2.length]? = some Dl) (hx : Den w.K R2 u x) (h : LcT w Γ v tt te x acc S2 N) :
    gName v u (wipe σ [v]) H2 fun σ2 H3 => wipe σ2 [v] = wipe σ [v] ∧ tt σ2 H3 fun b H4 => if b = true then te σ2 H4 fun y H5 => ∃ acc, H5 Dl = some (.lst acc) ∧ acc.length < sizeLine ∧ LcP w R1 as1 S2.length Dl N (upd H5 Dl (.lst (acc ++ [y]))) else LcP w R1 as1 S2.length Dl N H4 := by
  have e1 : (σ.set v none).set v (some u) = σ.set v (some u) := List.set_set ..
  refine ⟨?_, ?_⟩
  · show ((wipe σ [v]).set v (some u)).set v none = σ.set v none
    show (((σ.set v none).set v (some u))).set v none = σ.set v none
    rw [List.set_set, List.set_set]
  · have st2 : Sts w.K R2 as2 ((wipe σ [v]).set v (some u)) (Γ.set v (some (.d x))) := by
      show Sts w.K R2 as2 ((σ.set v none).set v (some u)) _
      rw [e1]
      exact (st.mono sb pr).set v (ok_d hx)
    refine h _ R2 H2 as2 _ rl st2 fun b S3 R3 H3 as3 rl3 s3 p3 q => ?_
    cases b with
    | true =>
      rw [if_pos rfl]
      refine q.1 rfl _ R3 H3 as3 _ rl3 (st2.mono s3 p3) fun y e S4 R4 H4 as4 rl4 s4 p4 e4 q4 => ?_
      obtain ⟨d, S5, rfl, rfl, hl, hz, hn⟩ := q4
      have hi : (S5 ++ [Own.lst acc])[S5.length]? = some (.lst acc) := List.getElem?_concat_length
      have ha : as4[S5.length]? = some Dl := by rw [hl]; exact p4 _ _ (p3 _ _ hD)
      obtain ⟨⟨z, vs, c1, c2⟩, _⟩ := rl4.reg _ _ _ hi ha (by intro z; cases z)
      refine ⟨vs, c1, by rw [c2.len]; exact hz, S5, R4, as4, acc ++ [d], ?_, (sb.trans s3).trans s4, (pr.trans p3).trans p4, ha, hl, hn⟩
      have rl5 := rl4.write (o' := .lst (acc ++ [d])) (u := .lst (vs ++ [y])) hi ha (by intro z; cases z) (by intro z; cases z) ⟨z, _, upd_same, c2.append (.cons e4 .nil)⟩
      have es : (S5 ++ [Own.lst acc]).set S5.length (.lst (acc ++ [d])) = S5 ++ [.lst (acc ++ [d])] := by
        rw [List.set_append_right _ _ (Nat.le_refl _), Nat.sub_self]; rfl
      rw [es] at rl5
      exact rl5
    | false =>
      rw [if_neg Bool.false_ne_true]
      obtain ⟨S5, rfl, hl, hn⟩ := q.2 rfl
      exact ⟨S5, R3, as3, acc, rl3, sb.trans s3, pr.trans p3, by rw [hl]; exact p3 _ _ hD, hl, hn⟩
theorem lc_end {R1 H : Hp} {as1 : List Addr} {n : Nat} {Dl : Addr} {I : List D → List Own → Prop} (hn : as1.length = n) (hw : w.as0.length ≤ n) (h : LcP w R1 as1 n Dl I H) : ∃ acc S' R' as', Rel w R' H as' S' ∧ Sub R1 R' ∧ Pre as1 as' ∧ Den w.K R' (.ref Dl) (.lst acc) ∧ I acc S' := by
  obtain ⟨S', R', as', acc, rl, sb, pr, hD, hl, hi⟩ := h
  have hg : (S' ++ [Own.lst acc])[S'.length]? = some (.lst acc) := List.getElem?_concat_length
  obtain ⟨⟨z, vs, c1, c2⟩, _⟩ := rl.reg _ _ _ hg hD (by intro z; cases z)
  obtain ⟨rl2, s2⟩ := rl.freeze hg hD (by intro z; cases z) c1
  have es : (S' ++ [Own.lst acc]).set S'.length .gone = S' ++ [.gone] := by
    rw [List.set_append_right _ _ (Nat.le_refl _), Nat.sub_self]; rfl
  rw [es] at rl2
  refine ⟨acc, S', _, _, rl2.pop (by rw [hl]; exact hw), sb.trans s2, fun i a hia => ?_, .lst upd_same (c2.mono s2), hi⟩
  have hil := (List.getElem?_eq_some_iff.mp hia).1
  rw [List.getElem?_take, if_pos (by omega)]
  exact pr i a hia
theorem lc_begin {R1 H1 : Hp} {as1 : List Addr} {S1 : List Own} {Dl : Addr} {I : List D → List Own → Prop} (rl : Rel w R1 H1 as1 S1) (hD : H1 Dl = none) (h : I [] S1) : LcP w R1 as1 S1.length Dl I (upd H1 Dl (.lst [])) :=
  ⟨S1, R1, as1 ++ [Dl], [], rl.allocO hD _ ⟨(rl.fresh hD).1, [], upd_same, .nil⟩, Sub.refl _, Pre.app _ _, by rw [← rl.len]; exact List.getElem?_concat_length, rfl, h⟩
theorem le_lcR {wi : TI} {v : Nat} {tt : TT} (h : LR w wi Γ S fun lo n S1 => ∃ I : Nat → List D → List Own → Prop, I 0 [] S1 ∧
    (∀ i acc S2, i < n → S2.length = S1.length → I i acc S2 → LcT w Γ v tt te (.int (lo + i)) acc S2 (I (i + 1))) ∧ (∀ acc S2, I n acc S2 → k (.d (.lst acc)) S2)) : LE w (tLc wi (gName v) tt te [v]) Γ S k := fun σ R H as Q rl s c => by
  refine h σ R H as _ rl s fun lo n S1 R1 H1 as1 rl1 s1 p1 ⟨I, i0, is, iE⟩ Dl hD => ?_
  refine lc_range (fun i H => LcP w R1 as1 S1.length Dl (I i) H) (lc_begin rl1 hD i0) (fun i H2 hi p => ?_) fun H2 p => ?_
  · obtain ⟨S2, R2, as2, acc, rl2, sb, pr, ha, hl, hi2⟩ := p
    have := lc_turn (Dl := Dl) (s.mono s1 p1) rl2 sb pr ha (Den.int (lo + i)) (is i acc S2 hi hl hi2)
    rw [hl] at this
    exact this
  · obtain ⟨acc, S', R', as', q1, q2, q3, q4, q5⟩ := lc_end rl1.len rl1.as0_le p
    exact c _ _ S' R' _ as' q1 (s1.trans q2) (p1.trans q3) (ok_d q4) (iE acc S' q5)
theorem le_lcL {tl : TE} {v : Nat} {tt : TT} (h : LE w tl Γ S fun e S1 => ∃ ds, e = .d (.lst ds) ∧ ∃ I : Nat → List D → List Own → Prop, I 0 [] S1 ∧
    (∀ i d acc S2, ds[i]? = some d → S2.length = S1.length → I i acc S2 → LcT w Γ v tt te d acc S2 (I (i + 1))) ∧ (∀ acc S2, I ds.length acc S2 → k (.d (.lst acc)) S2)) : LE w (tLc (iList w.K tl) (gName v) tt te [v]) Γ S k := fun σ R H as Q rl s c => by
  refine h σ R H as _ rl s fun vl el S1 R1 H1 as1 rl1 s1 p1 e1 ⟨ds, h1, I, i0, is, iE⟩ => ?_
  subst h1
  cases e1 with
  | lst ha hd =>
    rename_i a vs
    refine ⟨a, rfl, ⟨vs, SqL.of (rl1.sub _ _ ha)⟩, fun Dl hD => ?_⟩
    refine lc_list (xs := vs) (fun i H => LcP w R1 as1 S1.length Dl (I i) H) (lc_begin rl1 hD i0) (fun i H2 hi p => ?_) (fun i x H2 hx p => ?_) fun H2 p => ?_
    · obtain ⟨S2, R2, as2, acc, rl2, sb, pr, ha2, hl, hi2⟩ := p
      exact SqL.of (rl2.sub _ _ (sb _ _ ha))
    · obtain ⟨S2, R2, as2, acc, rl2, sb, pr, ha2, hl, hi2⟩ := p
      obtain ⟨d, hd1, hd2⟩ := hd.get2 hx
      have := lc_turn (Dl := Dl) (s.mono s1 p1) rl2 sb pr ha2 (hd2.mono sb) (is i d acc S2 hd1 hl hi2)
      rw [hl] at this
      exact this
    · rw [hd.len] at p
      obtain ⟨acc, S', R', as', q1, q2, q3, q4, q5⟩ := lc_end rl1.len rl1.as0_le p
      exact c _ _ S' R' _ as' q1 (s1.trans q2) (p1.trans q3) (ok_d q4) (iE acc S' q5)

/-! ### deep == -/
mutual
def toP : D → Option PyData
  | .non => some .none
  | .bl b => some (.bool b)
  | .int i => some (.int i)
  | .str s => some (.str s)
  | .scr _ => none
  | .lst xs => (toPs xs).map PyData.list
  | .tup xs => (toPs xs).map PyData.tuple
  | .obj _ _ => none
  | .cls _ => none
  | .exn _ _ _ => none
  | .eob _ _ => none
  | .ty _ => none
def toPs : List D → Option (List PyData)
  | [] => some []
  | x :: xs => (toP x).bind fun y => (toPs xs).map (y :: ·)
end
mutual
theorem dp_of {K : PySem.W.Frag} {R H : Hp} (sb : Sub R H) : ∀ {v : V} {d : D} {p : PyData}, Den K R v d → toP d = some p → Dp K H v p
  | _, _, _, .non, e => by simp [toP] at e; subst e; exact .non
  | _, _, _, .bl b, e => by simp [toP] at e; subst e; exact .bl b
  | _, _, _, .int i, e => by simp [toP] at e; subst e; exact .int i
  | _, _, _, .str x, e => by simp [toP] at e; subst e; exact .str x
  | _, _, _, .scr h, e => by simp [toP] at e
  | _, _, _, .lst h r, e => by
    simp [toP] at e
    obtain ⟨ps, h1, h2⟩ := e
    subst h2
    exact .lst (SqL.of (sb _ _ h)) (dps_of sb r h1)
  | _, _, _, .tup h r, e => by
    simp [toP] at e
    obtain ⟨ps, h1, h2⟩ := e
    subst h2
    exact .tup (SqT.of (sb _ _ h)) (dps_of sb r h1)
  | _, _, _, .obj h r, e => by simp [toP] at e
  | _, _, _, .exn h r, e => by simp [toP] at e
  | _, _, _, .eob h i r, e => by simp [toP] at e
theorem dps_of {K : PySem.W.Frag} {R H : Hp} (sb : Sub R H) : ∀ {vs : List V} {ds : List D} {ps : List PyData}, Dens K R vs ds → toPs ds = some ps → DpAll K H vs ps
  | _, _, _, .nil, e => by simp [toPs] at e; subst e; exact .nil
  | _, _, _, .cons (d := d) (ds := ds) h r, e => by
    simp [toPs, Option.bind_eq_some_iff] at e
    obtain ⟨y, h1, ys, h2, h3⟩ := e
    subst h3
    exact .cons (dp_of sb h h1) (dps_of sb r h2)
end
/-- a thing of the store, as data -/
def entP (S : List Own) : Ent → Option PyData
  | .d x => toP x
  | .tup _ => none
  | .own i => match S[i]? with
    | some (.lst xs) => (toPs xs).map PyData.list
    | _ => none
theorem entP_dp {R H : Hp} {as : List Addr} {v : V} {x : Ent} {p : PyData} (rl : Rel w R H as S) (h : EntOk w.K R as v x) (e : entP S x = some p) : Dp w.K H v p := by
  cases x with
  | d x => exact dp_of rl.sub h e
  | tup es => simp [entP] at e
  | own i =>
    obtain ⟨a, ha, rfl⟩ := h
    simp only [entP] at e
    cases q : S[i]? with
    | none => rw [q] at e; cases e
    | some o =>
      rw [q] at e
      cases o with
      | ins _ _ => cases e
      | gone => cases e
      | dct _ => cases e
      | lat _ _ => cases e
      | sn _ => cases e
      | lst xs =>
        obtain ⟨⟨z, vs, c1, c2⟩, _⟩ := rl.reg i _ a q ha (by intro z; cases z)
        have e' : (toPs xs).map PyData.list = some p := e
        rw [Option.map_eq_some_iff] at e'
        obtain ⟨ps, h1, h2⟩ := e'
        subst h2
        exact .lst (SqL.of c1) (dps_of rl.sub c2 h1)
theorem rr_eqD {x y : Ent} {d e : PyData} (hx : entP S x = some d) (hy : entP S y = some e) (sd : SeqAt.shaped d = true) (se : SeqAt.shaped e = true) (q : k (.d (.bl (PyData.eqv d e))) S) : RR w (rEqD w.K) x y S k := fun R H as u v Q rl hu hv c =>
  ⟨d, e, entP_dp rl hu hx, entP_dp rl hv hy, sd, se, c _ _ S R H as rl (Sub.refl _) (Pre.refl _) (ok_d (Den.bl _)) q⟩
theorem rr_neD {x y : Ent} {d e : PyData} (hx : entP S x = some d) (hy : entP S y = some e) (sd : SeqAt.shaped d = true) (se : SeqAt.shaped e = true) (q : k (.d (.bl (!PyData.eqv d e))) S) : RR w (rNeD w.K) x y S k := fun R H as u v Q rl hu hv c =>
  ⟨d, e, entP_dp rl hu hx, entP_dp rl hv hy, sd, se, c _ _ S R H as rl (Sub.refl _) (Pre.refl _) (ok_d (Den.bl _)) q⟩

/-! ### freezing -/
theorem le_frz (i : Nat) {xs : List D} {t : TE} (h : LE w t Γ S fun e S1 => ∃ xs, e = .own i ∧ S1[i]? = some (.lst xs) ∧ k (.d (.lst xs)) (S1.set i .gone)) : LE w t Γ S k := fun σ R H as Q rl s c => by
  refine h σ R H as Q rl s fun v e S1 R1 H1 as1 rl1 s1 p1 e1 ⟨xs, h1, h2, h3⟩ => ?_
  subst h1
  obtain ⟨a, ha, rfl⟩ := e1
  obtain ⟨⟨z, vs, c1, c2⟩, _⟩ := rl1.reg i _ a h2 ha (by intro z; cases z)
  obtain ⟨rl2, s2⟩ := rl1.freeze h2 ha (by intro z; cases z) c1
  exact c _ _ _ _ H1 as1 rl2 (s1.trans s2) p1 (ok_d (.lst upd_same (c2.mono s2))) h3
/-- the list of the store at i, named by slot j, becomes data -/
theorem ls_frz {t : TS} (i j : Nat) {xs : List D} (hS : S[i]? = some (.lst xs)) (hΓ : Γ[j]? = some (some (.own i))) (h : LS w t (Γ.set j (some (.d (.lst xs)))) (S.set i .gone) G) : LS w t Γ S G := fun D σ R H as rl s e => by
  obtain ⟨v, hv, a, ha, rfl⟩ := s.get j _ hΓ
  obtain ⟨⟨z, vs, c1, c2⟩, _⟩ := rl.reg i _ a hS ha (by intro z; cases z)
  obtain ⟨rl2, s2⟩ := rl.freeze hS ha (by intro z; cases z) c1
  have st := (s.mono s2 (Pre.refl _)).set j (ok_d (K := w.K) (R := upd R a (.lst vs)) (as := as) (.lst upd_same (c2.mono s2)))
  have hl := (List.getElem?_eq_some_iff.mp hv)
  have e2 : σ.set j (some (.ref a)) = σ := by
    obtain ⟨hj, e⟩ := hl
    rw [← e]; exact List.set_getElem_self hj
  rw [e2] at st
  exact h D σ _ H as rl2 st (e.up s2)
theorem Sts.pop {K : PySem.W.Frag} {R : Hp} {as : List Addr} {σ : St} {Γ' : Env} {n : Nat} (h : Sts K R as σ Γ) (hl : Γ'.length = Γ.length) (hg : ∀ (j : Nat) (e : Ent), Γ'[j]? = some (some e) → Γ[j]? = some (some e) ∧ e.wf n = true) : Sts K R (as.take n) σ Γ' := by
  refine ⟨h.len.trans hl.symm, fun i e q => ?_⟩
  obtain ⟨q1, q2⟩ := hg i e q
  obtain ⟨v, h1, h2⟩ := h.get i e q1
  refine ⟨v, h1, ?_⟩
  cases e with
  | d x => exact h2
  | tup es => exact absurd q2 (by simp [Ent.wf])
  | own k =>
    obtain ⟨a, h3, h4⟩ := h2
    have hk : k < n := of_decide_eq_true q2
    exact ⟨a, by rw [List.getElem?_take, if_pos hk]; exact h3, h4⟩
/-- the last thing of the store is forgotten; Γ' names no more of it -/
theorem ls_forget {t : TS} {o : Own} {Γ' : Env} (hw : w.as0.length ≤ S.length) (hl : Γ'.length = Γ.length) (hg : ∀ (j : Nat) (e : Ent), Γ'[j]? = some (some e) → Γ[j]? = some (some e) ∧ e.wf S.length = true) (h : LS w t Γ' S G) : LS w t Γ (S ++ [o]) G := fun D σ R H as rl s e =>
  h D σ R H _ (rl.drop1.pop hw) (s.pop hl hg) e
/-- the last list of the store becomes data, named by slot j -/
theorem ls_frzL {t : TS} {xs : List D} {Γ' : Env} (j : Nat) (hj : Γ[j]? = some (some (.own S.length))) (hw : w.as0.length ≤ S.length) (hl : Γ'.length = Γ.length)
    (hg : ∀ (i : Nat) (e : Ent), Γ'[i]? = some (some e) → (Γ.set j (some (.d (.lst xs))))[i]? = some (some e) ∧ e.wf S.length = true) (h : LS w t Γ' S G) : LS w t Γ (S ++ [.lst xs]) G := by
  refine ls_frz S.length j (xs := xs) List.getElem?_concat_length hj ?_
  rw [show (S ++ [Own.lst xs]).set S.length .gone = S ++ [.gone] by rw [List.set_append_right _ _ (Nat.le_refl _), Nat.sub_self]; rfl]
  exact ls_forget hw (by rw [List.length_set]; exact hl) hg h
end

/-! ### a def's body -/
def startG (N : List Str) (es : List Ent) : Env := es.map some ++ List.replicate (N.length - es.length) none
theorem sts_start {K : PySem.W.Frag} {R : Hp} {as : List Addr} {N : List Str} {vs : List V} {es : List Ent} (h : EntsOk K R as vs es) : Sts K R as (L2.start N vs) (startG N es) := by
  have hl := h.len
  refine ⟨by unfold L2.start startG; rw [List.length_append, List.length_append, List.length_map, List.length_map, List.length_replicate, List.length_replicate, hl], fun i e q => ?_⟩
  unfold startG at q
  by_cases hi : i < es.length
  · rw [List.getElem?_append_left (by rw [List.length_map]; exact hi), List.getElem?_map] at q
    have : ∀ {vs : List V} {es : List Ent} {i : Nat} {e : Ent}, EntsOk K R as vs es → es[i]? = some e → ∃ v, vs[i]? = some v ∧ EntOk K R as v e := by
      intro vs es
      induction es generalizing vs with
      | nil => intro i e _ q; simp at q
      | cons x es ih =>
        intro i e h q
        cases vs with
        | nil => exact h.elim
        | cons v vs =>
          cases i with
          | zero => simp at q; subst q; exact ⟨v, rfl, h.1⟩
          | succ i => obtain ⟨u, a, b⟩ := ih h.2 (by simpa using q); exact ⟨u, by simpa using a, b⟩
    rw [List.getElem?_eq_getElem hi] at q
    have q' : es[i]'hi = e := by simpa using q
    obtain ⟨v, h1, h2⟩ := this h (List.getElem?_eq_getElem hi)
    rw [q'] at h2
    refine ⟨v, ?_, h2⟩
    unfold L2.start
    rw [List.getElem?_append_left (by rw [List.length_map, hl]; exact hi), List.getElem?_map, h1]; rfl
  · rw [List.getElem?_append_right (by rw [List.length_map]; omega)] at q
    rw [List.getElem?_replicate] at q
    split at q <;> simp at q
section
variable {P : Program} {w0 : World} {K : PySem.W.Frag} {mg : Str → Option Value} {base : Heap}
/-- a def that lets no exception out -/
theorem fn0 {x qual : Str} {st : Stmt} {f : Addr} {fd : FuncData} {N ps : List Str} {k : Nat} {ds : DS} (F : Fun K x qual st f fd) (Sc : FnScope N ps (defScope st)) (len : ∀ es S p e, ds es S p e → es.length = ps.length)
    (hbody : ∀ (cdv : Value) (A : Around) (outer : List PySem.Env) (s : Shared) (H : Hp) (E : XK), Room k (A.deeper (PyProof.Rows.envOfC qual (defScope st) s.heap.objs.size f cdv)) →
      ∀ (w : Wd) (es : List Ent) (S : List Own) (p : KE) (e : KX), w.K = K → w.as0.length = S.length → ds es S p e → ∃ t, PSs (cxOf CX0 P w0 K mg base N qual (defScope st) f cdv A outer s H E).nox (defBody st) t ∧ LS w t (startG N es) S { nx := fun _ S' => p (.d .non) S', rt := p }) :
    FnOk P w0 K mg base CX0 (k + 1) f fd ps (spD K ds) := by
  refine F.ok Sc (fun vs H Q E ⟨R, as, S, es, p, e, h1, h2, h3, h4, h5⟩ => by rw [h1.len]; exact len es S p e h3) (fun cdv A outer s H vs Q E hr h => ?_)
  obtain ⟨R, as, S, es, p, e, h1, h2, h3, h4, h5⟩ := h
  obtain ⟨t, ht, hL⟩ := hbody cdv A outer s H E hr ⟨K, R, H, as⟩ es S p e rfl h2.len h3
  refine ⟨t, ht, ?_⟩
  refine hL _ _ R H as h2 (sts_start h1) ⟨fun Γ' S' σ' R' H' as' u a b c => ?_, fun v x S' R' H' as' u a b c => h4 v x S' R' H' as' a b c, fun _ _ _ _ _ _ _ _ _ c => c.elim, fun _ _ _ _ _ _ _ _ _ c => c.elim⟩
  exact h4 .non (.d .non) S' R' H' as' a Den.non c
/-- a def that may raise -/
theorem fnX {x qual : Str} {st : Stmt} {f : Addr} {fd : FuncData} {N ps : List Str} {k : Nat} {ds : DS} (F : Fun K x qual st f fd) (Sc : FnScope N ps (defScope st)) (len : ∀ es S p e, ds es S p e → es.length = ps.length)
    (hbody : ∀ (cdv : Value) (A : Around) (outer : List PySem.Env) (s : Shared) (H : Hp) (E : XK), Room k (A.deeper (PyProof.Rows.envOfC qual (defScope st) s.heap.objs.size f cdv)) →
      ∀ (w : Wd) (es : List Ent) (S : List Own) (p : KE) (e : KX), w.K = K → w.as0.length = S.length → ExOk w E e → ds es S p e → ∃ t, PSs (cxOf (L2.CX P w0) P w0 K mg base N qual (defScope st) f cdv A outer s H E) (defBody st) t ∧ LS w t (startG N es) S { nx := fun _ S' => p (.d .non) S', rt := p }) :
    FnOk P w0 K mg base (L2.CX P w0) (k + 1) f fd ps (spD K ds) := by
  refine F.okX Sc (fun vs H Q E ⟨R, as, S, es, p, e, h1, h2, h3, h4, h5⟩ => by rw [h1.len]; exact len es S p e h3) (fun cdv A outer s H vs Q E hr h => ?_)
  obtain ⟨R, as, S, es, p, e, h1, h2, h3, h4, h5⟩ := h
  obtain ⟨t, ht, hL⟩ := hbody cdv A outer s H E hr ⟨K, R, H, as⟩ es S p e rfl h2.len h5 h3
  refine ⟨t, ht, ?_⟩
  refine hL _ _ R H as h2 (sts_start h1) ⟨fun Γ' S' σ' R' H' as' u a b c => ?_, fun v x S' R' H' as' u a b c => h4 v x S' R' H' as' a b c, fun _ _ _ _ _ _ _ _ _ c => c.elim, fun _ _ _ _ _ _ _ _ _ c => c.elim⟩
  exact h4 .non (.d .non) S' R' H' as' a Den.non c
end
end Gm
/-! short words for a def's text, and the step tactic -/
namespace Gm
open PySem L2

section
variable {X : Cx}
theorem gn (i : Nat) {x : Str} {pos : Pos} (hN : X.N.Nodup) (hi : X.N[i]? = some x := by rfl) (hx : Loc X.env.scope x := by first | exact Or.inl rfl | exact Or.inr rfl) (hf : X.fn x = true ∨ X.env.scope.names.lookup x = some .local := by first | exact Or.inl rfl | exact Or.inr rfl) : PG X (.Name x pos) (gName i) := pg_name hN hi hx hf
theorem sset (i : Nat) {x : Str} {e : Expr} {te : TE} {pos p : Pos} (he : PE X e te) (hN : X.N.Nodup) (hi : X.N[i]? = some x := by rfl) (hx : Loc X.env.scope x := by first | exact Or.inl rfl | exact Or.inr rfl) (hf : X.fn x = true ∨ X.env.scope.names.lookup x = some .local := by first | exact Or.inl rfl | exact Or.inr rfl)
    (hs : swapsWithSole [.Name x p] e pos.line X.env = pure false := by rfl) (hw : swappedStores [.Name x p] e X.env = pure none := by rfl) : PS X (.Assign [.Name x p] e pos) (tAsg te (gName i)) := ps_asg he (pg_name hN hi hx hf) hs hw
variable {e e1 e2 : Expr} {p pos : Pos} {te te1 te2 : TE}
theorem b_len (hm : X.mg "len" = none) (he : PE X e te) (hg : Gl X "len" := by rfl) (hs : starEach [e] X.env = (false, eval e X.env) :: starEach [] X.env := by rfl) : PE X (.Call (.Name "len" p) [e] [] pos) (tCB (gLen X.K) (tCons te tNil)) :=
  pe_callB c_len hg hm PySem.boot_len (pa_cons he pa_nil hs) (he := hs)
theorem b_abs (hm : X.mg "abs" = none) (he : PE X e te) (hg : Gl X "abs" := by rfl) (hs : starEach [e] X.env = (false, eval e X.env) :: starEach [] X.env := by rfl) : PE X (.Call (.Name "abs" p) [e] [] pos) (tCB gAbs (tCons te tNil)) :=
  pe_callB c_abs hg hm (by decide +kernel) (pa_cons he pa_nil hs) (he := hs)
theorem b_int (hm : X.mg "int" = none) (he : PE X e te) (hg : Gl X "int" := by rfl) (hs : starEach [e] X.env = (false, eval e X.env) :: starEach [] X.env := by rfl) : PE X (.Call (.Name "int" p) [e] [] pos) (tCB gInt1 (tCons te tNil)) :=
  pe_callTy c_int1 hg hm (by decide +kernel) (pa_cons he pa_nil hs) (he := hs)
theorem b_list (hm : X.mg "list" = none) (he : PE X e te) (hg : Gl X "list" := by rfl) (hs : starEach [e] X.env = (false, eval e X.env) :: starEach [] X.env := by rfl) : PE X (.Call (.Name "list" p) [e] [] pos) (tCB (gList X.K) (tCons te tNil)) :=
  pe_callTy c_list hg hm (by decide +kernel) (pa_cons he pa_nil hs) (he := hs)
theorem b_max2 (hm : X.mg "max" = none) (h1 : PE X e1 te1) (h2 : PE X e2 te2) (hc : X.calm = true := by rfl) (hg : Gl X "max" := by rfl) (hs : starEach [e1, e2] X.env = (false, eval e1 X.env) :: starEach [e2] X.env := by rfl) (hs2 : starEach [e2] X.env = (false, eval e2 X.env) :: starEach [] X.env := by rfl) (hpl : (backTo pos (starEach [e2] X.env)).any (·.1) = false := by rfl) :
    PE X (.Call (.Name "max" p) [e1, e2] [] pos) (tCB gMax2 (tCons te1 (tCons te2 tNil))) :=
  pe_callB (c_max2 hc) hg hm (by decide +kernel) (pa_cons h1 (pa_cons h2 pa_nil hs2) hs) (he := hs) (hpl := hpl)
theorem b_min2 (hm : X.mg "min" = none) (h1 : PE X e1 te1) (h2 : PE X e2 te2) (hc : X.calm = true := by rfl) (hg : Gl X "min" := by rfl) (hs : starEach [e1, e2] X.env = (false, eval e1 X.env) :: starEach [e2] X.env := by rfl) (hs2 : starEach [e2] X.env = (false, eval e2 X.env) :: starEach [] X.env := by rfl) (hpl : (backTo pos (starEach [e2] X.env)).any (·.1) = false := by rfl) :
    PE X (.Call (.Name "min" p) [e1, e2] [] pos) (tCB gMin2 (tCons te1 (tCons te2 tNil))) :=
  pe_callB (c_min2 hc) hg hm (by decide +kernel) (pa_cons h1 (pa_cons h2 pa_nil hs2) hs) (he := hs) (hpl := hpl)
/-- powers of any size the model has -/
def CPowW (i j : Int) : Prop := 0 ≤ j ∧ (Builtin.Int.intBits i : Int) * j ≤ 2 ^ 27
theorem op_powW : OpR X (binaryOp .Pow) (rI CPowW fun i j => .int (i ^ j.toNat)) := opI fun _ _ _ _ _ _ _ hc q => PyProof.Rows.pow_int hc.1 hc.2 q
theorem powW {i j : Int} {b : Nat} (h0 : 0 ≤ j) (h : i.natAbs < 2 ^ b) (h1 : (b : Int) * j ≤ 2 ^ 27) : CPowW i j := by
  refine ⟨h0, ?_⟩
  have hb : Builtin.Int.intBits i ≤ b := by
    unfold Builtin.Int.intBits
    split
    · omega
    · rename_i hz
      by_cases h2 : b = 0
      · subst h2
        have : i.natAbs = 0 := by omega
        exact absurd (by simpa using (show i = 0 by omega)) hz
      · have := PySem.Flt.log2_lt_of (by omega) h
        omega
  exact Int.le_trans (Int.mul_le_mul_of_nonneg_right (Int.ofNat_le.mpr hb) h0) h1
end
/-- a def of the program, as its callers have it -/
structure Df (P : Program) (w0 : World) (K : PySem.W.Frag) (mg : Str → Option Value) (base : Heap) (CX : CXT) (k : Nat) (x : Str) (n : Nat) (ds : DS) : Prop where
  ex : ∃ (f : Addr) (fd : FuncData) (ps : List Str), ps.length = n ∧ FnOk P w0 K mg base CX k f fd ps (spD K ds) ∧ mg x = some (.ref f) ∧ PySem.W.keepIn K (.ref f) = true ∧ Binds K fd ps []
section
variable {X : Cx} {CX : CXT} {k n : Nat} {x : Str} {ds : DS} {E : XK} {p pos : Pos} {e : Expr} {es : List Expr} {t : TA}
theorem pe_df (d : Df X.prog X.w X.K X.mg X.base CX k x n ds) (hr : Room k X.A) (hx : Passes CX X E) (ha : PA X (e :: es) t) (hg : Gl X x := by rfl) (hdb : (x == ("__debug__" : Str)) = false := by decide)
    (he : starEach (e :: es) X.env = (false, eval e X.env) :: starEach es X.env := by rfl) (hpl : (backTo pos (starEach es X.env)).any (·.1) = false := by rfl) : PE X (.Call (.Name x p) (e :: es) [] pos) (tCall (spD X.K ds) [] E t) := by
  obtain ⟨f, fd, ps, _, F, hm, hk, hb⟩ := d.ex
  exact pe_call F hr hg hm hk hb .nil hx ha (hdb := hdb) (he := he) (hpl := hpl)
end
theorem sz {n : Nat} (h : Nat.ble n 100000 = true) : n ≤ sizeLine := Nat.le_trans (Nat.le_of_ble_eq_true h) (by decide)
end Gm
/-! methods, makings, properties, keywords -/
namespace Gm
open PySem L2

/-- a class of the program -/
structure Cd (K : PySem.W.Frag) (mg : Str → Option Value) (x : Str) (C : Addr) : Prop where
  cls : Cls K C
  mg : mg x = some (.ref C)
structure Mt (P : Program) (w0 : World) (K : PySem.W.Frag) (mg : Str → Option Value) (base : Heap) (CX : CXT) (k : Nat) (C : Addr) (m : Str) (ds : DS) : Prop where
  ex : ∃ (f : Addr) (fd : FuncData) (ps : List Str), FnOk P w0 K mg base CX k f fd ps (spD K ds) ∧ Meth K C m f ∧ Binds K fd ps [] ∧ Cls K C
structure Ct (P : Program) (w0 : World) (K : PySem.W.Frag) (mg : Str → Option Value) (base : Heap) (CX : CXT) (k : Nat) (x : Str) (C : Addr) (ds : DS) : Prop where
  ex : ∃ (f : Addr) (fd : FuncData) (ps : List Str), FnOk P w0 K mg base CX k f fd ps (spD K ds) ∧ Mk K C f ∧ mg x = some (.ref C) ∧ Binds K fd ps []
structure Pr (P : Program) (w0 : World) (K : PySem.W.Frag) (mg : Str → Option Value) (base : Heap) (CX : CXT) (k : Nat) (C : Addr) (f : Str) (ds : DS) : Prop where
  ex : ∃ (p g : Addr) (fd : FuncData) (ps : List Str), FnOk P w0 K mg base CX k g fd ps (spD K ds) ∧ PropOf K C f p g ∧ Binds K fd ps [] ∧ Cls K C

/-! keywords -/
def permA {α : Type} (z : α) (pm : List Nat) (xs : List α) : List α := pm.map fun i => (xs[i]?).getD z
def gKw {α : Type} (z : α) (n m : Nat) (pm : List Nat) (us ws : List α) : List α := if us.length = n ∧ ws.length = m then us ++ permA z pm ws else []
structure KB (K : PySem.W.Frag) (fd : FuncData) (ps ks : List Str) (n : Nat) (pm : List Nat) : Prop where
  pos : 0 < ps.length
  to : ∀ (s : Shared) (us ws : List Value), us.length = n → ws.length = ks.length → BindsTo s fd ⟨us, ks.zip ws⟩ (ps.zip (us ++ permA .none pm ws))
theorem vals_getD {xs : List V} {us : List Value} (r : Vals xs us) (i : Nat) : RelV ((xs[i]?).getD .non) ((us[i]?).getD .none) := by
  cases h : xs[i]? with
  | none => rw [r.none_of h]; rfl
  | some x => obtain ⟨u, h1, h2⟩ := r.get h; rw [h1]; exact h2
theorem vals_perm {xs : List V} {us : List Value} (r : Vals xs us) : ∀ pm : List Nat, Vals (permA .non pm xs) (permA .none pm us)
  | [] => .nil
  | i :: pm => .cons (vals_getD r i) (vals_perm r pm)
theorem KB.kb {K : PySem.W.Frag} {fd : FuncData} {ps ks : List Str} {n : Nat} {pm : List Nat} (b : KB K fd ps ks n pm) : KBinds K fd ps ks (gKw .none n ks.length pm) (gKw .non n ks.length pm) where
  to := fun s us ws _ hl => by
    unfold gKw at hl ⊢
    by_cases h : us.length = n ∧ ws.length = ks.length
    · rw [if_pos h]; exact b.to s us ws h.1 h.2
    · rw [if_neg h] at hl
      have hp := b.pos
      have hl' : 0 = ps.length := hl
      omega
  rel := fun {vs us zs ws} r1 r2 => by
    unfold gKw
    rw [r1.length, r2.length]
    by_cases h : us.length = n ∧ ws.length = ks.length
    · rw [if_pos h, if_pos h]; exact r1.append (vals_perm r2 pm)
    · rw [if_neg h, if_neg h]; exact .nil
section
variable {X : Cx} {CX : CXT} {k : Nat} {C : Addr} {x m : Str} {ds : DS} {E : XK} {p pos apos : Pos} {o e : Expr} {es : List Expr} {kws : List Keyword} {ta : TE} {t tk : TA} {pl : Sem Bool}
theorem pe_md (d : Mt X.prog X.w X.K X.mg X.base CX k C m ds) (hr : Room k X.A) (hx : Passes CX X E) (he : PE X o ta) (ha : PA X (e :: es) t)
    (hst : starEach (e :: es) X.env = (false, eval e X.env) :: starEach es X.env := by rfl) (hpl : (backTo pos (starEach es X.env)).any (·.1) = false := by rfl)
    (ht : eval (.Call (.Attribute o m apos) (e :: es) [] pos) X.env = (do
      let ov ← eval o X.env
      standAt apos.atName
      let (f, first) ← holding [ov] (getMethod ov m pl)
      callWith pos f first (backTo pos (starEach (e :: es) X.env)) (backToKw pos (keywordEach [] X.env))) := by rfl) : PE X (.Call (.Attribute o m apos) (e :: es) [] pos) (tMeth C m (spD X.K ds) [] E ta t) := by
  obtain ⟨f, fd, ps, F, hm, hb, c⟩ := d.ex
  exact pe_meth he c hm F hr hb .nil hx ha (hst := hst) (hpl := hpl) (ht := ht)
theorem pe_md0 (d : Mt X.prog X.w X.K X.mg X.base CX k C m ds) (hr : Room k X.A) (hx : Passes CX X E) (he : PE X o ta)
    (ht : eval (.Call (.Attribute o m apos) [] [] pos) X.env = (do
      let ov ← eval o X.env
      standAt apos.atName
      let (f, first) ← holding [ov] (getMethod ov m pl)
      callWith pos f first (backTo pos (starEach [] X.env)) (backToKw pos (keywordEach [] X.env))) := by rfl) : PE X (.Call (.Attribute o m apos) [] [] pos) (tMeth C m (spD X.K ds) [] E ta tNil) := by
  obtain ⟨f, fd, ps, F, hm, hb, c⟩ := d.ex
  exact pe_meth0 he c hm F hr hb .nil hx (ht := ht)
theorem pe_mk (d : Ct X.prog X.w X.K X.mg X.base CX k x C ds) (hr : Room (k + 1) X.A) (hx : Passes CX X E) (ha : PA X (e :: es) t) (hg : Gl X x := by rfl) (hdb : (x == ("__debug__" : Str)) = false := by decide)
    (he : starEach (e :: es) X.env = (false, eval e X.env) :: starEach es X.env := by rfl) (hpl : (backTo pos (starEach es X.env)).any (·.1) = false := by rfl) : PE X (.Call (.Name x p) (e :: es) [] pos) (tMake C (spD X.K ds) [] E t) := by
  obtain ⟨f, fd, ps, F, M, hm, hb⟩ := d.ex
  exact pe_make M F hr hg hm hb .nil hx ha (hdb := hdb) (he := he) (hpl := hpl)
theorem pe_pr (d : Pr X.prog X.w X.K X.mg X.base CX k C m ds) (hr : Room (k + 1) X.A) (hx : Passes CX X.nox E) (he : PE X o ta) (hab : attributeBase o m X.env (eval o X.env) = eval o X.env := by rfl) : PE X (.Attribute o m pos) (tProp C (spD X.K ds) [] E ta) := by
  obtain ⟨p, g, fd, ps, F, hp, hb, c⟩ := d.ex
  exact pe_prop he c hp F hr hb .nil hx hab
/-- o.m(k = v, ..), keywords alone -/
def tMethK (C : Addr) (m : Str) (sp : Sp) (n : Nat) (pm : List Nat) (E : XK) (ta : TE) (tk : TA) : TE := fun σ H Q => ta σ H fun x H1 => ∃ a dx fs, x = .ref a ∧ H1 a = some (.ins C dx fs) ∧ fs.lookup m = none ∧
  tk σ H1 fun zs H2 => sp (gKw .non 1 n pm [x] zs) H2 Q E
structure MtK (P : Program) (w0 : World) (K : PySem.W.Frag) (mg : Str → Option Value) (base : Heap) (CX : CXT) (k : Nat) (C : Addr) (m : Str) (ks : List Str) (pm : List Nat) (ds : DS) : Prop where
  ex : ∃ (f : Addr) (fd : FuncData) (ps : List Str), FnOk P w0 K mg base CX k f fd ps (spD K ds) ∧ Meth K C m f ∧ KB K fd ps ks 1 pm ∧ Cls K C
theorem pe_mdK {ks : List Str} {pm : List Nat} {n : Nat} (d : MtK X.prog X.w X.K X.mg X.base CX k C m ks pm ds) (hr : Room k X.A) (hx : Passes CX X E) (he : PE X o ta) (hkw : PK X kws tk) (hn : ks.length = n := by rfl)
    (hall : (backToKw pos (keywordEach kws X.env)).all (·.1.isSome) = true := by rfl) (hks : (backToKw pos (keywordEach kws X.env)).filterMap (·.1) = ks := by rfl)
    (hpl : ((backTo pos (starEach [] X.env)).any (·.1) || (backToKw pos (keywordEach kws X.env)).any (·.1.isNone)) = false := by rfl)
    (ht : eval (.Call (.Attribute o m apos) [] kws pos) X.env = (do
      let ov ← eval o X.env
      standAt apos.atName
      let (f, first) ← holding [ov] (getMethod ov m pl)
      callWith pos f first (backTo pos (starEach [] X.env)) (backToKw pos (keywordEach kws X.env))) := by rfl) : PE X (.Call (.Attribute o m apos) [] kws pos) (tMethK C m (spD X.K ds) n pm E ta tk) := by
  obtain ⟨f, fd, ps, F, hm, hb, c⟩ := d.ex
  refine ⟨fun pins s σ H Q I h => ?_⟩
  refine PySem.W.methodCall_KW (pl := pl) (thn (he.run pins s σ H _ I h) fun u s1 ⟨x, H1, I1, rx, a, dx, fs, ex, ea, l, q⟩ => ?_) ht
  subst ex
  obtain rfl : u = Value.ref a := rx
  refine getmeth_ok I1 ea c hm l ?_
  refine PySem.W.callWith_KW0 (first := [.ref a]) (h₀ := X.base) I.ok.mod.kin hm.kp hall (thn (hkw.run pos pins s1 σ H1 _ I1 q) fun ws s2 ⟨zs, H2, I2, rz, q2⟩ => ⟨I2.kIn, ?_⟩) hpl
  rw [hks, List.append_nil]
  rw [← hn] at q2
  exact run_fnk (us := [.ref a]) (vs := [.ref a]) F hr hb.kb hx I2 (.cons rfl .nil) rz q2
/-- f(k = v, ..), keywords alone -/
def tCallK0 (sp : Sp) (n : Nat) (pm : List Nat) (E : XK) (tk : TA) : TE := fun σ H Q => tk σ H fun zs H2 => sp (gKw .non 0 n pm [] zs) H2 Q E
structure DfK (P : Program) (w0 : World) (K : PySem.W.Frag) (mg : Str → Option Value) (base : Heap) (CX : CXT) (k : Nat) (x : Str) (ks : List Str) (pm : List Nat) (ds : DS) : Prop where
  ex : ∃ (f : Addr) (fd : FuncData) (ps : List Str), FnOk P w0 K mg base CX k f fd ps (spD K ds) ∧ mg x = some (.ref f) ∧ PySem.W.keepIn K (.ref f) = true ∧ KB K fd ps ks 0 pm
theorem pe_dfK {ks : List Str} {pm : List Nat} {n : Nat} (d : DfK X.prog X.w X.K X.mg X.base CX k x ks pm ds) (hr : Room k X.A) (hx : Passes CX X E) (hkw : PK X kws tk) (hn : ks.length = n := by rfl) (hg : Gl X x := by rfl)
    (hall : (backToKw pos (keywordEach kws X.env)).all (·.1.isSome) = true := by rfl) (hks : (backToKw pos (keywordEach kws X.env)).filterMap (·.1) = ks := by rfl)
    (hdb : (x == ("__debug__" : Str)) = false := by decide)
    (hpl : ((backTo pos (starEach [] X.env)).any (·.1) || (backToKw pos (keywordEach kws X.env)).any (·.1.isNone)) = false := by rfl) : PE X (.Call (.Name x p) [] kws pos) (tCallK0 (spD X.K ds) n pm E tk) := by
  obtain ⟨f, fd, ps, F, hm, hk, hb⟩ := d.ex
  refine ⟨fun pins s σ H Q I h => ?_⟩
  refine wpAny_Call_Name_kw (ld_glob I hg hm ?_ hdb)
  refine PySem.W.callWith_KW0 (first := []) (h₀ := X.base) I.ok.mod.kin hk hall (thn (hkw.run pos pins s σ H _ I h) fun ws s2 ⟨zs, H2, I2, rz, q2⟩ => ⟨I2.kIn, ?_⟩) hpl
  rw [hks]
  rw [← hn] at q2
  exact run_fnk (us := []) (vs := []) F hr hb.kb hx I2 .nil rz q2
end
section
variable {w : Wd} {Γ : Env} {S : List Own} {k : KE} {ta : TE} {f : DS} {E : XK}
theorem ents_getD {K : PySem.W.Frag} {R : Hp} {as : List Addr} : ∀ {vs : List V} {es : List Ent} (i : Nat), EntsOk K R as vs es → EntOk K R as ((vs[i]?).getD .non) ((es[i]?).getD (.d .non))
  | [], [], i, _ => by simp only [List.getElem?_nil, Option.getD_none]; exact Den.non
  | v :: vs, e :: es, 0, ⟨h, _⟩ => h
  | v :: vs, e :: es, i + 1, ⟨_, t⟩ => by simpa using ents_getD i t
  | [], _ :: _, _, h => h.elim
  | _ :: _, [], _, h => h.elim
theorem ents_perm {K : PySem.W.Frag} {R : Hp} {as : List Addr} {vs : List V} {es : List Ent} (h : EntsOk K R as vs es) : ∀ pm : List Nat, EntsOk K R as (permA .non pm vs) (permA (.d .non) pm es)
  | [] => trivial
  | i :: pm => ⟨ents_getD i h, ents_perm h pm⟩
theorem le_methK {C : Addr} {m : Str} {n : Nat} {pm : List Nat} {tk : TA} (h : LE w ta Γ S fun x S1 => ∃ gs, IsObj x S1 C gs ∧ gs.lookup m = none ∧ LA w tk Γ S1 fun es S2 => es.length = n ∧ RS w f E (x :: permA (.d .non) pm es) S2 k) : LE w (tMethK C m (spD w.K f) n pm E ta tk) Γ S k := fun σ R H as Q rl s c => by
  refine h σ R H as _ rl s fun v x S1 R1 H1 as1 rl1 s1 p1 e1 ⟨gs, h1, h2, h3⟩ => ?_
  obtain ⟨a, dx, fs, rfl, q2, q3⟩ := isObj_at h1 rl1 e1
  refine ⟨a, dx, fs, rfl, q2, q3.none h2, ?_⟩
  refine h3 σ R1 H1 as1 _ rl1 (s.mono s1 p1) fun vs es S2 R2 H2 as2 rl2 s2 p2 e2 ⟨hn, h4⟩ => ?_
  have e : gKw V.non 1 n pm [.ref a] vs = .ref a :: permA .non pm vs := by unfold gKw; rw [if_pos ⟨rfl, by rw [e2.len]; exact hn⟩]; rfl
  rw [e]
  exact h4 R2 H2 as2 _ Q rl2 ⟨e1.mono s2 p2, ents_perm e2 pm⟩ fun v' e' S' R' H' as' a1 a2 a3 a4 a5 => c v' e' S' R' H' as' a1 ((s1.trans s2).trans a2) ((p1.trans p2).trans a3) a4 a5
theorem le_callK {n : Nat} {pm : List Nat} {tk : TA} (h : LA w tk Γ S fun es S2 => es.length = n ∧ RS w f E (permA (.d .non) pm es) S2 k) : LE w (tCallK0 (spD w.K f) n pm E tk) Γ S k := fun σ R H as Q rl s c => by
  refine h σ R H as _ rl s fun vs es S2 R2 H2 as2 rl2 s2 p2 e2 ⟨hn, h4⟩ => ?_
  have e : gKw V.non 0 n pm [] vs = permA .non pm vs := by unfold gKw; rw [if_pos ⟨rfl, by rw [e2.len]; exact hn⟩]; rfl
  rw [e]
  exact h4 R2 H2 as2 _ Q rl2 (ents_perm e2 pm) fun v' e' S' R' H' as' a1 a2 a3 a4 a5 => c v' e' S' R' H' as' a1 (s2.trans a2) (p2.trans a3) a4 a5
end

section
variable {w : Wd} {Γ : Env} {S rest : List Own} {k : KE} {f : DS} {E : XK} {o : Own}
theorem ren_wf1 : ∀ {es : List Ent}, es.all (Ent.wf 1) = true → es = es.map (Ent.ren [0])
  | [], _ => rfl
  | .d x :: es, h => by
    have h' : es.all (Ent.wf 1) = true := by simpa [Ent.wf] using h
    show Ent.d x :: es = Ent.d x :: es.map _
    rw [← ren_wf1 h']
  | .own j :: es, h => by
    have h' : j < 1 ∧ es.all (Ent.wf 1) = true := by simpa [Ent.wf] using h
    have e : j = 0 := by omega
    subst e
    show Ent.own 0 :: es = Ent.own 0 :: es.map _
    rw [← ren_wf1 h'.2]
  | .tup _ :: es, h => by simp [Ent.wf] at h
theorem ren_wf0 : ∀ {es : List Ent}, es.all (Ent.wf 0) = true → es = es.map (Ent.ren [])
  | [], _ => rfl
  | .d x :: es, h => by
    have h' : es.all (Ent.wf 0) = true := by simpa [Ent.wf] using h
    show Ent.d x :: es = Ent.d x :: es.map _
    rw [← ren_wf0 h']
  | .own j :: es, h => by simp [Ent.wf] at h
  | .tup _ :: es, h => by simp [Ent.wf] at h
/-- a def that is handed the first thing of the store, and gives data -/
theorem rs_p {es : List Ent} (hn : o ≠ .gone) (hw : es.all (Ent.wf 1) = true) (h : f es [o] (fun e S' => ∃ o' d, S' = [o'] ∧ o' ≠ .gone ∧ e = .d d ∧ k (.d d) (o' :: rest)) (fun _ _ _ => False))
    (mono : ∀ {es S} {p p' : KE} {x x' : KX}, (∀ e S, p e S → p' e S) → (∀ C u S, x C u S → x' C u S) → f es S p x → f es S p' x') : RS w f E es (o :: rest) k := by
  refine rs_call (ex0 (w := w) (E := E)) [0] (Pick.one (o := o) rfl hn) (ren_wf1 hw) hw (mono (fun e S' q => ?_) (fun C u S' q => q.elim) h)
  obtain ⟨o', d, rfl, h1, rfl, h2⟩ := q
  refine ⟨[o'], [], rfl, rfl, by simpa using h1, ?_⟩
  show k (.d d) ((o' :: rest) ++ [])
  rw [List.append_nil]; exact h2
/-- the same, it gives a list of the store -/
theorem rs_pO {es : List Ent} (hn : o ≠ .gone) (hw : es.all (Ent.wf 1) = true) (h : f es [o] (fun e S' => ∃ o' ds, S' = [o', .lst ds] ∧ o' ≠ .gone ∧ e = .own 1 ∧ k (.own (rest.length + 1)) (o' :: rest ++ [.lst ds])) (fun _ _ _ => False))
    (mono : ∀ {es S} {p p' : KE} {x x' : KX}, (∀ e S, p e S → p' e S) → (∀ C u S, x C u S → x' C u S) → f es S p x → f es S p' x') : RS w f E es (o :: rest) k := by
  refine rs_call (ex0 (w := w) (E := E)) [0] (Pick.one (o := o) rfl hn) (ren_wf1 hw) hw (mono (fun e S' q => ?_) (fun C u S' q => q.elim) h)
  obtain ⟨o', d, rfl, h1, rfl, h2⟩ := q
  exact ⟨[o'], [.lst d], rfl, rfl, by simpa using h1, h2⟩
/-- nothing is borrowed, it gives data -/
theorem rs_0 {es : List Ent} (hw : es.all (Ent.wf 0) = true) (h : f es [] (fun e S' => ∃ d, S' = [] ∧ e = .d d ∧ k (.d d) S) (fun _ _ _ => False))
    (mono : ∀ {es S} {p p' : KE} {x x' : KX}, (∀ e S, p e S → p' e S) → (∀ C u S, x C u S → x' C u S) → f es S p x → f es S p' x') : RS w f E es S k := by
  refine rs_call (ex0 (w := w) (E := E)) [] Pick.nil (ren_wf0 hw) hw (mono (fun e S' q => ?_) (fun C u S' q => q.elim) h)
  obtain ⟨d, rfl, rfl, h2⟩ := q
  refine ⟨[], [], rfl, rfl, by simp, ?_⟩
  show k (.d d) (wb S [] [] ++ [])
  rw [List.append_nil]
  simpa [wb] using h2
end

/-- a promise by a precondition and what comes behind -/
def ds {α : Type} (pre : α → List Ent → List Own → Prop) (post : α → Ent → List Own → Prop) : DS := fun es S p _ => ∃ a, pre a es S ∧ ∀ e S', post a e S' → p e S'
theorem ds_mono {α : Type} {pre : α → List Ent → List Own → Prop} {post : α → Ent → List Own → Prop} {es : List Ent} {S : List Own} {p p' : KE} {x x' : KX} (h : ∀ e S, p e S → p' e S) (_ : ∀ C u S, x C u S → x' C u S) (q : ds pre post es S p x) : ds pre post es S p' x' := by
  obtain ⟨a, h1, h2⟩ := q
  exact ⟨a, h1, fun e S' z => h e S' (h2 e S' z)⟩
section
variable {w : Wd} {S rest : List Own} {k : KE} {E : XK} {o : Own} {α : Type} {pre : α → List Ent → List Own → Prop} {post : α → Ent → List Own → Prop}
theorem rp {es : List Ent} (a : α) (hpre : pre a es [o]) (h : ∀ e S', post a e S' → ∃ o' d, S' = [o'] ∧ o' ≠ .gone ∧ e = .d d ∧ k (.d d) (o' :: rest)) (hn : o ≠ .gone) (hw : es.all (Ent.wf 1) = true := by rfl) : RS w (ds pre post) E es (o :: rest) k :=
  rs_p hn hw ⟨a, hpre, h⟩ fun a b c => ds_mono a b c
theorem rpO {es : List Ent} (a : α) (hpre : pre a es [o]) (h : ∀ e S', post a e S' → ∃ o' xs, S' = [o', .lst xs] ∧ o' ≠ .gone ∧ e = .own 1 ∧ k (.own (rest.length + 1)) (o' :: rest ++ [.lst xs])) (hn : o ≠ .gone) (hw : es.all (Ent.wf 1) = true := by rfl) : RS w (ds pre post) E es (o :: rest) k :=
  rs_pO hn hw ⟨a, hpre, h⟩ fun a b c => ds_mono a b c
theorem r0 {es : List Ent} (a : α) (hpre : pre a es []) (h : ∀ e S', post a e S' → ∃ d, S' = [] ∧ e = .d d ∧ k (.d d) S) (hw : es.all (Ent.wf 0) = true := by rfl) : RS w (ds pre post) E es S k :=
  rs_0 hw ⟨a, hpre, h⟩ fun a b c => ds_mono a b c
/-- nothing is borrowed, it gives a new thing of the store -/
theorem r0O {es : List Ent} (a : α) (hpre : pre a es []) (h : ∀ e S', post a e S' → ∃ o', S' = [o'] ∧ e = .own 0 ∧ k (.own S.length) (S ++ [o'])) (hw : es.all (Ent.wf 0) = true := by rfl) : RS w (ds pre post) E es S k := by
  refine rs_call (ex0 (w := w) (E := E)) [] Pick.nil (ren_wf0 hw) hw ⟨a, hpre, fun e S' q => ?_⟩
  obtain ⟨o', rfl, rfl, h2⟩ := h e S' q
  exact ⟨[], [o'], rfl, rfl, by simp, h2⟩
theorem mk0 {Γ : Env} {C : Addr} {t : TA} (h : LA w t Γ S fun es S1 => es.all (Ent.wf 0) = true ∧ ∃ a, pre a (.own 0 :: es) [.ins C []] ∧ ∀ e S', post a e S' → e = .d .non ∧ ∃ gs, S' = [.ins C gs] ∧ k (.d (.obj C gs)) S1) : LE w (tMake C (spD w.K (ds pre post)) [] E t) Γ S k := by
  refine le_make (ex0 (w := w) (E := E)) fun σ R H as Q rl s c => h σ R H as Q rl s fun vs es S' R' H' as' a1 a2 a3 a4 ⟨q1, a, q2, q3⟩ => c vs es S' R' H' as' a1 a2 a3 a4 ⟨q1, a, q2, q3⟩
end

/-- Γ' is Γ with some names forgotten, and names no place from n on -/
inductive EnvLe (n : Nat) : Env → Env → Prop
  | nil : EnvLe n [] []
  | none {x : Option Ent} {Γ' Γ : Env} : EnvLe n Γ' Γ → EnvLe n (none :: Γ') (x :: Γ)
  | same {e : Ent} {Γ' Γ : Env} : e.wf n = true → EnvLe n Γ' Γ → EnvLe n (some e :: Γ') (some e :: Γ)
theorem EnvLe.len {n : Nat} : ∀ {Γ' Γ : Env}, EnvLe n Γ' Γ → Γ'.length = Γ.length
  | _, _, .nil => rfl
  | _, _, .none h => congrArg (· + 1) h.len
  | _, _, .same _ h => congrArg (· + 1) h.len
theorem EnvLe.at_ {n : Nat} : ∀ {Γ' Γ : Env}, EnvLe n Γ' Γ → ∀ (j : Nat) (e : Ent), Γ'[j]? = some (some e) → Γ[j]? = some (some e) ∧ e.wf n = true
  | _, _, .nil, _, _, h => by simp at h
  | _, _, .none h, 0, e, q => by simp at q
  | _, _, .none h, j + 1, e, q => by simpa using h.at_ j e (by simpa using q)
  | _, _, .same w h, 0, e, q => by simp at q; subst q; exact ⟨rfl, w⟩
  | _, _, .same w h, j + 1, e, q => by simpa using h.at_ j e (by simpa using q)
section
variable {w : Wd} {S : List Own} {G : GE} {Γ Γ' : Env} {t : TS}
theorem forget {o : Own} (h : LS w t Γ' S G) (hE : EnvLe S.length Γ' Γ) (hw : w.as0.length ≤ S.length) : LS w t Γ (S ++ [o]) G := ls_forget hw hE.len hE.at_ h
theorem frzL {xs : List D} (j : Nat) (hj : Γ[j]? = some (some (.own S.length))) (h : LS w t Γ' S G) (hE : EnvLe S.length Γ' (Γ.set j (some (.d (.lst xs))))) (hw : w.as0.length ≤ S.length) : LS w t Γ (S ++ [.lst xs]) G :=
  ls_frzL j hj hw (by rw [hE.len, List.length_set]) hE.at_ h
end
/-- an item at an unknown place -/
theorem ix_any {ds : List D} {i : Int} (P : D → Prop) (h0 : 0 ≤ i) (h1 : i < ds.length) (h : ∀ x ∈ ds, P x) : ∃ x, atI ds i = some x ∧ P x := by
  have hl : i.toNat < ds.length := by omega
  refine ⟨ds[i.toNat], ?_, h _ (List.getElem_mem hl)⟩
  unfold atI ixN
  rw [if_pos h0, if_pos h1]
  exact List.getElem?_eq_getElem hl

section
variable {w : Wd} {S : List Own} {Γ : Env} {k : Env → List Own → Prop}
theorem lg_tup2 {i j : Nat} {x y : D} (q : k ((Γ.set i (some (.d x))).set j (some (.d y))) S) : LG w (gTup w.K 2 (gCons (gName i) (gCons (gName j) gNil))) (.d (.tup [x, y])) Γ S k :=
  lg_tup rfl (lgs_cons (lg_name (lgs_cons (lg_name (lgs_nil q)))))
theorem lg_tup3 {i j l : Nat} {x y z : D} (q : k (((Γ.set i (some (.d x))).set j (some (.d y))).set l (some (.d z))) S) : LG w (gTup w.K 3 (gCons (gName i) (gCons (gName j) (gCons (gName l) gNil)))) (.d (.tup [x, y, z])) Γ S k :=
  lg_tup rfl (lgs_cons (lg_name (lgs_cons (lg_name (lgs_cons (lg_name (lgs_nil q)))))))
theorem lg_tup4 {i j l m : Nat} {x y z u : D} (q : k ((((Γ.set i (some (.d x))).set j (some (.d y))).set l (some (.d z))).set m (some (.d u))) S) : LG w (gTup w.K 4 (gCons (gName i) (gCons (gName j) (gCons (gName l) (gCons (gName m) gNil))))) (.d (.tup [x, y, z, u])) Γ S k :=
  lg_tup rfl (lgs_cons (lg_name (lgs_cons (lg_name (lgs_cons (lg_name (lgs_cons (lg_name (lgs_nil q)))))))))
theorem lg_tup5 {i j l m n : Nat} {x y z u v : D} (q : k (((((Γ.set i (some (.d x))).set j (some (.d y))).set l (some (.d z))).set m (some (.d u))).set n (some (.d v))) S) : LG w (gTup w.K 5 (gCons (gName i) (gCons (gName j) (gCons (gName l) (gCons (gName m) (gCons (gName n) gNil)))))) (.d (.tup [x, y, z, u, v])) Γ S k :=
  lg_tup rfl (lgs_cons (lg_name (lgs_cons (lg_name (lgs_cons (lg_name (lgs_cons (lg_name (lgs_cons (lg_name (lgs_nil q)))))))))))
theorem notself {v : V} (h : (!decide (v = v)) = true) : False := by simp at h
end

section
variable {w : Wd} {S : List Own} {G : GE} {Γ Γ' Γa Γb : Env} {t : TS}
theorem ls_weak {n : Nat} (hE : EnvLe n Γ' Γ) (h : LS w t Γ' S G) : LS w t Γ S G := fun D σ R H as rl s e =>
  h D σ R H as rl (s.weak hE.len fun i x q => (hE.at_ i x q).1) e
/-- a loop's turn begins anew: the thing of the turn before is forgotten -/
theorem ls_either {i : Nat} {e : Ent} (hI : (S = [] ∧ Γ = Γa) ∨ ∃ o, S = [o] ∧ Γ = Γb) (h : LS w t Γ' [] G) (ha : EnvLe 0 Γ' (Γa.set i (some e))) (hb : EnvLe 0 Γ' (Γb.set i (some e))) (hw : w.as0.length ≤ 0) : LS w t (Γ.set i (some e)) S G := by
  rcases hI with ⟨rfl, rfl⟩ | ⟨o, rfl, rfl⟩
  · exact ls_weak ha h
  · exact forget (S := []) h hb hw
end

section
variable {w : Wd} {S : List Own} {G : GE} {Γ Γ' Γa Γb : Env} {t : TS}
theorem ls_either0 (hI : (S = [] ∧ Γ = Γa) ∨ ∃ o, S = [o] ∧ Γ = Γb) (h : LS w t Γ' [] G) (ha : EnvLe 0 Γ' Γa) (hb : EnvLe 0 Γ' Γb) (hw : w.as0.length ≤ 0) : LS w t Γ S G := by
  rcases hI with ⟨rfl, rfl⟩ | ⟨o, rfl, rfl⟩
  · exact ls_weak ha h
  · exact forget (S := []) h hb hw
end

/-! ### the end -/
theorem Fun_kb {K : PySem.W.Frag} {x qual : Str} {st : Stmt} {f : Addr} {fd : FuncData} {ps ks : List Str} {n : Nat} {pm : List Nat} (F : Fun K x qual st f fd) (hp : 0 < ps.length)
    (h : ∀ (kV doc pm' : Value) (an : Option Addr) (cdv ct : Value) (us ws : List Value), us.length = n → ws.length = ks.length → bindArgs (PySem.W.fnOf x qual (defArgs st) (defBody st) (defScope st) .none kV doc pm' an cdv ct) ⟨us, ks.zip ws⟩ = pure (ps.zip (us ++ permA .none pm ws))) : KB K fd ps ks n pm := by
  obtain ⟨oc, od, kV, doc, pm', an, cdv, ct, osl, rfl, lk, hcd⟩ := F.ex
  exact ⟨hp, fun s us ws h1 h2 => .of_eq (h kV doc pm' an cdv ct us ws h1 h2)⟩
theorem rel0 {K : PySem.W.Frag} {H : Hp} : Rel ⟨K, H, H, []⟩ H H [] [] := by
  refine ⟨Sub.refl _, Sub.refl _, fun b o e _ => e, fun b e => e, fun i a e => e, fun b o e => .inl e, rfl, fun i o a h => by simp at h, fun i j a o u h => by simp at h⟩
theorem law_sp {K : PySem.W.Frag} {H : Hp} {a : Addr} {ns : List Int} {f : DS} (hS : SqL K H a (ns.map V.int)) (h : f [.d (.scr ns)] [] (fun e _ => e = .d (.bl true)) (fun _ _ _ => False)) :
    spD K f [.ref a] H (fun v _ => v = .bl true) fun _ _ _ => False := by
  refine ⟨H, [], [], [.d (.scr ns)], _, _, ⟨Den.scr hS, trivial⟩, rel0, h, fun v e S' R' H' as' _ ok he => ?_, ex0⟩
  subst he
  cases ok; rfl
end Gm
/-! len, ==, + by a class's own methods; lcm, gcd; isinstance -/
namespace Gm
open PySem L2

section
variable {X : Cx} {CX : CXT} {k : Nat} {C f : Addr} {fd : FuncData} {ps : List Str} {sp : Sp} {E : XK}
def gLenO (C : Addr) (sp : Sp) (E : XK) : List V → Hp → VK → Prop := fun xs H Q => ∃ a dx fs, xs = [.ref a] ∧ H a = some (.ins C dx fs) ∧ sp [.ref a] H (fun v H' => ∃ n : Int, v = .int n ∧ 0 ≤ n ∧ n < 2 ^ 63 ∧ Q (.int n) H') E
theorem c_lenO (F : FnOk X.prog X.w X.K X.mg X.base CX k f fd ps sp) (hr : Room (k + 1) X.A) (hs : PySem.W.findIn X.K (.ref C) "__len__" = some (some (.ref f))) (hf : PySem.W.isFn X.K (.ref f) = true) (hb : Binds X.K fd ps []) (hx : Passes CX X E) : CallR X (.builtin "len") (gLenO C sp E) := by
  intro pins s σ H xs us Q I r h
  obtain ⟨a, dx, fs, rfl, ha, h⟩ := h
  obtain ⟨u, rfl, ru⟩ := vals1 r
  cases (show u = Value.ref a from ru)
  obtain ⟨mA, J, _⟩ := ins_get I.hok ha
  obtain ⟨od, J, _⟩ := J.look
  obtain ⟨m, hF⟩ := I.fr
  refine PySem.W.len_K hF I.ok.mod.kin J hs hf ?_
  have hl : ([Value.ref a] ++ []).length = ps.length := by rw [← F.len _ _ _ _ h]; rfl
  refine wpAny_call (codeAny_mono (F.run X.A.in1 X.stack s H ⟨[.ref a], []⟩ [.ref a] [.ref a] _ E hr.in1 I.env0.in1 (by simpa using hb s [.ref a] I.kIn hl) (.cons rfl .nil) h) fun r s' hq => ?_)
  cases r with
  | error e => exact hx pins σ H s e s' I hq
  | ok fl =>
    cases fl with
    | ret w =>
      obtain ⟨z, H', I', rz, n, ez, h0, h1, q⟩ := I.after hq
      subst ez
      obtain ⟨t, rfl⟩ := rz
      exact ⟨⟨h0, h1⟩, .int n, H', I'.tok _, ⟨_, rfl⟩, q⟩
    | next => exact False.elim hq
    | brk => exact False.elim hq
    | cont => exact False.elim hq
/-- x == y, x an instance of the class at C with the text's own ==, y of the type t -/
def rEqO (K : PySem.W.Frag) (C : Addr) (sp : Sp) (E : XK) : R2 := fun x y H Q => ∃ a dx fs t, x = .ref a ∧ H a = some (.ins C dx fs) ∧ TyX K H y t ∧ PySem.W.notFirst K C t = true ∧ sp [x, y] H (fun v H' => ∃ b, v = .bl b ∧ Q (.bl b) H') E
theorem op_eqO (F : FnOk X.prog X.w X.K X.mg X.base CX k f fd ps sp) (hr : Room k X.A) (hs : PySem.W.findIn X.K (.ref C) "__eq__" = some (some (.ref f))) (hf : PySem.W.isFn X.K (.ref f) = true) (hb : Binds X.K fd ps []) (hx : Passes CX X E) : OpR X (compareOp .Eq) (rEqO X.K C sp E) := by
  intro pins s σ H x y v u Q I rx ry h
  obtain ⟨a, dx, fs, t, rfl, ha, ty, hn, h⟩ := h
  cases (show v = Value.ref a from rx)
  obtain ⟨mA, J, _⟩ := ins_get I.hok ha
  obtain ⟨od, J, _⟩ := J.look
  obtain ⟨m, hF⟩ := I.fr
  obtain ⟨Pk, Z, pk, _⟩ := kit_of I ry ty
  show wpAny (model X.prog X.w) X.A (richCompare .Eq (.ref a) u) (EP X pins σ Q) X.xe s
  refine PySem.W.cmp_K (op := .Eq) (tb := t) hr.units0 hF I.ok.mod.kin J (Z.ty _ _ I.kIn pk) hn hs hf ?_
  have hl : ([Value.ref a, u] ++ []).length = ps.length := by rw [← F.len _ _ _ _ h]; rfl
  refine wpAny_call (codeAny_mono (F.run X.A X.stack s H ⟨[.ref a, u], []⟩ [.ref a, u] [.ref a, y] _ E hr I.env0 (by simpa using hb s [.ref a, u] I.kIn hl) (.cons rfl (.cons ry .nil)) h) fun r s' hq => ?_)
  cases r with
  | error e => exact hx pins σ H s e s' I hq
  | ok fl =>
    cases fl with
    | ret w =>
      obtain ⟨z, H', I', rz, b, ez, q⟩ := I.after hq
      subst ez
      cases rz
      exact ⟨.bl b, H', I', rfl, q⟩
    | next => exact False.elim hq
    | brk => exact False.elim hq
    | cont => exact False.elim hq
/-- x + y of two instances of the class at C, by its own + -/
def rAddO (C : Addr) (sp : Sp) (E : XK) : R2 := fun x y H Q => ∃ a b dx dy fs gs, x = .ref a ∧ y = .ref b ∧ H a = some (.ins C dx fs) ∧ H b = some (.ins C dy gs) ∧ sp [x, y] H (fun v H' => (∃ p, v = .ref p) ∧ Q v H') E
theorem op_addO (F : FnOk X.prog X.w X.K X.mg X.base CX k f fd ps sp) (hr : Room k X.A) (hc : PySem.W.selfFirst X.K C = true) (hs : PySem.W.findIn X.K (.ref C) "__add__" = some (some (.ref f))) (hf : PySem.W.isFn X.K (.ref f) = true) (hb : Binds X.K fd ps []) (hx : Passes CX X E) : OpR X (binaryOp .Add) (rAddO C sp E) := by
  intro pins s σ H x y v u Q I rx ry h
  obtain ⟨a, b, dx, dy, fs, gs, rfl, rfl, ha, hb', h⟩ := h
  cases (show v = Value.ref a from rx)
  cases (show u = Value.ref b from ry)
  obtain ⟨mA, J, _⟩ := ins_get I.hok ha
  obtain ⟨mB, J', _⟩ := ins_get I.hok hb'
  obtain ⟨od, J, _⟩ := J.look
  obtain ⟨od', J', _⟩ := J'.look
  obtain ⟨m, hF⟩ := I.fr
  refine PySem.W.binop_K (op := .Add) hF I.ok.mod.kin J J'.type hc hs hf ?_
  have hl : ([Value.ref a, .ref b] ++ []).length = ps.length := by rw [← F.len _ _ _ _ h]; rfl
  refine wpAny_call (codeAny_mono (F.run X.A X.stack s H ⟨[.ref a, .ref b], []⟩ [.ref a, .ref b] [.ref a, .ref b] _ E hr I.env0 (by simpa using hb s [.ref a, .ref b] I.kIn hl) (.cons rfl (.cons rfl .nil)) h) fun r s' hq => ?_)
  cases r with
  | error e => exact hx pins σ H s e s' I hq
  | ok fl =>
    cases fl with
    | ret w =>
      obtain ⟨z, H', I', rz, ⟨p, ez⟩, q⟩ := I.after hq
      subst ez
      cases (show w = Value.ref p from rz)
      exact ⟨.ref p, H', I', rfl, q⟩
    | next => exact False.elim hq
    | brk => exact False.elim hq
    | cont => exact False.elim hq
def gGcd : List V → Hp → VK → Prop := fun vs H Q => ∃ a b : Int, vs = [.int a, .int b] ∧ Q (.int ((Nat.gcd a.natAbs b.natAbs : Nat) : Int)) H
def gLcm : List V → Hp → VK → Prop := fun vs H Q => ∃ a b : Int, vs = [.int a, .int b] ∧ a.natAbs < 2 ^ 64 ∧ b.natAbs < 2 ^ 64 ∧ Q (.int ((Nat.lcm a.natAbs b.natAbs : Nat) : Int)) H
theorem c_gcd : CallR X (.builtin "math.gcd") gGcd := cr_gcd
theorem c_lcm : CallR X (.builtin "math.lcm") gLcm := by
  intro pins s σ H vs us Q I r h
  obtain ⟨a, b, rfl, ha, hb, q⟩ := h
  obtain ⟨u, w', rfl, ⟨t, rfl⟩, ⟨t', rfl⟩⟩ := vals2 r
  exact PySem.W.mc_lcm ha hb fun _ => ⟨.int _, H, I.tok _, ⟨_, rfl⟩, q⟩
variable {e e1 e2 : Expr} {p pos : Pos} {te te1 te2 : TE}
theorem b_gcd (hm : X.mg "gcd" = some (.builtin "math.gcd")) (h1 : PE X e1 te1) (h2 : PE X e2 te2) (hg : Gl X "gcd" := by rfl) (hs : starEach [e1, e2] X.env = (false, eval e1 X.env) :: starEach [e2] X.env := by rfl) (hs2 : starEach [e2] X.env = (false, eval e2 X.env) :: starEach [] X.env := by rfl) (hpl : (backTo pos (starEach [e2] X.env)).any (·.1) = false := by rfl) :
    PE X (.Call (.Name "gcd" p) [e1, e2] [] pos) (tCB gGcd (tCons te1 (tCons te2 tNil))) := pe_callBfun c_gcd hg hm (pa_cons h1 (pa_cons h2 pa_nil hs2) hs) (he := hs) (hpl := hpl)
theorem b_lcm (hm : X.mg "lcm" = some (.builtin "math.lcm")) (h1 : PE X e1 te1) (h2 : PE X e2 te2) (hg : Gl X "lcm" := by rfl) (hs : starEach [e1, e2] X.env = (false, eval e1 X.env) :: starEach [e2] X.env := by rfl) (hs2 : starEach [e2] X.env = (false, eval e2 X.env) :: starEach [] X.env := by rfl) (hpl : (backTo pos (starEach [e2] X.env)).any (·.1) = false := by rfl) :
    PE X (.Call (.Name "lcm" p) [e1, e2] [] pos) (tCB gLcm (tCons te1 (tCons te2 tNil))) := pe_callBfun c_lcm hg hm (pa_cons h1 (pa_cons h2 pa_nil hs2) hs) (he := hs) (hpl := hpl)
end
/-- special methods, as one has them -/
structure Sm (P : Program) (w0 : World) (K : PySem.W.Frag) (mg : Str → Option Value) (base : Heap) (CX : CXT) (k : Nat) (C : Addr) (m : Str) (ds : DS) : Prop where
  ex : ∃ (f : Addr) (fd : FuncData) (ps : List Str), FnOk P w0 K mg base CX k f fd ps (spD K ds) ∧ PySem.W.findIn K (.ref C) m = some (some (.ref f)) ∧ PySem.W.isFn K (.ref f) = true ∧ Binds K fd ps []
section
variable {X : Cx} {CX : CXT} {k : Nat} {C : Addr} {ds : DS} {E : XK} {e e1 e2 : Expr} {p pos : Pos} {te : TE}
theorem o_len (d : Sm X.prog X.w X.K X.mg X.base CX k C "__len__" ds) (hr : Room (k + 1) X.A) (hx : Passes CX X E) (hm : X.mg "len" = none) (he : PE X e te) (hg : Gl X "len" := by rfl) (hs : starEach [e] X.env = (false, eval e X.env) :: starEach [] X.env := by rfl) : PE X (.Call (.Name "len" p) [e] [] pos) (tCB (gLenO C (spD X.K ds) E) (tCons te tNil)) := by
  obtain ⟨f, fd, ps, F, h1, h2, h3⟩ := d.ex
  exact pe_callB (c_lenO F hr h1 h2 h3 hx) hg hm PySem.boot_len (pa_cons he pa_nil hs) (he := hs)
theorem o_eq (d : Sm X.prog X.w X.K X.mg X.base CX k C "__eq__" ds) (hr : Room k X.A) (hx : Passes CX X E) : OpR X (compareOp .Eq) (rEqO X.K C (spD X.K ds) E) := by
  obtain ⟨f, fd, ps, F, h1, h2, h3⟩ := d.ex
  exact op_eqO F hr h1 h2 h3 hx
theorem o_add (d : Sm X.prog X.w X.K X.mg X.base CX k C "__add__" ds) (hc : PySem.W.selfFirst X.K C = true) (hr : Room k X.A) (hx : Passes CX X E) : OpR X (binaryOp .Add) (rAddO C (spD X.K ds) E) := by
  obtain ⟨f, fd, ps, F, h1, h2, h3⟩ := d.ex
  exact op_addO F hr hc h1 h2 h3 hx
end
/-! over data -/
/-- the type of a thing, as isinstance and == look at it -/
structure InsTy (K : PySem.W.Frag) (C : Addr) : Prop where
  cl : Cls K C
  ha : PySem.W.findIn K (.ref C) "__class__" = some (some (.builtin "object.__class__"))
  hn : PySem.W.specialIn K (.builtin "object.__class__") "__get__" = some (some (.builtin "getset_descriptor.__get__"))
  htk : PySem.W.takesIn K (.builtin "object.__class__") = some true
  hm : PySem.W.mroIn K C (.type "object") = some true
def tyE (S : List Own) : Ent → Option Value
  | .d .non => some (.type "NoneType")
  | .d (.bl _) => some (.type "bool")
  | .d (.int _) => some (.type "int")
  | .d (.str _) => some (.type "str")
  | .d (.lst _) => some (.type "list")
  | .d (.tup _) => some (.type "tuple")
  | .d (.obj C _) => some (.ref C)
  | .d (.scr _) => none
  | .d (.cls _) => none
  | .d (.exn _ _ _) => none
  | .d (.eob _ _) => none
  | .d (.ty _) => none
  | .tup _ => some (.type "tuple")
  | .own i => match S[i]? with
    | some (.lst _) => some (.type "list")
    | some (.ins C _) => some (.ref C)
    | _ => none
theorem ty_of {w : Wd} {R H : Hp} {as : List Addr} {S : List Own} {v : V} {x : Ent} {t : Value} (rl : Rel w R H as S) (h : EntOk w.K R as v x) (e : tyE S x = some t) (hi : ∀ C, t = .ref C → InsTy w.K C) : TyX w.K H v t := by
  have ins : ∀ {a C dx : Addr} {fs : List (Str × V)}, H a = some (.ins C dx fs) → t = .ref C → TyX w.K H (.ref a) t := fun q z => by
    subst z
    have i := hi _ rfl
    exact .base (.ins q i.cl i.ha i.hn i.htk i.hm)
  cases x with
  | d x =>
    cases x with
    | non => cases h; cases e; exact .base .non
    | bl b => cases h; cases e; exact .base (.bl _)
    | int b => cases h; cases e; exact .base (.int _)
    | str b => cases h; cases e; exact .base (.str _)
    | scr b => cases e
    | cls b => cases e
    | exn _ _ _ => cases e
    | eob _ _ => cases e
    | ty b => cases e
    | lst b => cases e; cases h with | lst h1 h2 => exact .base (.lst (rl.sub _ _ h1))
    | tup b => cases e; cases h with | tup h1 h2 => exact .base (.tup (rl.sub _ _ h1))
    | obj C b => cases e; cases h with | obj h1 h2 => exact ins (rl.sub _ _ h1) rfl
  | tup es => obtain ⟨a, vs, rfl, h1, h2⟩ := h; cases e; exact .base (.tup (rl.sub _ _ h1))
  | own i =>
    obtain ⟨a, ha, rfl⟩ := h
    simp only [tyE] at e
    cases q : S[i]? with
    | none => rw [q] at e; cases e
    | some o =>
      rw [q] at e
      cases o with
      | gone => cases e
      | dct _ => cases e
      | lat _ _ => cases e
      | sn _ => cases e
      | lst xs =>
        obtain ⟨⟨z, vs, c1, c2⟩, _⟩ := rl.reg i _ a q ha (by intro z; cases z)
        cases e; exact .base (.lst c1)
      | ins C gs =>
        obtain ⟨⟨z, dx, fs, c1, c2⟩, _⟩ := rl.reg i _ a q ha (by intro z; cases z)
        cases e; exact ins c1 rfl
section
variable {w : Wd} {Γ : Env} {S : List Own} {k : KE} {f : DS} {E : XK} {C : Addr}
theorem rc_lenOwn {x : Ent} {gs : List (Str × D)} (hx : IsObj x S C gs) (h : RS w f E [x] S fun e S1 => ∃ n : Int, e = .d (.int n) ∧ 0 ≤ n ∧ n < 2 ^ 63 ∧ k (.d (.int n)) S1) : RC w (gLenO C (spD w.K f) E) [x] S k := fun R H as us Q rl hu c => by
  obtain ⟨v, rfl, hv⟩ := one_ent hu
  obtain ⟨a, dx, fs, rfl, q2, q3⟩ := isObj_at hx rl hv
  refine ⟨a, dx, fs, rfl, q2, h R H as _ _ rl ⟨hv, trivial⟩ fun v' e' S' R' H' as' a1 a2 a3 a4 ⟨n, e1, e2, e3, e4⟩ => ?_⟩
  subst e1
  cases a4
  exact ⟨n, rfl, e2, e3, c _ _ S' R' H' as' a1 a2 a3 (ok_d (Den.int n)) e4⟩
theorem rr_eqO {x y : Ent} {t : Value} {gs : List (Str × D)} (hx : IsObj x S C gs) (ht : tyE S y = some t) (hi : ∀ C, t = .ref C → InsTy w.K C) (hn : PySem.W.notFirst w.K C t = true)
    (h : RS w f E [x, y] S fun e S1 => ∃ b, e = .d (.bl b) ∧ k (.d (.bl b)) S1) : RR w (rEqO w.K C (spD w.K f) E) x y S k := fun R H as u v Q rl hu hv c => by
  obtain ⟨a, dx, fs, rfl, q2, q3⟩ := isObj_at hx rl hu
  refine ⟨a, dx, fs, t, rfl, q2, ty_of rl hv ht hi, hn, h R H as _ _ rl ⟨hu, hv, trivial⟩ fun v' e' S' R' H' as' a1 a2 a3 a4 ⟨b, e1, e4⟩ => ?_⟩
  subst e1
  cases a4
  exact ⟨b, rfl, c _ _ S' R' H' as' a1 a2 a3 (ok_d (Den.bl b)) e4⟩
theorem rr_addO {x y : Ent} {gs hs : List (Str × D)} (hx : IsObj x S C gs) (hy : IsObj y S C hs) (h : RS w f E [x, y] S fun e S1 => (∃ C' g', e = .d (.obj C' g')) ∧ k e S1) : RR w (rAddO C (spD w.K f) E) x y S k := fun R H as u v Q rl hu hv c => by
  obtain ⟨a, dx, fs, rfl, q2, q3⟩ := isObj_at hx rl hu
  obtain ⟨b, dy, gs', rfl, q4, q5⟩ := isObj_at hy rl hv
  refine ⟨a, b, dx, dy, fs, gs', rfl, rfl, q2, q4, h R H as _ _ rl ⟨hu, hv, trivial⟩ fun v' e' S' R' H' as' a1 a2 a3 a4 ⟨⟨C', g', e1⟩, e4⟩ => ?_⟩
  subst e1
  refine ⟨?_, c _ _ S' R' H' as' a1 a2 a3 a4 e4⟩
  have a4' : Den w.K R' v' (.obj C' g') := a4
  cases a4'
  exact ⟨_, rfl⟩
theorem rc_gcd {i j : Int} (q : k (.d (.int ((Nat.gcd i.natAbs j.natAbs : Nat) : Int))) S) : RC w gGcd [.d (.int i), .d (.int j)] S k := fun R H as us Q rl hu c => by
  obtain ⟨v, u, rfl, hv, hv2⟩ := two_ent hu
  cases hv; cases hv2
  exact ⟨i, j, rfl, c _ _ S R H as rl (Sub.refl _) (Pre.refl _) (ok_d (Den.int _)) q⟩
theorem rc_lcm {i j : Int} (hi : i.natAbs < 2 ^ 64) (hj : j.natAbs < 2 ^ 64) (q : k (.d (.int ((Nat.lcm i.natAbs j.natAbs : Nat) : Int))) S) : RC w gLcm [.d (.int i), .d (.int j)] S k := fun R H as us Q rl hu c => by
  obtain ⟨v, u, rfl, hv, hv2⟩ := two_ent hu
  cases hv; cases hv2
  exact ⟨i, j, rfl, hi, hj, c _ _ S R H as rl (Sub.refl _) (Pre.refl _) (ok_d (Den.int _)) q⟩
end
/-! isinstance -/
section
variable {X : Cx} {e1 e2 : Expr} {p pos : Pos} {te1 te2 : TE}
theorem b_isi (hm : X.mg "isinstance" = none) (h1 : PE X e1 te1) (h2 : PE X e2 te2) (hg : Gl X "isinstance" := by rfl) (hs : starEach [e1, e2] X.env = (false, eval e1 X.env) :: starEach [e2] X.env := by rfl) (hs2 : starEach [e2] X.env = (false, eval e2 X.env) :: starEach [] X.env := by rfl) (hpl : (backTo pos (starEach [e2] X.env)).any (·.1) = false := by rfl) :
    PE X (.Call (.Name "isinstance" p) [e1, e2] [] pos) (tCB (rIsi X.K) (tCons te1 (tCons te2 tNil))) := pe_callB call_isi hg hm (by decide +kernel) (pa_cons h1 (pa_cons h2 pa_nil hs2) hs) (he := hs) (hpl := hpl)
theorem b_isiT (hm : X.mg "isinstance" = none) (h1 : PE X e1 te1) (h2 : PE X e2 te2) (hg : Gl X "isinstance" := by rfl) (hs : starEach [e1, e2] X.env = (false, eval e1 X.env) :: starEach [e2] X.env := by rfl) (hs2 : starEach [e2] X.env = (false, eval e2 X.env) :: starEach [] X.env := by rfl) (hpl : (backTo pos (starEach [e2] X.env)).any (·.1) = false := by rfl) :
    PE X (.Call (.Name "isinstance" p) [e1, e2] [] pos) (tCB (rIsiT X.K) (tCons te1 (tCons te2 tNil))) := pe_callB call_isiT hg hm (by decide +kernel) (pa_cons h1 (pa_cons h2 pa_nil hs2) hs) (he := hs) (hpl := hpl)
end
section
variable {w : Wd} {S : List Own} {k : KE}
theorem rc_isi {x : Ent} {C : Addr} {t : Value} {b : Bool} (ht : tyE S x = some t) (hi : ∀ C, t = .ref C → InsTy w.K C) (hk : PySem.W.kitOne w.K t (.ref C) = some b) (q : k (.d (.bl b)) S) : RC w (rIsi w.K) [x, .d (.cls C)] S k := fun R H as us Q rl hu c => by
  obtain ⟨v, u, rfl, hv, hv2⟩ := two_ent hu
  cases hv2
  exact ⟨v, _, t, .ref C, b, rfl, .own C, ty_of rl hv ht hi, hk, c _ _ S R H as rl (Sub.refl _) (Pre.refl _) (ok_d (Den.bl b)) q⟩
end

/-! C(k = v, ..), keywords alone -/
def tPermA (n : Nat) (pm : List Nat) (tk : TA) : TA := fun σ H Q => tk σ H fun zs H2 => zs.length = n ∧ Q (permA .non pm zs) H2
structure CtK (P : Program) (w0 : World) (K : PySem.W.Frag) (mg : Str → Option Value) (base : Heap) (CX : CXT) (k : Nat) (x : Str) (C : Addr) (ks : List Str) (pm : List Nat) (ds : DS) : Prop where
  ex : ∃ (f : Addr) (fd : FuncData) (ps : List Str), FnOk P w0 K mg base CX k f fd ps (spD K ds) ∧ Mk K C f ∧ mg x = some (.ref C) ∧ KB K fd ps ks 1 pm
section
variable {X : Cx} {CX : CXT} {k n : Nat} {C : Addr} {ks : List Str} {pm : List Nat} {ds : DS} {E : XK} {x : Str} {p pos : Pos} {kws : List Keyword} {tk : TA}
theorem pe_mkK (d : CtK X.prog X.w X.K X.mg X.base CX k x C ks pm ds) (hr : Room (k + 1) X.A) (hx : Passes CX X E) (hkw : PK X kws tk) (hn : ks.length = n := by rfl) (hg : Gl X x := by rfl)
    (hall : (backToKw pos (keywordEach kws X.env)).all (·.1.isSome) = true := by rfl) (hks : (backToKw pos (keywordEach kws X.env)).filterMap (·.1) = ks := by rfl)
    (hdb : (x == ("__debug__" : Str)) = false := by decide)
    (hpl : ((backTo pos (starEach [] X.env)).any (·.1) || (backToKw pos (keywordEach kws X.env)).any (·.1.isNone)) = false := by rfl) : PE X (.Call (.Name x p) [] kws pos) (tMake C (spD X.K ds) [] E (tPermA n pm tk)) := by
  obtain ⟨f, fd, ps, F, M, hm, hb⟩ := d.ex
  refine ⟨fun pins s σ H Q I h => ?_⟩
  refine wpAny_Call_Name_kw (ld_glob I hg hm ?_ hdb)
  refine PySem.W.callWith_KW0 (first := []) (h₀ := X.base) I.ok.mod.kin M.kp hall (thn (hkw.run pos pins s σ H _ I h) fun ws s2 ⟨zs, H2, I2, rz, l2, q2⟩ => ⟨I2.kIn, ?_⟩) hpl
  rw [hks]
  have hbn : KBn X.K fd ps (0 + 1) ks (fun us ws => us ++ permA .none pm ws) (fun vs zs => vs ++ permA .non pm zs) := ⟨fun s us ws _ l1 l2 => hb.to s us ws l1 l2, fun r1 r2 => r1.append (vals_perm r2 pm)⟩
  exact run_makeN (vs := []) (us := []) M F hr hbn hx I2 .nil rz rfl (by rw [hn]; exact l2) (by simpa using q2)
end
theorem la_perm {w : Wd} {Γ : Env} {S : List Own} {n : Nat} {pm : List Nat} {tk : TA} {k : List Ent → List Own → Prop} (h : LA w tk Γ S fun es S1 => es.length = n ∧ k (permA (.d .non) pm es) S1) : LA w (tPermA n pm tk) Γ S k := fun σ R H as Q rl s c =>
  h σ R H as _ rl s fun vs es S1 R1 H1 as1 rl1 s1 p1 e1 ⟨h1, h2⟩ => ⟨by rw [e1.len]; exact h1, c _ _ S1 R1 H1 as1 rl1 s1 p1 (ents_perm e1 pm) h2⟩

section
variable {w : Wd} {S : List Own} {k : KE}
theorem rc_listN {x : D} {ds : List D} (h : itemsOf x = some ds) (q : k (.own S.length) (S ++ [.lst ds])) : RC w (gList w.K) [.d x] S k := fun R H as us Q rl hu c => by
  obtain ⟨v, rfl, hv⟩ := one_ent hu
  have hv' : Den w.K R v x := hv
  have fin : ∀ {a : Addr} {vs : List V}, v = .ref a → (SqL w.K H a vs ∨ SqT w.K H a vs) → Dens w.K R vs ds → gList w.K [v] H Q := fun {a vs} e1 e2 e3 => by
    subst e1
    refine ⟨a, vs, rfl, e2, fun p hp => ?_⟩
    have rl2 := rl.allocO hp (.lst vs) (o := .lst ds) ⟨(rl.fresh hp).1, vs, upd_same, e3⟩
    exact c _ _ _ _ _ _ rl2 (Sub.refl _) (Pre.app _ _) (ok_own (by rw [← rl.len]; exact List.getElem?_concat_length)) q
  cases hv' with
  | non => cases h
  | bl _ => cases h
  | int _ => cases h
  | str _ => cases h
  | obj _ _ => cases h
  | cls _ => cases h
  | ty _ => cases h
  | exn _ _ => cases h
  | eob _ _ _ => cases h
  | scr h1 => cases h
  | lst h1 h2 => cases h; exact fin rfl (.inl (SqL.of (rl.sub _ _ h1))) h2
  | tup h1 h2 => cases h; exact fin rfl (.inr (SqT.of (rl.sub _ _ h1))) h2
theorem rc_listNO {i : Nat} {ds : List D} (hi : S[i]? = some (.lst ds)) (q : k (.own S.length) (S ++ [.lst ds])) : RC w (gList w.K) [.own i] S k := fun R H as us Q rl hu c => by
  obtain ⟨v, rfl, hv⟩ := one_ent hu
  obtain ⟨a, vs, rfl, q2, q3⟩ := isLst_at (.inr ⟨i, rfl, hi⟩) rl hv
  refine ⟨_, _, rfl, .inl (SqL.of q2), fun p hp => ?_⟩
  have rl2 := rl.allocO hp (.lst vs) (o := .lst ds) ⟨(rl.fresh hp).1, vs, upd_same, q3⟩
  exact c _ _ _ _ _ _ rl2 (Sub.refl _) (Pre.app _ _) (ok_own (by rw [← rl.len]; exact List.getElem?_concat_length)) q
end
/-! == of lists of ints -/
theorem lay_ints : ∀ s : List Int, PyData.canLayAll0 (s.map PyData.int) = true
  | [] => rfl
  | x :: s => by show (true && PyData.canLayAll0 (s.map PyData.int)) = true; rw [lay_ints s]; rfl
theorem depth_ints : ∀ s : List Int, PyData.depthAll (s.map PyData.int) = 0
  | [] => rfl
  | x :: s => by show max 0 (PyData.depthAll (s.map PyData.int)) = 0; rw [depth_ints s]; rfl
theorem shaped_ints (s : List Int) : SeqAt.shaped (.list (s.map PyData.int)) = true := by
  unfold SeqAt.shaped
  rw [Bool.and_eq_true]
  refine ⟨lay_ints s, decide_eq_true ?_⟩
  show PyData.depthAll (s.map PyData.int) + 1 ≤ 64
  rw [depth_ints]; decide
theorem eqv_ints : ∀ (s t : List Int), PyData.eqvAll (s.map PyData.int) (t.map PyData.int) = decide (s = t)
  | [], [] => rfl
  | [], _ :: _ => rfl
  | _ :: _, [] => rfl
  | x :: s, y :: t => by
    show (x == y && PyData.eqvAll (s.map PyData.int) (t.map PyData.int)) = _
    rw [eqv_ints s t]
    by_cases h1 : x = y
    · subst h1
      by_cases h2 : s = t
      · subst h2; simp
      · simp [h2]
    · simp [h1]
theorem eqv_lz (s t : List Int) : PyData.eqv (.list (s.map PyData.int)) (.list (t.map PyData.int)) = decide (s = t) := eqv_ints s t
theorem toPs_ints : ∀ s : List Int, toPs (s.map D.int) = some (s.map PyData.int)
  | [] => by simp [toPs]
  | x :: s => by
    simp only [List.map_cons, toPs, toP]
    rw [toPs_ints s]; rfl
theorem toP_lz (s : List Int) : toP (.lst (s.map D.int)) = some (.list (s.map PyData.int)) := by
  simp only [toP]
  rw [toPs_ints]; rfl

theorem g_cls {X : Cx} {x : Str} {C : Addr} {pos : Pos} (hm : X.mg x = some (.ref C)) (hg : Gl X x := by rfl) (hd : (x == ("__debug__" : Str)) = false := by decide) : PE X (.Name x pos) (tC (.ref C)) := pe_glob hg hm rfl hd
end Gm
/-! stepped lines, in plain numbers -/
namespace Ln
/-- the value at n of the line told by s and r -/
def at_ (s : List Int) (r n : Int) : Int := s.getD (n % s.length).toNat 0 + n / s.length * r
/-- d is a period of what s and r tell (within s) -/
def Per (s : List Int) (r : Int) (d : Nat) : Prop := r * d % s.length = 0 ∧ ∀ i, d ≤ i → i < s.length → s.getD i 0 = s.getD (i - d) 0 + r * d / s.length
/-- what a line may be told by -/
structure Ok (s : List Int) (r : Int) : Prop where
  pos : 0 < s.length
  up : ∀ i, 0 < i → i < s.length → s.getD (i - 1) 0 ≤ s.getD i 0
  last : s.getD (s.length - 1) 0 ≤ s.getD 0 0 + r
theorem Ok.le {s : List Int} {r : Int} (o : Ok s r) {i : Nat} : ∀ {j : Nat}, i ≤ j → j < s.length → s.getD i 0 ≤ s.getD j 0
  | 0, h, _ => by
    have e : i = 0 := by omega
    subst e; exact Int.le_refl _
  | j + 1, h, hj => by
    by_cases e : i = j + 1
    · subst e; exact Int.le_refl _
    · have h1 := Ok.le o (i := i) (j := j) (by omega) (by omega)
      have h2 := o.up (j + 1) (by omega) hj
      rw [Nat.add_sub_cancel] at h2
      omega
theorem Ok.rise {s : List Int} {r : Int} (o : Ok s r) : 0 ≤ r := by
  have := o.le (i := 0) (j := s.length - 1) (by omega) (by have := o.pos; omega)
  have := o.last
  omega
/-- s by rest and turn -/
theorem per_at {s : List Int} {r : Int} {d : Nat} (hd : 0 < d) (h : Per s r d) : ∀ (n i : Nat), i ≤ n → i < s.length → s.getD i 0 = s.getD (i % d) 0 + ((i / d : Nat) : Int) * (r * d / s.length)
  | n, i, hn, hi => by
    by_cases hlt : i < d
    · rw [Nat.mod_eq_of_lt hlt, Nat.div_eq_of_lt hlt]; simp
    · match n, hn with
      | 0, hn => omega
      | n + 1, hn =>
        have ih := per_at hd h n (i - d) (by omega) (by omega)
        have e1 := h.2 i (by omega) hi
        have e2 : i % d = (i - d) % d := by rw [Nat.mod_eq_sub_mod (by omega)]
        have e3 : i / d = (i - d) / d + 1 := by rw [Nat.div_eq i d, if_pos ⟨hd, by omega⟩]
        rw [e1, ih, e2, e3]
        rw [show (((i - d) / d + 1 : Nat) : Int) = (((i - d) / d : Nat) : Int) + 1 by omega, Int.add_mul]
        omega
theorem per_part {s : List Int} {r : Int} {d k : Nat} (hd : 0 < d) (hs : s.length = d * k) (h : r * d % s.length = 0) : r = k * (r * d / s.length) := by
  have h1 : r * d = s.length * (r * d / s.length) := by
    have := Int.mul_ediv_add_emod (r * d) s.length
    omega
  generalize hp : r * d / (s.length : Int) = p at h1 ⊢
  rw [hs] at h1
  have h2 : (d : Int) * r = d * (k * p) := by
    rw [Int.mul_comm, h1, show ((d * k : Nat) : Int) = (d : Int) * k by simp, Int.mul_assoc]
  exact Int.eq_of_mul_eq_mul_left (by omega) h2
theorem getD_take {s : List Int} {d i : Nat} (h : i < d) : (s.take d).getD i 0 = s.getD i 0 := by
  rw [List.getD_eq_getElem?_getD, List.getD_eq_getElem?_getD, List.getElem?_take, if_pos h]
/-- a period tells the same line -/
theorem at_per {s : List Int} {r : Int} {d : Nat} (hd : 0 < d) (hdv : s.length % d = 0) (hs : 0 < s.length) (h : Per s r d) (n : Int) : at_ (s.take d) (r * d / s.length) n = at_ s r n := by
  obtain ⟨k, hk⟩ : ∃ k, s.length = d * k := ⟨s.length / d, by have := Nat.div_add_mod s.length d; omega⟩
  have hk0 : 0 < k := by
    rcases Nat.eq_zero_or_pos k with e | e
    · subst e; omega
    · exact e
  have hle : d ≤ s.length := by rw [hk]; exact Nat.le_mul_of_pos_right _ hk0
  have hlen : (s.take d).length = d := by rw [List.length_take]; omega
  have hr := per_part hd hk h.1
  unfold at_
  rw [hlen]
  generalize hp : r * d / (s.length : Int) = p at hr ⊢
  have hN : ((s.length : Nat) : Int) = (d : Int) * k := by rw [hk]; simp
  generalize hq : n / (s.length : Int) = q
  obtain ⟨i, hi⟩ : ∃ i : Nat, n % (s.length : Int) = i := ⟨(n % (s.length : Int)).toNat, by have := Int.emod_nonneg n (show (s.length : Int) ≠ 0 by omega); omega⟩
  have hil : i < s.length := by have := Int.emod_lt_of_pos n (show (0 : Int) < s.length by omega); omega
  have hn : n = (s.length : Int) * q + i := by have := Int.mul_ediv_add_emod n s.length; rw [hq, hi] at this; omega
  have hdz : (d : Int) ≠ 0 := by omega
  have e1 : n % (d : Int) = ((i % d : Nat) : Int) := by
    rw [hn, hN, Int.mul_assoc, Int.add_comm, Int.add_mul_emod_self_left]; simp
  have e2 : n / (d : Int) = (k : Int) * q + ((i / d : Nat) : Int) := by
    rw [hn, hN, Int.mul_assoc, Int.add_comm, Int.add_mul_ediv_left _ _ hdz]
    simp; omega
  rw [e1, e2, hi]
  have e3 := per_at hd h i i (Nat.le_refl _) hil
  rw [hp] at e3
  have e4 : (((i % d : Nat) : Int)).toNat = i % d := by omega
  have e5 : ((i : Int)).toNat = i := by omega
  rw [e4, e5, getD_take (Nat.mod_lt _ hd), e3]
  have e6 : ((k : Int) * q + ((i / d : Nat) : Int)) * p = q * r + ((i / d : Nat) : Int) * p := by
    rw [Int.add_mul]
    congr 1
    rw [Int.mul_comm (k : Int) q, Int.mul_assoc, ← hr]
  rw [e6]; omega
theorem ok_take {s : List Int} {r : Int} {d : Nat} (o : Ok s r) (hd : 0 < d) (hdv : s.length % d = 0) (h : Per s r d) : Ok (s.take d) (r * d / s.length) := by
  obtain ⟨k, hk⟩ : ∃ k, s.length = d * k := ⟨s.length / d, by have := Nat.div_add_mod s.length d; omega⟩
  have hs := o.pos
  have hk0 : 0 < k := by
    rcases Nat.eq_zero_or_pos k with e | e
    · subst e; omega
    · exact e
  have hle : d ≤ s.length := by rw [hk]; exact Nat.le_mul_of_pos_right _ hk0
  have hlen : (s.take d).length = d := by rw [List.length_take]; omega
  refine ⟨by omega, fun i h0 hi => ?_, ?_⟩
  · rw [hlen] at hi
    rw [getD_take hi, getD_take (by omega)]
    exact o.up i h0 (by omega)
  · rw [hlen, getD_take (by omega), getD_take hd]
    by_cases hdl : d < s.length
    · have h1 := h.2 d (Nat.le_refl _) hdl
      rw [Nat.sub_self] at h1
      have h2 := o.up d hd hdl
      omega
    · have e : d = s.length := by omega
      subst e
      have hz : (s.length : Int) ≠ 0 := by omega
      rw [Int.mul_ediv_cancel _ hz]
      exact o.last
/-- the least place -/
theorem least {s : List Int} {r v : Int} (o : Ok s r) (hr : 0 < r) (j : Nat) (hj : j < s.length) (hlo : ∀ i, i < j → s.getD i 0 < v - (-((s.getD (s.length - 1) 0 - v) / r)) * r)
    (hhi : v - (-((s.getD (s.length - 1) 0 - v) / r)) * r ≤ s.getD j 0) :
    v ≤ at_ s r (-((s.getD (s.length - 1) 0 - v) / r) * s.length + j) ∧ at_ s r (-((s.getD (s.length - 1) 0 - v) / r) * s.length + j - 1) < v := by
  have hs := o.pos
  generalize hl : s.getD (s.length - 1) 0 = l at *
  generalize ht : -((l - v) / r) = t at *
  have hN : (s.length : Int) ≠ 0 := by omega
  have val : ∀ (q : Int) (i : Nat), i < s.length → at_ s r (q * s.length + i) = s.getD i 0 + q * r := fun q i hi => by
    unfold at_
    have e1 : (q * s.length + i) % (s.length : Int) = i := by
      rw [Int.add_comm, Int.add_mul_emod_self_right]
      exact Int.emod_eq_of_lt (by omega) (by omega)
    have e2 : (q * s.length + i) / (s.length : Int) = q := by
      rw [Int.add_comm, Int.add_mul_ediv_right _ _ hN, Int.ediv_eq_zero_of_lt (by omega) (by omega)]; omega
    rw [e1, e2]
    simp
  refine ⟨by rw [val t j hj]; omega, ?_⟩
  match j, hj, hlo, hhi with
  | j + 1, hj, hlo, _ =>
    have e : t * s.length + ((j + 1 : Nat) : Int) - 1 = t * s.length + (j : Nat) := by omega
    rw [e, val t j (by omega)]
    have := hlo j (by omega)
    omega
  | 0, hj, _, _ =>
    have e : t * s.length + ((0 : Nat) : Int) - 1 = (t - 1) * s.length + ((s.length - 1 : Nat) : Int) := by
      rw [Int.sub_mul]; omega
    rw [e, val (t - 1) (s.length - 1) (by omega), hl]
    -- l + (t - 1) * r < v
    have h1 := Int.mul_ediv_add_emod (l - v) r
    have h2 := Int.emod_nonneg (l - v) (show r ≠ 0 by omega)
    have h3 := Int.emod_lt_of_pos (l - v) hr
    have e2 : (l - v) / r = -t := by omega
    rw [e2] at h1
    have e3 : r * -t = -(t * r) := by rw [Int.mul_neg, Int.mul_comm]
    rw [e3] at h1
    rw [Int.sub_mul]; omega
end Ln
/-! the least form is of the function -/
namespace Ln
def IsPer (f : Int → Int) (d : Nat) : Prop := ∃ Q, ∀ n, f (n + d) = f n + Q
theorem IsPer.mul {f : Int → Int} {d : Nat} {Q : Int} (h : ∀ n, f (n + d) = f n + Q) : ∀ (k : Nat) (n : Int), f (n + (k : Int) * d) = f n + k * Q
  | 0, n => by simp
  | k + 1, n => by
    have e : n + ((k + 1 : Nat) : Int) * d = (n + (k : Int) * d) + d := by
      rw [show ((k + 1 : Nat) : Int) = (k : Int) + 1 by omega, Int.add_mul]; omega
    rw [e, h, IsPer.mul h k n, show ((k + 1 : Nat) : Int) = (k : Int) + 1 by omega, Int.add_mul]; omega
theorem IsPer.mod {f : Int → Int} {a b : Nat} (ha : IsPer f a) (hb : IsPer f b) : IsPer f (a % b) := by
  obtain ⟨Qa, ha⟩ := ha
  obtain ⟨Qb, hb⟩ := hb
  refine ⟨Qa - (a / b : Nat) * Qb, fun n => ?_⟩
  have h1 := IsPer.mul hb (a / b) (n - ((a / b : Nat) : Int) * b)
  have h2 := ha (n - ((a / b : Nat) : Int) * b)
  have e : n - ((a / b : Nat) : Int) * b + a = n + ((a % b : Nat) : Int) := by
    have := Nat.div_add_mod a b
    have e2 : ((a / b : Nat) : Int) * b = ((b * (a / b) : Nat) : Int) := by rw [Int.mul_comm]; simp
    omega
  rw [e] at h2
  rw [show n - ((a / b : Nat) : Int) * b + ((a / b : Nat) : Int) * b = n by omega] at h1
  omega
theorem IsPer.gcd {f : Int → Int} : ∀ (a b : Nat), IsPer f a → IsPer f b → IsPer f (Nat.gcd a b) := by
  intro a b
  induction a, b using Nat.gcd.induction with
  | H0 b => intro _ hb; rw [Nat.gcd_zero_left]; exact hb
  | H1 a b ha ih => intro h1 h2; rw [Nat.gcd_rec]; exact ih (h2.mod h1) h1
theorem at_add {s : List Int} {r : Int} (hs : 0 < s.length) (n : Int) : at_ s r (n + s.length) = at_ s r n + r := by
  unfold at_
  have hz : (s.length : Int) ≠ 0 := by omega
  rw [Int.add_emod_right, Int.add_ediv_of_dvd_right (Int.dvd_refl _), Int.ediv_self hz, Int.add_mul]
  omega
theorem at_nat {s : List Int} {r : Int} {i : Nat} (hi : i < s.length) : at_ s r i = s.getD i 0 := by
  unfold at_
  rw [Int.emod_eq_of_lt (by omega) (by omega), Int.ediv_eq_zero_of_lt (by omega) (by omega)]
  simp
theorem isPer_len {s : List Int} {r : Int} (hs : 0 < s.length) : IsPer (at_ s r) s.length := ⟨r, at_add hs⟩
theorem isPer_of {s : List Int} {r : Int} {d : Nat} (hd : 0 < d) (hdv : s.length % d = 0) (hs : 0 < s.length) (h : Per s r d) : IsPer (at_ s r) d := by
  refine ⟨r * d / s.length, fun n => ?_⟩
  have hle : d ≤ s.length := Nat.le_of_dvd hs (Nat.dvd_of_mod_eq_zero hdv)
  have hlen : (s.take d).length = d := by rw [List.length_take]; omega
  have := at_add (s := s.take d) (r := r * d / s.length) (by omega) n
  rw [hlen, at_per hd hdv hs h, at_per hd hdv hs h] at this
  exact this
theorem per_of {s : List Int} {r : Int} {d : Nat} (hd : 0 < d) (hdv : s.length % d = 0) (hs : 0 < s.length) (h : IsPer (at_ s r) d) : Per s r d := by
  obtain ⟨Q, hQ⟩ := h
  obtain ⟨k, hk⟩ : ∃ k, s.length = d * k := ⟨s.length / d, by have := Nat.div_add_mod s.length d; omega⟩
  have h1 := IsPer.mul hQ k 0
  have h2 := at_add (r := r) hs 0
  have e : (0 : Int) + (k : Int) * d = 0 + s.length := by rw [hk]; simp [Int.mul_comm]
  rw [e, h2] at h1
  have hr : r = k * Q := by omega
  have hz : (s.length : Int) ≠ 0 := by omega
  have e2 : r * d = Q * s.length := by
    rw [hr, hk, Int.mul_comm (k : Int) Q, Int.mul_assoc]
    congr 1
    simp [Int.mul_comm]
  refine ⟨by rw [e2]; exact Int.mul_emod_left _ _, fun i h3 h4 => ?_⟩
  rw [e2, Int.mul_ediv_cancel _ hz]
  have h5 := hQ ((i - d : Nat) : Int)
  have e3 : ((i - d : Nat) : Int) + d = (i : Nat) := by omega
  rw [e3, at_nat h4, at_nat (show i - d < s.length by omega)] at h5
  exact h5
/-- the least period within s -/
structure Lp (s : List Int) (r : Int) (p : Nat) : Prop where
  pos : 0 < p
  le : p ≤ s.length
  dv : s.length % p = 0
  per : Per s r p
  least : ∀ q, 0 < q → q < p → s.length % q = 0 → ¬ Per s r q
theorem Lp.le_of {s : List Int} {r : Int} {p d : Nat} (h : Lp s r p) (hd : 0 < d) (q : IsPer (at_ s r) d) : p ≤ d := by
  have hs : 0 < s.length := Nat.lt_of_lt_of_le h.pos h.le
  have g0 : 0 < Nat.gcd d s.length := Nat.gcd_pos_of_pos_left _ hd
  have g1 : s.length % Nat.gcd d s.length = 0 := Nat.mod_eq_zero_of_dvd (Nat.gcd_dvd_right _ _)
  have g2 := per_of g0 g1 hs (IsPer.gcd d s.length q (isPer_len hs))
  have g3 : Nat.gcd d s.length ≤ d := Nat.le_of_dvd hd (Nat.gcd_dvd_left _ _)
  by_cases hlt : Nat.gcd d s.length < p
  · exact absurd g2 (h.least _ g0 hlt g1)
  · omega
theorem Lp.uniq {s s' : List Int} {r r' : Int} {p p' : Nat} (h : Lp s r p) (h' : Lp s' r' p') (e : ∀ n, at_ s r n = at_ s' r' n) : p = p' ∧ s.take p = s'.take p' ∧ r * p / s.length = r' * p' / s'.length := by
  have hs : 0 < s.length := Nat.lt_of_lt_of_le h.pos h.le
  have hs' : 0 < s'.length := Nat.lt_of_lt_of_le h'.pos h'.le
  have ef : at_ s r = at_ s' r' := funext e
  have i1 := isPer_of h.pos h.dv hs h.per
  have i2 := isPer_of h'.pos h'.dv hs' h'.per
  have l1 := h.le_of h'.pos (by rw [ef]; exact i2)
  have l2 := h'.le_of h.pos (by rw [← ef]; exact i1)
  have ep : p = p' := by omega
  subst ep
  have len1 : (s.take p).length = p := by rw [List.length_take]; have := h.le; omega
  have len2 : (s'.take p).length = p := by rw [List.length_take]; have := h'.le; omega
  have f1 : ∀ n, at_ (s.take p) (r * p / s.length) n = at_ s r n := at_per h.pos h.dv hs h.per
  have f2 : ∀ n, at_ (s'.take p) (r' * p / s'.length) n = at_ s' r' n := at_per h'.pos h'.dv hs' h'.per
  have es : s.take p = s'.take p := by
    refine List.ext_getElem (by rw [len1, len2]) fun i h1 h2 => ?_
    have q1 := f1 i
    have q2 := f2 i
    rw [at_nat h1] at q1
    rw [at_nat h2] at q2
    rw [List.getD_eq_getElem?_getD, List.getElem?_eq_getElem h1] at q1
    rw [List.getD_eq_getElem?_getD, List.getElem?_eq_getElem h2] at q2
    have q3 := e i
    simp at q1 q2 ⊢
    omega
  refine ⟨rfl, es, ?_⟩
  have q1 := at_add (s := s.take p) (r := r * p / s.length) (by rw [len1]; exact h.pos) 0
  have q2 := at_add (s := s'.take p) (r := r' * p / s'.length) (by rw [len2]; exact h.pos) 0
  rw [f1, f1] at q1
  rw [f2, f2] at q2
  rw [len1] at q1
  rw [len2] at q2
  have q3 := e 0
  have q4 := e (0 + (p : Int))
  omega

/-- s, k times over -/
def rep (s : List Int) (r : Int) : Nat → List Int
  | 0 => []
  | k + 1 => rep s r k ++ s.map fun x => x + k * r
theorem rep_len (s : List Int) (r : Int) : ∀ k, (rep s r k).length = k * s.length
  | 0 => by simp [rep]
  | k + 1 => by unfold rep; rw [List.length_append, List.length_map, rep_len s r k, Nat.succ_mul]
theorem getD_map {s : List Int} {f : Int → Int} {i : Nat} (h : i < s.length) : (s.map f).getD i 0 = f (s.getD i 0) := by
  rw [List.getD_eq_getElem?_getD, List.getD_eq_getElem?_getD, List.getElem?_map, List.getElem?_eq_getElem h]; rfl
theorem rep_get {s : List Int} {r : Int} (hs : 0 < s.length) : ∀ (k i : Nat), i < k * s.length → (rep s r k).getD i 0 = s.getD (i % s.length) 0 + ((i / s.length : Nat) : Int) * r
  | 0, i, h => by simp at h
  | k + 1, i, h => by
    rw [Nat.succ_mul] at h
    unfold rep
    by_cases hi : i < k * s.length
    · rw [List.getD_eq_getElem?_getD, List.getElem?_append_left (by rw [rep_len]; exact hi), ← List.getD_eq_getElem?_getD]
      exact rep_get hs k i hi
    · rw [List.getD_eq_getElem?_getD, List.getElem?_append_right (by rw [rep_len]; omega), ← List.getD_eq_getElem?_getD, rep_len, getD_map (by omega)]
      have e : i = s.length * k + (i - k * s.length) := by rw [Nat.mul_comm]; omega
      have e1 : i % s.length = i - k * s.length := by
        rw [e, Nat.mul_add_mod, Nat.mod_eq_of_lt (by rw [Nat.mul_comm] at hi ⊢; omega)]
        rw [Nat.mul_comm]; omega
      have e2 : i / s.length = k := by
        rw [e, Nat.mul_add_div hs, Nat.div_eq_of_lt (by rw [Nat.mul_comm] at hi ⊢; omega)]; rfl
      rw [e1, e2]
theorem rep_ok {s : List Int} {r : Int} {k : Nat} (o : Ok s r) (hk : 0 < k) : Ok (rep s r k) (r * k) := by
  have hs := o.pos
  have hl : (rep s r k).length = k * s.length := rep_len s r k
  have hpos : 0 < k * s.length := Nat.mul_pos hk hs
  refine ⟨by rw [hl]; exact hpos, fun i h0 hi => ?_, ?_⟩
  · rw [hl] at hi
    rw [rep_get hs k i hi, rep_get hs k (i - 1) (by omega)]
    by_cases hm : i % s.length = 0
    · obtain ⟨q, hq⟩ : ∃ q, i = s.length * q := ⟨i / s.length, by have := Nat.div_add_mod i s.length; omega⟩
      have hq0 : 0 < q := by
        rcases Nat.eq_zero_or_pos q with e | e
        · subst e; omega
        · exact e
      have e : i - 1 = s.length * (q - 1) + (s.length - 1) := by
        have : s.length * q = s.length * (q - 1) + s.length := by
          rw [← Nat.mul_succ]; congr 1; omega
        omega
      have e1 : (i - 1) % s.length = s.length - 1 := by rw [e, Nat.mul_add_mod, Nat.mod_eq_of_lt (by omega)]
      have e2 : (i - 1) / s.length = q - 1 := by rw [e, Nat.mul_add_div hs, Nat.div_eq_of_lt (by omega)]; rfl
      have e3 : i / s.length = q := by rw [hq, Nat.mul_div_cancel_left _ hs]
      rw [e1, e2, e3, hm]
      have h1 := o.last
      have e4 : ((q : Nat) : Int) = ((q - 1 : Nat) : Int) + 1 := by omega
      rw [e4, Int.add_mul]
      omega
    · have hdm := Nat.div_add_mod i s.length
      have hlt := Nat.mod_lt i hs
      have e : i - 1 = s.length * (i / s.length) + (i % s.length - 1) := by omega
      have e1 : (i - 1) % s.length = i % s.length - 1 := by rw [e, Nat.mul_add_mod, Nat.mod_eq_of_lt (by omega)]
      have e2 : (i - 1) / s.length = i / s.length := by rw [e, Nat.mul_add_div hs, Nat.div_eq_of_lt (Nat.lt_of_le_of_lt (Nat.sub_le _ _) hlt)]; rfl
      rw [e1, e2]
      have h1 := o.up (i % s.length) (by omega) hlt
      omega
  · rw [hl, rep_get hs k (k * s.length - 1) (by omega), rep_get hs k 0 hpos]
    have e : k * s.length - 1 = s.length * (k - 1) + (s.length - 1) := by
      have : k * s.length = s.length * (k - 1) + s.length := by
        rw [← Nat.mul_succ, Nat.mul_comm]; congr 1; omega
      omega
    have e1 : (k * s.length - 1) % s.length = s.length - 1 := by rw [e, Nat.mul_add_mod, Nat.mod_eq_of_lt (by omega)]
    have e2 : (k * s.length - 1) / s.length = k - 1 := by rw [e, Nat.mul_add_div hs, Nat.div_eq_of_lt (by omega)]; rfl
    rw [e1, e2, Nat.zero_mod, Nat.zero_div]
    have h1 := o.last
    have e4 : r * (k : Int) = ((k - 1 : Nat) : Int) * r + r := by
      have e5 : ((k : Nat) : Int) = ((k - 1 : Nat) : Int) + 1 := by omega
      rw [e5, Int.mul_add, Int.mul_comm r ((k - 1 : Nat) : Int)]; omega
    rw [e4]
    have e6 : ((0 : Nat) : Int) * r = 0 := by simp
    rw [e6]
    omega
theorem rep_take {s : List Int} {r : Int} : ∀ {k : Nat}, 0 < k → (rep s r k).take s.length = s
  | 1, _ => by
    unfold rep rep
    simp
  | k + 2, _ => by
    unfold rep
    rw [List.take_append_of_le_length (by rw [rep_len, Nat.succ_mul]; omega)]
    exact rep_take (k := k + 1) (by omega)
theorem rep_per {s : List Int} {r : Int} {k : Nat} (hs : 0 < s.length) (hk : 0 < k) : Per (rep s r k) (r * k) s.length ∧ r * k * s.length / (rep s r k).length = r := by
  have hl : ((rep s r k).length : Int) = k * s.length := by rw [rep_len]; simp
  have hz : (k : Int) * s.length ≠ 0 := by
    have := Nat.mul_pos hk hs
    have e : (k : Int) * s.length = ((k * s.length : Nat) : Int) := by simp
    omega
  have e : r * k * s.length = r * (k * s.length) := Int.mul_assoc ..
  have e0 : r * k * s.length / (rep s r k).length = r := by rw [hl, e, Int.mul_ediv_cancel _ hz]
  refine ⟨⟨by rw [hl, e]; exact Int.mul_emod_left _ _, fun i h1 h2 => ?_⟩, e0⟩
  rw [e0]
  rw [rep_len] at h2
  rw [rep_get hs k i h2, rep_get hs k (i - s.length) (by omega)]
  have e1 : i % s.length = (i - s.length) % s.length := by rw [Nat.mod_eq_sub_mod h1]
  have e2 : i / s.length = (i - s.length) / s.length + 1 := by rw [Nat.div_eq i s.length, if_pos ⟨hs, h1⟩]
  rw [e1, e2, show (((i - s.length) / s.length + 1 : Nat) : Int) = (((i - s.length) / s.length : Nat) : Int) + 1 by omega, Int.add_mul]
  omega
theorem rep_at {s : List Int} {r : Int} {k : Nat} (hs : 0 < s.length) (hk : 0 < k) (n : Int) : at_ (rep s r k) (r * k) n = at_ s r n := by
  obtain ⟨h1, h2⟩ := rep_per (r := r) hs hk
  have h3 := at_per (s := rep s r k) (r := r * k) hs (by rw [rep_len]; exact Nat.mul_mod_left _ _) (by rw [rep_len]; exact Nat.mul_pos hk hs) h1 n
  rw [rep_take hk, h2] at h3
  exact h3.symm
/-- all values times m -/
theorem scale_ok {s : List Int} {r m : Int} (o : Ok s r) (hm : 0 ≤ m) : Ok (s.map fun x => m * x) (m * r) := by
  refine ⟨by rw [List.length_map]; exact o.pos, fun i h0 hi => ?_, ?_⟩
  · rw [List.length_map] at hi
    rw [getD_map hi, getD_map (by omega)]
    exact Int.mul_le_mul_of_nonneg_left (o.up i h0 hi) hm
  · have := o.pos
    rw [List.length_map, getD_map (by omega), getD_map this, ← Int.mul_add]
    exact Int.mul_le_mul_of_nonneg_left o.last hm
end Ln
/-! sums of lines, lines after lines -/
namespace Ln
theorem at_qi {s : List Int} {r n q i : Int} (h0 : 0 ≤ i) (h1 : i < s.length) (h : n = s.length * q + i) : at_ s r n = s.getD i.toNat 0 + q * r := by
  have := (Int.ediv_emod_unique (a := n) (b := s.length) (r := i) (q := q) (by omega)).mpr ⟨by omega, h0, h1⟩
  unfold at_
  rw [this.1, this.2]
theorem at_mono1 {s : List Int} {r : Int} (o : Ok s r) (n : Int) : at_ s r n ≤ at_ s r (n + 1) := by
  have hs := o.pos
  have h1 := Int.mul_ediv_add_emod n s.length
  have h2 := Int.emod_nonneg n (show (s.length : Int) ≠ 0 by omega)
  have h3 := Int.emod_lt_of_pos n (show (0 : Int) < s.length by omega)
  rw [at_qi (q := n / s.length) (i := n % s.length) h2 h3 h1.symm]
  by_cases hi : n % s.length + 1 < s.length
  · rw [at_qi (q := n / s.length) (i := n % s.length + 1) (by omega) hi (by omega)]
    have := o.up (n % s.length + 1).toNat (by omega) (by omega)
    have e : (n % s.length + 1).toNat - 1 = (n % s.length).toNat := by omega
    rw [e] at this
    omega
  · rw [at_qi (q := n / s.length + 1) (i := 0) (by omega) (by omega) (by rw [Int.mul_add]; omega)]
    have := o.last
    have e : (n % (s.length : Int)).toNat = s.length - 1 := by omega
    rw [e, Int.add_mul]
    have e0 : (0 : Int).toNat = 0 := rfl
    rw [e0]
    omega
theorem at_mono {s : List Int} {r : Int} (o : Ok s r) (n : Int) : ∀ k : Nat, at_ s r n ≤ at_ s r (n + k)
  | 0 => by rw [show n + ((0 : Nat) : Int) = n by omega]; exact Int.le_refl _
  | k + 1 => by
    have h1 := at_mono o n k
    have h2 := at_mono1 o (n + k)
    rw [show n + ((k + 1 : Nat) : Int) = n + k + 1 by omega]
    omega
theorem at_le {s : List Int} {r : Int} (o : Ok s r) {n m : Int} (h : n ≤ m) : at_ s r n ≤ at_ s r m := by
  have := at_mono o n (m - n).toNat
  rw [show n + ((m - n).toNat : Int) = m by omega] at this
  exact this
theorem getD_range {f : Nat → Int} {L i : Nat} (h : i < L) : ((List.range L).map f).getD i 0 = f i := by
  rw [List.getD_eq_getElem?_getD, List.getElem?_map, List.getElem?_range h]; rfl
theorem per_all {f : Int → Int} {L : Nat} {Q : Int} (h : ∀ n, f (n + L) = f n + Q) (q n : Int) : f (n + q * L) = f n + q * Q := by
  by_cases hq : 0 ≤ q
  · have := IsPer.mul h q.toNat n
    rw [show ((q.toNat : Nat) : Int) = q by omega] at this
    exact this
  · have := IsPer.mul h (-q).toNat (n + q * L)
    rw [show (((-q).toNat : Nat) : Int) = -q by omega, show n + q * (L : Int) + -q * (L : Int) = n by rw [Int.neg_mul]; omega, Int.neg_mul] at this
    omega
theorem of_fun {f : Int → Int} {L : Nat} {Q : Int} (hL : 0 < L) (per : ∀ n, f (n + L) = f n + Q) (mono : ∀ n, f n ≤ f (n + 1)) :
    Ok ((List.range L).map fun i : Nat => f i) Q ∧ ∀ n, at_ ((List.range L).map fun i : Nat => f i) Q n = f n := by
  have hl : ((List.range L).map fun i : Nat => f i).length = L := by rw [List.length_map, List.length_range]
  refine ⟨⟨by rw [hl]; exact hL, fun i h0 hi => ?_, ?_⟩, fun n => ?_⟩
  · rw [hl] at hi
    rw [getD_range hi, getD_range (by omega)]
    have := mono ((i - 1 : Nat) : Int)
    rw [show ((i - 1 : Nat) : Int) + 1 = (i : Nat) by omega] at this
    exact this
  · rw [hl, getD_range (by omega), getD_range hL]
    have h1 := mono ((L - 1 : Nat) : Int)
    have h2 := per 0
    rw [show ((L - 1 : Nat) : Int) + 1 = 0 + (L : Nat) by omega, h2] at h1
    exact h1
  · have h1 := Int.mul_ediv_add_emod n L
    have h2 := Int.emod_nonneg n (show (L : Int) ≠ 0 by omega)
    have h3 := Int.emod_lt_of_pos n (show (0 : Int) < L by omega)
    rw [at_qi (q := n / L) (i := n % L) h2 (by rw [hl]; exact h3) (by rw [hl]; exact h1.symm), getD_range (by omega)]
    have h4 := per_all per (n / L) (n % L)
    rw [show n % (L : Int) + n / (L : Int) * L = n by rw [Int.mul_comm]; omega] at h4
    rw [h4, show ((n % (L : Int)).toNat : Int) = n % L by omega]
def sumL (s1 s2 : List Int) : Nat := Nat.lcm s1.length s2.length
def sumS (s1 : List Int) (r1 : Int) (s2 : List Int) (r2 : Int) : List Int := (List.range (sumL s1 s2)).map fun i : Nat => at_ s1 r1 i + at_ s2 r2 i
def sumQ (s1 : List Int) (r1 : Int) (s2 : List Int) (r2 : Int) : Int := at_ s1 r1 (sumL s1 s2) + at_ s2 r2 (sumL s1 s2) - (at_ s1 r1 0 + at_ s2 r2 0)
def aftL (s1 s2 : List Int) (r2 : Int) : Nat := s1.length / Nat.gcd s1.length r2.natAbs * s2.length
def aftS (s1 : List Int) (r1 : Int) (s2 : List Int) (r2 : Int) : List Int := (List.range (aftL s1 s2 r2)).map fun i : Nat => at_ s1 r1 (at_ s2 r2 i)
def aftQ (s1 : List Int) (r1 : Int) (s2 : List Int) (r2 : Int) : Int := at_ s1 r1 (at_ s2 r2 (aftL s1 s2 r2)) - at_ s1 r1 (at_ s2 r2 0)
theorem at_mul {s : List Int} {r : Int} (hs : 0 < s.length) (q n : Int) : at_ s r (n + q * s.length) = at_ s r n + q * r := per_all (at_add hs) q n
theorem at_dvd {s : List Int} {r : Int} (hs : 0 < s.length) {L : Nat} (h : s.length ∣ L) (n : Int) : at_ s r (n + L) = at_ s r n + (at_ s r L - at_ s r 0) := by
  obtain ⟨k, rfl⟩ := h
  have e : ((s.length * k : Nat) : Int) = (k : Int) * s.length := by rw [Int.mul_comm]; simp
  have h1 := at_mul (r := r) hs k n
  have h2 := at_mul (r := r) hs k 0
  rw [e, h1]
  rw [show (0 : Int) + (k : Int) * s.length = (k : Int) * s.length by omega] at h2
  rw [h2]
  omega
theorem sumL_pos {s1 s2 : List Int} (h1 : 0 < s1.length) (h2 : 0 < s2.length) : 0 < sumL s1 s2 := Nat.lcm_pos h1 h2
theorem sumL_le {s1 s2 : List Int} (h1 : 0 < s1.length) (h2 : 0 < s2.length) : sumL s1 s2 ≤ s1.length * s2.length := Nat.le_of_dvd (Nat.mul_pos h1 h2) (Nat.lcm_dvd_mul _ _)
theorem sum_is {s1 : List Int} {r1 : Int} {s2 : List Int} {r2 : Int} (o1 : Ok s1 r1) (o2 : Ok s2 r2) : Ok (sumS s1 r1 s2 r2) (sumQ s1 r1 s2 r2) ∧ ∀ n, at_ (sumS s1 r1 s2 r2) (sumQ s1 r1 s2 r2) n = at_ s1 r1 n + at_ s2 r2 n := by
  refine of_fun (f := fun n => at_ s1 r1 n + at_ s2 r2 n) (sumL_pos o1.pos o2.pos) (fun n => ?_) fun n => ?_
  · have h1 := at_dvd (r := r1) o1.pos (Nat.dvd_lcm_left s1.length s2.length) n
    have h2 := at_dvd (r := r2) o2.pos (Nat.dvd_lcm_right s1.length s2.length) n
    show at_ s1 r1 (n + sumL s1 s2) + at_ s2 r2 (n + sumL s1 s2) = _
    unfold sumQ
    unfold sumL at *
    omega
  · have h1 := at_mono1 o1 n
    have h2 := at_mono1 o2 n
    show _ + _ ≤ _ + _
    omega
theorem gcd_pos {a : Nat} (h : 0 < a) (b : Nat) : 0 < Nat.gcd a b := Nat.gcd_pos_of_pos_left _ h
theorem turns_pos {a : Nat} (h : 0 < a) (b : Nat) : 0 < a / Nat.gcd a b := Nat.div_pos (Nat.le_of_dvd h (Nat.gcd_dvd_left _ _)) (gcd_pos h b)
theorem aftL_pos {s1 s2 : List Int} {r2 : Int} (h1 : 0 < s1.length) (h2 : 0 < s2.length) : 0 < aftL s1 s2 r2 := Nat.mul_pos (turns_pos h1 _) h2
theorem aftL_le {s1 s2 : List Int} {r2 : Int} : aftL s1 s2 r2 ≤ s1.length * s2.length := Nat.mul_le_mul_right _ (Nat.div_le_self _ _)
/-- after a round of the inner line, the outer one has whole rounds -/
theorem aft_turns {s1 : List Int} {r2 : Int} (h1 : 0 < s1.length) : ∃ k : Int, ((s1.length / Nat.gcd s1.length r2.natAbs : Nat) : Int) * r2 = k * s1.length := by
  have hg := gcd_pos h1 r2.natAbs
  obtain ⟨a, ha⟩ := Nat.gcd_dvd_left s1.length r2.natAbs
  obtain ⟨b, hb⟩ : ((Nat.gcd s1.length r2.natAbs : Nat) : Int) ∣ r2 := Int.dvd_natAbs.mp (Int.natCast_dvd_natCast.mpr (Nat.gcd_dvd_right _ _))
  refine ⟨b, ?_⟩
  generalize Nat.gcd s1.length r2.natAbs = g at *
  have e : s1.length / g = a := by rw [ha, Nat.mul_div_cancel_left _ hg]
  rw [e, hb, ha]
  simp only [Int.natCast_mul]
  rw [Int.mul_comm (g : Int) b, Int.mul_comm (a : Int), Int.mul_assoc]
theorem aft_is {s1 : List Int} {r1 : Int} {s2 : List Int} {r2 : Int} (o1 : Ok s1 r1) (o2 : Ok s2 r2) : Ok (aftS s1 r1 s2 r2) (aftQ s1 r1 s2 r2) ∧ ∀ n, at_ (aftS s1 r1 s2 r2) (aftQ s1 r1 s2 r2) n = at_ s1 r1 (at_ s2 r2 n) := by
  obtain ⟨k, hk⟩ := aft_turns (r2 := r2) o1.pos
  have key : ∀ n, at_ s1 r1 (at_ s2 r2 (n + aftL s1 s2 r2)) = at_ s1 r1 (at_ s2 r2 n) + k * r1 := fun n => by
    have e : ((aftL s1 s2 r2 : Nat) : Int) = ((s1.length / Nat.gcd s1.length r2.natAbs : Nat) : Int) * s2.length := by unfold aftL; simp
    rw [e, at_mul o2.pos, hk, at_mul o1.pos]
  have hq : aftQ s1 r1 s2 r2 = k * r1 := by
    have := key 0
    unfold aftQ
    rw [show (0 : Int) + ((aftL s1 s2 r2 : Nat) : Int) = ((aftL s1 s2 r2 : Nat) : Int) by omega] at this
    omega
  rw [hq]
  refine of_fun (f := fun n => at_ s1 r1 (at_ s2 r2 n)) (aftL_pos o1.pos o2.pos) key fun n => ?_
  exact at_le o1 (at_mono1 o2 n)
/-! bounds -/
structure Bd (s : List Int) (r : Int) (l m : Nat) : Prop where
  len : s.length ≤ l
  r : r.natAbs < 2 ^ m
  el : ∀ i, (s.getD i 0).natAbs < 2 ^ m
theorem div_le_abs {a r : Int} (hr : 0 < r) : (a / r).natAbs ≤ a.natAbs := by
  by_cases h : 0 ≤ a
  · have h1 := Int.ediv_nonneg h (show 0 ≤ r by omega)
    have h2 := Int.ediv_le_self r h
    omega
  · have h1 : a ≤ a / r := by
      refine Int.le_ediv_of_mul_le hr ?_
      have h3 := Int.mul_nonneg (show 0 ≤ -a by omega) (show 0 ≤ r - 1 by omega)
      rw [Int.neg_mul, Int.mul_sub] at h3
      omega
    have h2 : a / r < 0 := Int.ediv_neg_of_neg_of_pos (by omega) hr
    omega
theorem Bd.at_ {s : List Int} {r : Int} {l m : Nat} (b : Bd s r l m) (hs : 0 < s.length) {n : Int} {j : Nat} (hn : n.natAbs < 2 ^ j) : (at_ s r n).natAbs < 2 ^ (m + j + 1) := by
  have h1 := b.el (n % s.length).toNat
  have h2 : (n / (s.length : Int) * r).natAbs < 2 ^ j * 2 ^ m := by
    rw [Int.natAbs_mul]
    exact Nat.mul_lt_mul'' (Nat.lt_of_le_of_lt (div_le_abs (by omega)) hn) b.r
  have h3 := Int.natAbs_add_le (s.getD (n % s.length).toNat 0) (n / (s.length : Int) * r)
  have e1 : (2 : Nat) ^ (m + j + 1) = 2 ^ m * 2 ^ j + 2 ^ m * 2 ^ j := by rw [Nat.pow_succ, Nat.pow_add]; omega
  have e2 : 2 ^ m ≤ 2 ^ m * 2 ^ j := Nat.le_mul_of_pos_right _ (Nat.pow_pos (by decide))
  have e3 : 2 ^ j * 2 ^ m = 2 ^ m * 2 ^ j := Nat.mul_comm _ _
  unfold Ln.at_
  omega
theorem Bd.mono {s : List Int} {r : Int} {l m l' m' : Nat} (b : Bd s r l m) (hl : l ≤ l') (hm : m ≤ m') : Bd s r l' m' := by
  have := Nat.pow_le_pow_right (show 2 > 0 by decide) hm
  exact ⟨Nat.le_trans b.len hl, Nat.lt_of_lt_of_le b.r this, fun i => Nat.lt_of_lt_of_le (b.el i) this⟩
theorem el_range {f : Nat → Int} {L : Nat} {m : Nat} (h : ∀ i, i < L → (f i).natAbs < 2 ^ m) (i : Nat) : (((List.range L).map f).getD i 0).natAbs < 2 ^ m := by
  by_cases hi : i < L
  · rw [getD_range hi]; exact h i hi
  · rw [List.getD_eq_getElem?_getD, List.getElem?_eq_none (by rw [List.length_map, List.length_range]; omega)]
    exact Nat.pow_pos (by decide)
theorem sum_bd {s1 : List Int} {r1 : Int} {s2 : List Int} {r2 : Int} {l1 l2 m : Nat} (o1 : Ok s1 r1) (o2 : Ok s2 r2) (b1 : Bd s1 r1 l1 m) (b2 : Bd s2 r2 l2 m) (hl : l1 * l2 < 2 ^ 10) :
    Bd (sumS s1 r1 s2 r2) (sumQ s1 r1 s2 r2) (l1 * l2) (m + 13) := by
  have hL : sumL s1 s2 ≤ l1 * l2 := Nat.le_trans (sumL_le o1.pos o2.pos) (Nat.mul_le_mul b1.len b2.len)
  have A : ∀ i : Nat, i ≤ sumL s1 s2 → (at_ s1 r1 i + at_ s2 r2 i).natAbs < 2 ^ (m + 12) := fun i hi => by
    have h1 := b1.at_ o1.pos (n := (i : Int)) (j := 10) (by omega)
    have h2 := b2.at_ o2.pos (n := (i : Int)) (j := 10) (by omega)
    have e : (2 : Nat) ^ (m + 12) = 2 ^ (m + 10 + 1) + 2 ^ (m + 10 + 1) := by rw [show m + 12 = m + 10 + 1 + 1 by omega, Nat.pow_succ 2 (m + 10 + 1)]; omega
    rw [e]
    generalize (2 : Nat) ^ (m + 10 + 1) = z at *
    omega
  have e13 : (2 : Nat) ^ (m + 13) = 2 ^ (m + 12) + 2 ^ (m + 12) := by rw [show m + 13 = m + 12 + 1 by omega, Nat.pow_succ]; omega
  refine ⟨by unfold sumS; rw [List.length_map, List.length_range]; exact hL, ?_, el_range fun i hi => ?_⟩
  · have h1 := A (sumL s1 s2) (Nat.le_refl _)
    have h2 := A 0 (Nat.zero_le _)
    rw [show ((0 : Nat) : Int) = 0 from rfl] at h2
    unfold sumQ
    omega
  · have := A i (Nat.le_of_lt hi)
    omega
theorem aft_bd {s1 : List Int} {r1 : Int} {s2 : List Int} {r2 : Int} {l1 l2 m1 m2 : Nat} (o1 : Ok s1 r1) (o2 : Ok s2 r2) (b1 : Bd s1 r1 l1 m1) (b2 : Bd s2 r2 l2 m2) (hl : l1 * l2 < 2 ^ 10) :
    Bd (aftS s1 r1 s2 r2) (aftQ s1 r1 s2 r2) (l1 * l2) (m1 + m2 + 13) := by
  have hL : aftL s1 s2 r2 ≤ l1 * l2 := Nat.le_trans aftL_le (Nat.mul_le_mul b1.len b2.len)
  have A : ∀ i : Nat, i ≤ aftL s1 s2 r2 → (at_ s1 r1 (at_ s2 r2 i)).natAbs < 2 ^ (m1 + m2 + 12) := fun i hi => by
    have h2 := b2.at_ o2.pos (n := (i : Int)) (j := 10) (by omega)
    have h1 := b1.at_ o1.pos h2
    rw [show m1 + (m2 + 10 + 1) + 1 = m1 + m2 + 12 by omega] at h1
    exact h1
  have e13 : (2 : Nat) ^ (m1 + m2 + 13) = 2 ^ (m1 + m2 + 12) + 2 ^ (m1 + m2 + 12) := by rw [show m1 + m2 + 13 = m1 + m2 + 12 + 1 by omega, Nat.pow_succ]; omega
  refine ⟨by unfold aftS; rw [List.length_map, List.length_range]; exact hL, ?_, el_range fun i hi => ?_⟩
  · have h1 := A (aftL s1 s2 r2) (Nat.le_refl _)
    have h2 := A 0 (Nat.zero_le _)
    rw [show ((0 : Nat) : Int) = 0 from rfl] at h2
    unfold aftQ
    omega
  · have := A i (Nat.le_of_lt hi)
    omega
/-! lines in least form -/
theorem Lp.mul {s : List Int} {r : Int} {p : Nat} (h : Lp s r p) : ∃ k : Nat, 0 < k ∧ s.length = p * k ∧ r = k * (r * p / s.length) := by
  obtain ⟨k, hk⟩ : ∃ k, s.length = p * k := ⟨s.length / p, by have := Nat.div_add_mod s.length p; have := h.dv; omega⟩
  refine ⟨k, ?_, hk, per_part h.pos hk h.per.1⟩
  rcases Nat.eq_zero_or_pos k with e | e
  · subst e; have := h.pos; have := h.le; omega
  · exact e
theorem Lp.take {s : List Int} {r : Int} {p : Nat} (h : Lp s r p) : (s.take p).length = p ∧ Lp (s.take p) (r * p / s.length) p := by
  have hs : 0 < s.length := Nat.lt_of_lt_of_le h.pos h.le
  have hl : (s.take p).length = p := by rw [List.length_take]; have := h.le; omega
  have ef : at_ (s.take p) (r * p / s.length) = at_ s r := funext (at_per h.pos h.dv hs h.per)
  refine ⟨hl, h.pos, by omega, by rw [hl]; exact Nat.mod_self _, ⟨by rw [hl]; exact Int.mul_emod_left _ _, fun i h1 h2 => by omega⟩, fun q q0 q1 q2 q3 => ?_⟩
  rw [hl] at q2
  have i1 := isPer_of (s := s.take p) q0 (by rw [hl]; exact q2) (by rw [hl]; exact h.pos) q3
  rw [ef] at i1
  have d1 : q ∣ s.length := Nat.dvd_trans (Nat.dvd_of_mod_eq_zero q2) (Nat.dvd_of_mod_eq_zero h.dv)
  exact h.least q q0 q1 (Nat.mod_eq_zero_of_dvd d1) (per_of q0 (Nat.mod_eq_zero_of_dvd d1) hs i1)
theorem Lp.bd {s : List Int} {r : Int} {p l m : Nat} (h : Lp s r p) (b : Bd s r l m) : Bd (s.take p) (r * p / s.length) l m := by
  refine ⟨by rw [List.length_take]; have := b.len; omega, ?_, fun i => ?_⟩
  · obtain ⟨k, hk, _, h⟩ := h.mul
    have h2 := b.r
    generalize r * p / (s.length : Int) = q at h
    have h3 : r.natAbs = k * q.natAbs := by rw [h, Int.natAbs_mul]; simp
    have := Nat.le_mul_of_pos_left q.natAbs hk
    omega
  · rw [List.getD_eq_getElem?_getD, List.getElem?_take]
    split
    · have := b.el i; rw [List.getD_eq_getElem?_getD] at this; exact this
    · exact Nat.pow_pos (by decide)
/-- s, r tell f by its least period -/
structure Fm (f : Int → Int) (l m : Nat) (s : List Int) (r : Int) : Prop where
  ok : Ok s r
  lp : Lp s r s.length
  at_ : ∀ n, at_ s r n = f n
  bd : Bd s r l m
theorem fm_of {s : List Int} {r : Int} {p l m : Nat} {f : Int → Int} (o : Ok s r) (b : Bd s r l m) (lp : Lp s r p) (h : ∀ n, Ln.at_ s r n = f n) : Fm f l m (s.take p) (r * p / s.length) where
  ok := ok_take o lp.pos lp.dv lp.per
  lp := by rw [lp.take.1]; exact lp.take.2
  at_ n := by rw [at_per lp.pos lp.dv o.pos lp.per n]; exact h n
  bd := lp.bd b
theorem fm_uniq {f g : Int → Int} {l m l' m' : Nat} {s s' : List Int} {r r' : Int} (h : Fm f l m s r) (h' : Fm g l' m' s' r') (e : ∀ n, f n = g n) : s = s' ∧ r = r' := by
  obtain ⟨e1, e2, e3⟩ := h.lp.uniq h'.lp fun n => by rw [h.at_, h'.at_]; exact e n
  rw [List.take_length, List.take_length] at e2
  have z : (s.length : Int) ≠ 0 := by have := h.ok.pos; omega
  have z' : (s'.length : Int) ≠ 0 := by have := h'.ok.pos; omega
  rw [Int.mul_ediv_cancel _ z, Int.mul_ediv_cancel _ z'] at e3
  exact ⟨e2, e3⟩
theorem take_self {s : List Int} {r : Int} (hs : 0 < s.length) : s.take s.length = s ∧ r * s.length / s.length = r :=
  ⟨List.take_length, Int.mul_ediv_cancel _ (by omega)⟩
end Ln
/-! list(range(..)), comprehensions of numbers -/
namespace Gm
open PySem L2
section
variable {w : Wd} {Γ : Env} {S : List Own} {k : KE} {ta tb te : TE}
def rgD (i j : Int) : List D := (List.range (j - i).toNat).map fun n : Nat => D.int (i + n)
theorem rgD_den {K : PySem.W.Frag} {R : Hp} (i : Int) : ∀ ns : List Nat, Dens K R (ns.map fun n : Nat => V.int (i + n)) (ns.map fun n : Nat => D.int (i + n))
  | [] => .nil
  | n :: ns => .cons (.int _) (rgD_den i ns)
theorem le_listRg2 (h : LE w ta Γ S fun x S1 => LE w tb Γ S1 fun y S2 => ∃ i j, x = .d (.int i) ∧ y = .d (.int j) ∧ RgOk i j ∧ k (.d (.lst (rgD i j))) S2) : LE w (tLstRg (tRg2 ta tb)) Γ S k := fun σ R H as Q rl s c => by
  refine h σ R H as _ rl s fun u x S1 R1 H1 as1 rl1 s1 p1 e1 h1 => h1 σ R1 H1 as1 _ rl1 (s.mono s1 p1) fun v y S2 R2 H2 as2 rl2 s2 p2 e2 ⟨i, j, hx, hy, ho, hk⟩ => ?_
  subst hx hy
  cases e1
  cases e2
  refine ⟨i, j, rfl, rfl, ho, fun q hq => ?_⟩
  obtain ⟨rl3, s3⟩ := rl2.alloc hq (.lst (rgV i j))
  exact c _ _ S2 _ _ as2 rl3 (s1.trans (s2.trans s3)) (p1.trans p2) (ok_d (Den.lst upd_same (rgD_den i _))) hk
theorem le_listRg1 (h : LE w ta Γ S fun x S1 => ∃ j, x = .d (.int j) ∧ RgOk 0 j ∧ k (.d (.lst (rgD 0 j))) S1) : LE w (tLstRg (tRg1 ta)) Γ S k := fun σ R H as Q rl s c => by
  refine h σ R H as _ rl s fun u x S1 R1 H1 as1 rl1 s1 p1 e1 ⟨j, hx, ho, hk⟩ => ?_
  subst hx
  cases e1
  refine ⟨j, rfl, ho, fun q hq => ?_⟩
  obtain ⟨rl3, s3⟩ := rl1.alloc hq (.lst (rgV 0 j))
  exact c _ _ S1 _ _ as1 rl3 (s1.trans s3) p1 (ok_d (Den.lst upd_same (rgD_den 0 _))) hk
theorem lt_mono {t : TT} {kb kb' : Bool → List Own → Prop} (h : LT w t Γ S kb) (q : ∀ b S', kb b S' → kb' b S') : LT w t Γ S kb' := fun σ R H as Q rl s c =>
  h σ R H as Q rl s fun b S' R' H' as' a1 a2 a3 a4 => c b S' R' H' as' a1 a2 a3 (q b S' a4)
/-- one turn of a comprehension that keeps all, of data -/
def LcD (w : Wd) (Γ : Env) (v : Nat) (tt : TT) (te : TE) (x : D) (S : List Own) (y : D) : Prop :=
  LT w tt (Γ.set v (some (.d x))) S fun b S3 => b = true ∧ LE w te (Γ.set v (some (.d x))) S3 fun e S4 => e = .d y ∧ S4 = S
theorem lcd_turn {v : Nat} {tt : TT} {x y : D} {acc : List D} {N : List D → List Own → Prop} (h : LcD w Γ v tt te x (S ++ [.lst acc]) y) (ha : acc.length < sizeLine) (hn : N (acc ++ [y]) S) : LcT w Γ v tt te x acc S N :=
  lt_mono h fun b S3 ⟨h1, h2⟩ => ⟨fun _ => le_mono h2 fun e S4 ⟨h3, h4⟩ => ⟨y, S, h3, h4, rfl, ha, hn⟩, fun hb => by rw [h1] at hb; cases hb⟩
theorem lcd_yes {v : Nat} {x y : D} (h : LE w te (Γ.set v (some (.d x))) S fun e S4 => e = .d y ∧ S4 = S) : LcD w Γ v tYes te x S y := fun σ R H as Q rl s c =>
  c true S R H as rl (Sub.refl _) (Pre.refl _) ⟨rfl, h⟩
theorem le_lcRD {wi : TI} {v : Nat} {tt : TT} {F : Nat → D} (h : LR w wi Γ S fun lo n S1 => n ≤ sizeLine ∧ (∀ i acc, i < n → LcD w Γ v tt te (.int (lo + i)) (S1 ++ [.lst acc]) (F i)) ∧ k (.d (.lst ((List.range n).map F))) S1) : LE w (tLc wi (gName v) tt te [v]) Γ S k := by
  refine le_lcR (fun σ R H as Q rl s c => h σ R H as Q rl s fun lo n S1 R1 H1 as1 a1 a2 a3 ⟨h1, h2, h3⟩ => c lo n S1 R1 H1 as1 a1 a2 a3 ?_)
  refine ⟨fun i acc S2 => S2 = S1 ∧ acc = (List.range i).map F, ⟨rfl, rfl⟩, ?_, ?_⟩
  · rintro i acc _ hi _ ⟨rfl, rfl⟩
    refine lcd_turn (h2 i _ hi) (by rw [List.length_map, List.length_range]; omega) ⟨rfl, ?_⟩
    rw [List.range_succ, List.map_append]; rfl
  · rintro acc _ ⟨rfl, rfl⟩
    exact h3
theorem le_lcLD {tl : TE} {v : Nat} {tt : TT} {F : D → D} (h : LE w tl Γ S fun e S1 => ∃ ds, e = .d (.lst ds) ∧ ds.length ≤ sizeLine ∧ (∀ d acc, d ∈ ds → LcD w Γ v tt te d (S1 ++ [.lst acc]) (F d)) ∧ k (.d (.lst (ds.map F))) S1) : LE w (tLc (iList w.K tl) (gName v) tt te [v]) Γ S k := by
  refine le_lcL (le_mono h fun e S1 ⟨ds, h1, h2, h3, h4⟩ => ⟨ds, h1, fun i acc S2 => S2 = S1 ∧ acc = (ds.take i).map F, ⟨rfl, rfl⟩, ?_, ?_⟩)
  · rintro i d acc _ hd _ ⟨rfl, rfl⟩
    obtain ⟨hi, he⟩ := List.getElem?_eq_some_iff.mp hd
    refine lcd_turn (h3 d _ (List.mem_of_getElem? hd)) (by rw [List.length_map, List.length_take]; omega) ⟨rfl, ?_⟩
    rw [List.take_succ_eq_append_getElem hi, List.map_append, he]; rfl
  · rintro acc _ ⟨rfl, rfl⟩
    rw [List.take_length]
    exact h4
/-- of numbers -/
theorem le_lcRI {wi : TI} {v : Nat} {tt : TT} (F : Nat → Int) (h : LR w wi Γ S fun lo n S1 => n ≤ sizeLine ∧ (∀ i acc, i < n → LcD w Γ v tt te (.int (lo + i)) (S1 ++ [.lst acc]) (.int (F i))) ∧ k (.d (.lst (((List.range n).map F).map D.int))) S1) : LE w (tLc wi (gName v) tt te [v]) Γ S k := by
  refine le_lcRD (F := fun i => .int (F i)) (fun σ R H as Q rl s c => h σ R H as Q rl s fun lo n S1 R1 H1 as1 a1 a2 a3 ⟨h1, h2, h3⟩ => c lo n S1 R1 H1 as1 a1 a2 a3 ⟨h1, h2, ?_⟩)
  rw [List.map_map] at h3
  exact h3
theorem le_lcLI {tl : TE} {v : Nat} {tt : TT} (f : Int → Int) (h : LE w tl Γ S fun e S1 => ∃ xs : List Int, e = .d (.lst (xs.map D.int)) ∧ xs.length ≤ sizeLine ∧ (∀ x acc, x ∈ xs → LcD w Γ v tt te (.int x) (S1 ++ [.lst acc]) (.int (f x))) ∧ k (.d (.lst ((xs.map f).map D.int))) S1) : LE w (tLc (iList w.K tl) (gName v) tt te [v]) Γ S k := by
  refine le_lcLD (F := fun d => match d with | .int x => .int (f x) | _ => .non) (le_mono h fun e S1 ⟨xs, h1, h2, h3, h4⟩ => ⟨xs.map D.int, h1, by rw [List.length_map]; exact h2, fun d acc hd => ?_, ?_⟩)
  · obtain ⟨x, hx, rfl⟩ := List.mem_map.mp hd
    exact h3 x acc hx
  · rw [List.map_map] at h4 ⊢
    exact h4
theorem rgD_ints (i j : Int) : rgD i j = ((List.range (j - i).toNat).map fun n : Nat => i + (n : Int)).map D.int := by unfold rgD; rw [List.map_map]; rfl
end
/-! walks whose turns are alike -/
section
variable {w : Wd} {Γ : Env} {S : List Own} {G : GE} {t1 : TS}
theorem ls_forP {tl : TE} {g : TG} (Pd : D → Prop) (I : Env → List Own → Prop) (h : LE w tl Γ S fun e S1 => ∃ ds, e = .d (.lst ds) ∧ (∀ d ∈ ds, Pd d) ∧ I Γ S1)
    (hs : ∀ d Γ1 S2, Pd d → I Γ1 S2 → LG w g (.d d) Γ1 S2 fun Γ2 S3 => LS w t1 Γ2 S3 { G with nx := I, ct := I, bk := G.nx }) (hE : ∀ Γ1 S2, I Γ1 S2 → G.nx Γ1 S2) : LS w (tFor (iList w.K tl) g t1) Γ S G :=
  ls_forL (le_mono h fun e S1 ⟨ds, h1, h2, h3⟩ => ⟨ds, h1, fun _ => I, h3, fun i d Γ1 S2 hd hI => hs d Γ1 S2 (h2 d (List.mem_of_getElem? hd)) hI, hE⟩)
theorem ls_forTP {tl : TE} {g : TG} (Pd : D → Prop) (I : Env → List Own → Prop) (h : LE w tl Γ S fun e S1 => ∃ ds, e = .d (.tup ds) ∧ (∀ d ∈ ds, Pd d) ∧ I Γ S1)
    (hs : ∀ d Γ1 S2, Pd d → I Γ1 S2 → LG w g (.d d) Γ1 S2 fun Γ2 S3 => LS w t1 Γ2 S3 { G with nx := I, ct := I, bk := G.nx }) (hE : ∀ Γ1 S2, I Γ1 S2 → G.nx Γ1 S2) : LS w (tFor (iTup w.K tl) g t1) Γ S G :=
  ls_forT (le_mono h fun e S1 ⟨ds, h1, h2, h3⟩ => ⟨ds, h1, fun _ => I, h3, fun i d Γ1 S2 hd hI => hs d Γ1 S2 (h2 d (List.mem_of_getElem? hd)) hI, hE⟩)
end
/-! the rules of calls inside a comprehension's block -/
section
variable {X : Cx} {P : Program} {w0 : World} {K : PySem.W.Frag} {mg : Str → Option Value} {base : Heap} {CX : CXT} {k n : Nat} {C : Addr} {x m : Str} {ds : DS} {E : XK} {p pos apos : Pos} {o e : Expr} {es : List Expr} {kws : List Keyword} {ta te : TE} {t tk : TA} {pl : Sem Bool}
theorem pe_mdB (d : Mt P w0 K mg base CX k C m ds) (hr : Room k X.A) (hx : Passes CX X E) (he : PE X o ta) (ha : PA X (e :: es) t)
    (hst : starEach (e :: es) X.env = (false, eval e X.env) :: starEach es X.env := by rfl) (hpl : (backTo pos (starEach es X.env)).any (·.1) = false := by rfl)
    (ht : eval (.Call (.Attribute o m apos) (e :: es) [] pos) X.env = (do
      let ov ← eval o X.env
      standAt apos.atName
      let (f, first) ← holding [ov] (getMethod ov m pl)
      callWith pos f first (backTo pos (starEach (e :: es) X.env)) (backToKw pos (keywordEach [] X.env))) := by rfl) (hP : X.prog = P := by rfl) (hW : X.w = w0 := by rfl) (hK : X.K = K := by rfl) (hM : X.mg = mg := by rfl) (hB : X.base = base := by rfl) : PE X (.Call (.Attribute o m apos) (e :: es) [] pos) (tMeth C m (spD K ds) [] E ta t) := by
  subst hP hW hK hM hB
  exact pe_md d hr hx he ha hst hpl ht
theorem pe_md0B (d : Mt P w0 K mg base CX k C m ds) (hr : Room k X.A) (hx : Passes CX X E) (he : PE X o ta)
    (ht : eval (.Call (.Attribute o m apos) [] [] pos) X.env = (do
      let ov ← eval o X.env
      standAt apos.atName
      let (f, first) ← holding [ov] (getMethod ov m pl)
      callWith pos f first (backTo pos (starEach [] X.env)) (backToKw pos (keywordEach [] X.env))) := by rfl) (hP : X.prog = P := by rfl) (hW : X.w = w0 := by rfl) (hK : X.K = K := by rfl) (hM : X.mg = mg := by rfl) (hB : X.base = base := by rfl) : PE X (.Call (.Attribute o m apos) [] [] pos) (tMeth C m (spD K ds) [] E ta tNil) := by
  subst hP hW hK hM hB
  exact pe_md0 d hr hx he ht
theorem pe_mkB (d : Ct P w0 K mg base CX k x C ds) (hr : Room (k + 1) X.A) (hx : Passes CX X E) (ha : PA X (e :: es) t) (hg : Gl X x := by rfl) (hdb : (x == ("__debug__" : Str)) = false := by decide)
    (he : starEach (e :: es) X.env = (false, eval e X.env) :: starEach es X.env := by rfl) (hpl : (backTo pos (starEach es X.env)).any (·.1) = false := by rfl) (hP : X.prog = P := by rfl) (hW : X.w = w0 := by rfl) (hK : X.K = K := by rfl) (hM : X.mg = mg := by rfl) (hB : X.base = base := by rfl) : PE X (.Call (.Name x p) (e :: es) [] pos) (tMake C (spD K ds) [] E t) := by
  subst hP hW hK hM hB
  exact pe_mk d hr hx ha hg hdb he hpl
theorem pe_prB (d : Pr P w0 K mg base CX k C m ds) (hr : Room (k + 1) X.A) (hx : Passes CX X.nox E) (he : PE X o ta) (hab : attributeBase o m X.env (eval o X.env) = eval o X.env := by rfl) (hP : X.prog = P := by rfl) (hW : X.w = w0 := by rfl) (hK : X.K = K := by rfl) (hM : X.mg = mg := by rfl) (hB : X.base = base := by rfl) : PE X (.Attribute o m pos) (tProp C (spD K ds) [] E ta) := by
  subst hP hW hK hM hB
  exact pe_pr d hr hx he hab
theorem pe_dfB (d : Df P w0 K mg base CX k x n ds) (hr : Room k X.A) (hx : Passes CX X E) (ha : PA X (e :: es) t) (hg : Gl X x := by rfl) (hdb : (x == ("__debug__" : Str)) = false := by decide)
    (he : starEach (e :: es) X.env = (false, eval e X.env) :: starEach es X.env := by rfl) (hpl : (backTo pos (starEach es X.env)).any (·.1) = false := by rfl) (hP : X.prog = P := by rfl) (hW : X.w = w0 := by rfl) (hK : X.K = K := by rfl) (hM : X.mg = mg := by rfl) (hB : X.base = base := by rfl) : PE X (.Call (.Name x p) (e :: es) [] pos) (tCall (spD K ds) [] E t) := by
  subst hP hW hK hM hB
  exact pe_df d hr hx ha hg hdb he hpl
theorem o_lenB (d : Sm P w0 K mg base CX k C "__len__" ds) (hr : Room (k + 1) X.A) (hx : Passes CX X E) (hm : X.mg "len" = none) (he : PE X e te) (hg : Gl X "len" := by rfl) (hs : starEach [e] X.env = (false, eval e X.env) :: starEach [] X.env := by rfl) (hP : X.prog = P := by rfl) (hW : X.w = w0 := by rfl) (hK : X.K = K := by rfl) (hM : X.mg = mg := by rfl) (hB : X.base = base := by rfl) : PE X (.Call (.Name "len" p) [e] [] pos) (tCB (gLenO C (spD K ds) E) (tCons te tNil)) := by
  subst hP hW hK hM hB
  exact o_len d hr hx hm he hg hs
theorem o_eqB (d : Sm P w0 K mg base CX k C "__eq__" ds) (hr : Room k X.A) (hx : Passes CX X E) (hP : X.prog = P := by rfl) (hW : X.w = w0 := by rfl) (hK : X.K = K := by rfl) (hM : X.mg = mg := by rfl) (hB : X.base = base := by rfl) : OpR X (compareOp .Eq) (rEqO K C (spD K ds) E) := by
  subst hP hW hK hM hB
  exact o_eq d hr hx
theorem o_addB (d : Sm P w0 K mg base CX k C "__add__" ds) (hc : PySem.W.selfFirst K C = true) (hr : Room k X.A) (hx : Passes CX X E) (hP : X.prog = P := by rfl) (hW : X.w = w0 := by rfl) (hK : X.K = K := by rfl) (hM : X.mg = mg := by rfl) (hB : X.base = base := by rfl) : OpR X (binaryOp .Add) (rAddO C (spD K ds) E) := by
  subst hP hW hK hM hB
  exact o_add d hc hr hx
theorem ix_listB (K : PySem.W.Frag) (hK : X.K = K := by rfl) : IxR X (rIxL K) := by subst hK; exact ix_list
theorem ix_tupB (K : PySem.W.Frag) (hK : X.K = K := by rfl) : IxR X (rIxT K) := by subst hK; exact ix_tup
theorem b_lenB (K : PySem.W.Frag) (hm : X.mg "len" = none) (he : PE X e te) (hg : Gl X "len" := by rfl) (hs : starEach [e] X.env = (false, eval e X.env) :: starEach [] X.env := by rfl) (hK : X.K = K := by rfl) : PE X (.Call (.Name "len" p) [e] [] pos) (tCB (gLen K) (tCons te tNil)) := by
  subst hK; exact b_len hm he hg hs
end
/-! lists, of data or of the store -/
section
variable {w : Wd} {Γ : Env} {S : List Own} {k : KE} {x : Ent} {ds : List D} {E : XK}
theorem rc_lenG (hx : IsLst x S ds) (q : k (.d (.int ds.length)) S) : RC w (gLen w.K) [x] S k := by
  rcases hx with rfl | ⟨i, rfl, hi⟩
  · exact rc_len (n := ds.length) rfl q
  · exact rc_lenO hi q
theorem rr_ixG {i : Int} {d : D} (hx : IsLst x S ds) (h : atI ds i = some d) (q : k (.d d) S) : RR w (rIxL w.K) x (.d (.int i)) S k := by
  rcases hx with rfl | ⟨j, rfl, hi⟩
  · exact rr_ixL h q
  · exact rr_ixO hi h q
theorem rc_lenZ {s : List Int} (hx : IsLst x S (s.map D.int)) (q : k (.d (.int s.length)) S) : RC w (gLen w.K) [x] S k := rc_lenG hx (by rw [List.length_map]; exact q)
/-- list(xs), as data -/
theorem rc_listOD {i : Nat} (hi : S[i]? = some (.lst ds)) (q : k (.d (.lst ds)) S) : RC w (gList w.K) [.own i] S k := fun R H as us Q rl hu c => by
  refine rc_listNO (k := fun e S' => e = .own S.length ∧ S' = S ++ [.lst ds]) hi ⟨rfl, rfl⟩ R H as us Q rl hu ?_
  rintro v e S' R' H' as' rl' s' p' ok ⟨rfl, rfl⟩
  obtain ⟨a, ha, rfl⟩ := ok
  have hg : (S ++ [Own.lst ds])[S.length]? = some (.lst ds) := List.getElem?_concat_length
  obtain ⟨⟨z, vs, c1, c2⟩, _⟩ := rl'.reg _ _ _ hg ha (by intro z; cases z)
  obtain ⟨rl2, s2⟩ := rl'.freeze hg ha (by intro z; cases z) c1
  have es : (S ++ [Own.lst ds]).set S.length .gone = S ++ [.gone] := by
    rw [List.set_append_right _ _ (Nat.le_refl _), Nat.sub_self]; rfl
  rw [es] at rl2
  refine c (.ref a) (.d (.lst ds)) S _ _ _ (rl2.pop rl.as0_le) (s'.trans s2) (fun i b hb => ?_) (.lst upd_same (c2.mono s2)) q
  have hil := (List.getElem?_eq_some_iff.mp hb).1
  rw [rl.len] at hil
  rw [List.getElem?_take, if_pos (by omega)]
  exact p' i b hb
/-- a def that is handed a list, of data or of the store, and only reads it -/
theorem rs_lst {α : Type} {pre : α → List Ent → List Own → Prop} {post : α → Ent → List Own → Prop} {es : List Ent} (hx : IsLst x S ds) (a : Ent → List Own → α) (hpre : ∀ x' S0, IsLst x' S0 ds → pre (a x' S0) (x' :: es) S0)
    (h : ∀ x' S0 e S', post (a x' S0) e S' → ∃ d, S' = S0 ∧ e = .d d ∧ k (.d d) S) (hw : es.all (Ent.wf 0) = true := by rfl) : RS w (Gm.ds pre post) E (x :: es) S k := by
  rcases hx with rfl | ⟨i, rfl, hi⟩
  · exact r0 (a (.d (.lst ds)) []) (hpre _ _ (.inl rfl)) (fun e S' q => by obtain ⟨d, q1, q2, q3⟩ := h _ _ e S' q; exact ⟨d, q1, q2, q3⟩) (by simpa [Ent.wf] using hw)
  · have hw1 : ∀ es : List Ent, es.all (Ent.wf 0) = true → es = es.map (Ent.ren [i]) ∧ es.all (Ent.wf 1) = true := by
      intro es
      induction es with
      | nil => intro _; exact ⟨rfl, rfl⟩
      | cons e es ih =>
        intro q
        have q' : Ent.wf 0 e = true ∧ es.all (Ent.wf 0) = true := by simpa using q
        cases e with
        | d y => exact ⟨by show _ = Ent.d y :: _; rw [← (ih q'.2).1], by simpa [Ent.wf] using (ih q'.2).2⟩
        | own j => simp [Ent.wf] at q'
        | tup es => simp [Ent.wf] at q'
    refine rs_call (ex0 (w := w) (E := E)) [i] (Pick.one hi (by intro z; cases z)) (es' := .own 0 :: es) (by show _ = Ent.own i :: _; rw [← (hw1 es hw).1]) (by simpa [Ent.wf] using (hw1 es hw).2) ⟨a (.own 0) [.lst ds], hpre _ _ (.inr ⟨0, rfl, rfl⟩), fun e S' q => ?_⟩
    obtain ⟨d, rfl, rfl, q3⟩ := h _ _ e S' q
    refine ⟨[.lst ds], [], rfl, rfl, by simp, ?_⟩
    show k (.d d) (S.set i (.lst ds) ++ [])
    rw [List.append_nil]
    have e : S.set i (.lst ds) = S := by
      obtain ⟨hl, he⟩ := List.getElem?_eq_some_iff.mp hi
      rw [← he, List.set_getElem_self]
    rw [e]; exact q3
/-- a new thing of the store, then its __init__ -/
theorem le_makeR {C : Addr} {t : TA} {f : DS} (h : LA w t Γ S fun es S1 => RS w f E (.own S1.length :: es) (S1 ++ [.ins C []]) fun e S' => e = .d .non ∧ ∃ gs, S' = S1 ++ [.ins C gs] ∧ k (.d (.obj C gs)) S1) : LE w (tMake C (spD w.K f) [] E t) Γ S k := fun σ R H as Q rl s c => by
  refine h σ R H as _ rl s fun vs es S1 R1 H1 as1 rl1 s1 p1 e1 h1 => ?_
  intro xa dx hx hd hne
  rw [List.append_nil]
  obtain ⟨rl2, s2⟩ := rl1.alloc hd (.own xa)
  have hx2 : (upd H1 dx (.own xa)) xa = none := by rw [upd_ne (fun z => hne z.symm)]; exact hx
  have rl3 : Rel w (upd R1 dx (.own xa)) (upd (upd H1 dx (.own xa)) xa (.ins C dx [])) (as1 ++ [xa]) (S1 ++ [.ins C []]) := rl2.allocO hx2 _ ⟨(rl2.fresh hx2).1, dx, [], upd_same, .nil⟩
  have hxa : (as1 ++ [xa])[S1.length]? = some xa := by rw [← rl1.len]; exact List.getElem?_concat_length
  refine h1 _ _ (as1 ++ [xa]) (.ref xa :: vs) _ rl3 ⟨⟨xa, hxa, rfl⟩, e1.mono s2 (Pre.app _ _)⟩ ?_
  rintro v e S' R' H' as' rl4 s4 p4 ok ⟨rfl, gs, rfl, hk⟩
  have hv : v = .non := by
    have ok' : Den w.K R' v .non := ok
    cases ok'; rfl
  subst hv
  refine ⟨rfl, ?_⟩
  have ha0 := p4 _ _ hxa
  have hg : (S1 ++ [Own.ins C gs])[S1.length]? = some (.ins C gs) := List.getElem?_concat_length
  obtain ⟨⟨z, dx', fs, c1, c2⟩, _⟩ := rl4.reg _ _ _ hg ha0 (by intro z; cases z)
  obtain ⟨rl5, s5⟩ := rl4.freeze hg ha0 (by intro z; cases z) c1
  have es5 : (S1 ++ [Own.ins C gs]).set S1.length .gone = S1 ++ [.gone] := by
    rw [List.set_append_right _ _ (Nat.le_refl _), Nat.sub_self]; rfl
  rw [es5] at rl5
  have hle := rl1.as0_le
  refine c (.ref xa) (.d (.obj C gs)) S1 _ _ _ (rl5.pop hle) (((s1.trans s2).trans s4).trans s5) (fun i b hb => ?_) (.obj upd_same (c2.mono s5)) hk
  have hb1 := p1 i b hb
  have hil := (List.getElem?_eq_some_iff.mp hb1).1
  rw [rl1.len] at hil
  rw [List.getElem?_take, if_pos (by omega)]
  exact p4 i b (Pre.app _ _ i b hb1)
end
section
variable {w : Wd} {Γ : Env} {S : List Own} {k : KE} {x : Ent} {ds : List D} {E : XK}
theorem dens_rep {K : PySem.W.Frag} {R : Hp} {vs : List V} {ds : List D} (h : Dens K R vs ds) : ∀ n : Nat, Dens K R (List.replicate n vs).flatten (List.replicate n ds).flatten
  | 0 => .nil
  | n + 1 => by rw [List.replicate_succ, List.replicate_succ, List.flatten_cons, List.flatten_cons]; exact h.append (dens_rep h n)
theorem rr_rep {n : Int} (hx : IsLst x S ds) (h0 : 0 ≤ n) (h1 : n < 2 ^ 62) (hl : ds.length * n.toNat ≤ sizeLine) (q : k (.d (.lst (List.replicate n.toNat ds).flatten)) S) : RR w rRep x (.d (.int n)) S k := fun R H as u v Q rl hu hv c => by
  obtain ⟨a, vs, rfl, q2, q3⟩ := isLst_at hx rl hu
  cases hv
  refine ⟨a, n, vs, rfl, rfl, q2, by omega, by omega, by rw [q3.len]; exact hl, fun p hp => ?_⟩
  obtain ⟨rl2, s2⟩ := rl.alloc hp (.lst (List.replicate n.toNat vs).flatten)
  exact c _ _ S _ _ as rl2 s2 (Pre.refl _) (ok_d (Den.lst upd_same ((dens_rep q3 _).mono s2))) q
/-- handed the first thing of the store, it gives a tuple of a new list and data -/
theorem rpT {α : Type} {pre : α → List Ent → List Own → Prop} {post : α → Ent → List Own → Prop} {o : Own} {rest : List Own} {es : List Ent} (a : α) (hpre : pre a es [o])
    (h : ∀ e S', post a e S' → ∃ o' xs d, S' = [o', .lst xs] ∧ o' ≠ .gone ∧ e = .tup [.own 1, .d d] ∧ k (.tup [.own (rest.length + 1), .d d]) (o' :: rest ++ [.lst xs])) (hn : o ≠ .gone) (hw : es.all (Ent.wf 1) = true := by rfl) : RS w (Gm.ds pre post) E es (o :: rest) k := by
  refine rs_call (ex0 (w := w) (E := E)) [0] (Pick.one (o := o) rfl hn) (ren_wf1 hw) hw ⟨a, hpre, fun e S' q => ?_⟩
  obtain ⟨o', xs, d, rfl, h1, rfl, h2⟩ := h e S' q
  exact ⟨[o'], [.lst xs], rfl, rfl, by simpa using h1, h2⟩
theorem lg_tupE2 {i j : Nat} {x y : Ent} {k : Env → List Own → Prop} (q : k ((Γ.set i (some x)).set j (some y)) S) : LG w (gTup w.K 2 (gCons (gName i) (gCons (gName j) gNil))) (.tup [x, y]) Γ S k :=
  lg_tupE rfl (lgs_cons (lg_name (lgs_cons (lg_name (lgs_nil q)))))
theorem wb_two {i : Nat} {o u u' : Own} (hi : S[i]? = some o) : wb (S ++ [u]) [S.length, i] [u', o] = S ++ [u'] := by
  obtain ⟨hl, he⟩ := List.getElem?_eq_some_iff.mp hi
  show ((S ++ [u]).set S.length u').set i o = _
  have e1 : (S ++ [u]).set S.length u' = S ++ [u'] := by
    rw [List.set_append_right _ _ (Nat.le_refl _), Nat.sub_self]; rfl
  rw [e1, List.set_append_left _ _ hl, ← he, List.set_getElem_self]
end
section
variable {w : Wd} {Γ : Env} {S : List Own} {k : KE} {G : GE} {t1 t2 : TS}
theorem ls_cut (M : Env → List Own → Prop) (h : LS w t1 Γ S { G with nx := M }) (q : ∀ Γ1 S1, M Γ1 S1 → LS w t2 Γ1 S1 G) : LS w (tSeq t1 t2) Γ S G := fun D σ R H as rl s e =>
  h _ σ R H as rl s ⟨fun Γ1 S1 σ1 R1 H1 as1 u a b c => q Γ1 S1 c D σ1 R1 H1 as1 a b (e.up u), e.rt, e.bk, e.ct⟩
theorem own_P {i : Nat} {s : List Int} (h : S[i]? = some (.lst (s.map D.int))) : entP S (.own i) = some (.list (s.map PyData.int)) := by
  show (match S[i]? with
    | some (.lst xs) => (toPs xs).map PyData.list
    | _ => none) = _
  rw [h]
  show (toPs (s.map D.int)).map PyData.list = _
  rw [toPs_ints]; rfl
theorem cut_from {s : List Int} {p : Nat} (h : p ≤ s.length) : cutD (s.map D.int) (some (p : Int)) none = (s.drop p).map D.int := by
  unfold cutD
  rw [HT.sIx_none, HT.sIx_nat, List.length_map, Nat.min_eq_left h, ← List.map_drop, List.take_of_length_le (by rw [List.length_map, List.length_drop]; omega)]
end
end Gm
/-! errors: raised, passed on, caught, asked -/
namespace Gm
open PySem L2

/-! ### raising -/
/-- an error's __init__: self.value = value -/
def spXi (K : PySem.W.Frag) : Sp := fun vs H Q _ => ∃ (a C : Addr) (z : V), vs = [.ref a, z] ∧ OexC K C ∧ PySem.W.findIn K (.ref C) "value" = some none ∧ H a = some (exo a C none) ∧
  ∀ dx, H dx = none → dx ≠ a → Q .non (upd (upd H dx (exd dx [(("value" : Str), z)])) a (exo a C (some dx)))
section
variable {P : Program} {w0 : World} {K : PySem.W.Frag} {mg : Str → Option Value} {base : Heap}
structure Xt (P : Program) (w0 : World) (K : PySem.W.Frag) (mg : Str → Option Value) (base : Heap) (k : Nat) (x : Str) (C : Addr) : Prop where
  cls : OexC K C
  val : PySem.W.findIn K (.ref C) "value" = some none
  gl : mg x = some (.ref C)
  ex : ∃ (f : Addr) (fd : FuncData), PySem.W.findIn K (.ref C) "__init__" = some (some (.ref f)) ∧ PySem.W.typeIn K (.ref f) = some (.type "function") ∧ FnOk P w0 K mg base CX0 k f fd ["self", "value"] (spXi K) ∧ Binds K fd ["self", "value"] []
end
def tErr (K : PySem.W.Frag) (C : Addr) (ta : TA) (W : WX) : TS := fun _ σ H => tMkO C (spXi K) [] ta σ H fun c d H' => W c d σ H'
theorem ps_err {X : Cx} {W : WX} {x : Str} {C : Addr} {k : Nat} {e : Expr} {es : List Expr} {ta : TA} {p pos pos' : Pos} (d : Xt X.prog X.w X.K X.mg X.base k x C) (hr : Room (k + 1) X.A) (hx : Passes CX0 X (fun _ _ _ => False)) (tk : Takes X W) (ha : PA X (e :: es) ta)
    (hc : X.calm = true := by rfl) (hg : Gl X x := by rfl) (hdb : (x == ("__debug__" : Str)) = false := by decide) (he : starEach (e :: es) X.env = (false, eval e X.env) :: starEach es X.env := by rfl) (hpl : (backTo pos (starEach es X.env)).any (·.1) = false := by rfl) :
    PS X (.Raise (some (.Call (.Name x p) (e :: es) [] pos)) none pos') (tErr X.K C ta W) := by
  obtain ⟨f, fd, h1, h2, F, hb⟩ := d.ex
  exact ps_raise hc tk (pmk_oex d.cls h1 h2 F hr hb .nil hx hg d.gl ha hdb he hpl)
theorem ls_err {w : Wd} {Γ : Env} {S : List Own} {G : GE} {E : XK} {x : KX} {P : Program} {w0 : World} {mg : Str → Option Value} {base : Heap} {k : Nat} {nm : Str} {C : Addr} {ta : TA} (d : Xt P w0 w.K mg base k nm C) (hE : ExOk w E x)
    (h : LA w ta Γ S fun es S1 => ∃ u, es = [.d u] ∧ x C u S1) : LS w (tErr w.K C ta (fun c d _ H => E c d H)) Γ S G := fun D σ R H as rl s e => by
  refine h σ R H as _ rl s fun vs es S1 R1 H1 as1 rl1 s1 p1 e1 ⟨u, q1, q2⟩ => ?_
  subst q1
  match vs, e1 with
  | [z], ⟨hz, _⟩ =>
  have hz' : Den w.K R1 z u := hz
  refine ⟨Nat.le_of_ble_eq_true rfl, fun a ha => ⟨a, C, z, rfl, d.cls, d.val, upd_same, fun dx hdx hne => ⟨rfl, dx, [(("value" : Str), z)], upd_same, ?_, ?_, ?_⟩⟩⟩
  · rw [upd_ne hne, upd_same]
  · rw [upd_ne hne] at hdx; exact hdx
  · have hdx1 : H1 dx = none := by rw [upd_ne hne] at hdx; exact hdx
    have eH : upd (del (upd (upd (upd H1 a (exo a C none)) dx (exd dx [(("value" : Str), z)])) a (exo a C (some dx))) a) dx (.xd [(("value" : Str), z)]) = upd H1 dx (.xd [(("value" : Str), z)]) := by
      funext b
      by_cases hb : b = dx
      · rw [hb, upd_same, upd_same]
      · rw [upd_ne hb, upd_ne hb]
        by_cases hba : b = a
        · rw [hba, del_same, ha]
        · rw [del_ne hba, upd_ne hba, upd_ne hb, upd_ne hba]
    rw [eH]
    obtain ⟨rl2, s2⟩ := rl1.alloc hdx1 (.xd [(("value" : Str), z)])
    exact hE C dx z u S1 _ _ as1 rl2 upd_same (hz'.mono s2) q2

theorem g_VE {X : Cx} {pos : Pos} (hm : X.mg "ValueError" = none) (hg : Gl X "ValueError" := by rfl) : PE X (.Name "ValueError" pos) (tC (.ty "ValueError")) := pe_bltn hg hm PyProof.Rows.Boot.«ValueError» rfl
/-! ### passing on -/
section
variable {P : Program} {w0 : World} {K : PySem.W.Frag} {mg : Str → Option Value} {base : Heap} {N : List Str} {qual : Str} {scope : Scope} {f : Addr} {cdv : Value} {A : Around} {outer : List PySem.Env} {s : Shared} {H : Hp} {E : XK}
theorem takesX : Takes (cxOf (L2.CX P w0) P w0 K mg base N qual scope f cdv A outer s H E) (fun c d _ H => E c d H) := takes_of rfl rfl rfl rfl
theorem passX : Passes (L2.CX P w0) (cxOf (L2.CX P w0) P w0 K mg base N qual scope f cdv A outer s H E) E := passes_call takesX fun _ _ _ _ h => h
end
/-- what a try's body lets out, whatever the names hold -/
def EW (n : Nat) (W : WX) : XK := fun c d H => ∀ σ : St, σ.length = n → W c d σ H
theorem passT {X : Cx} {W : WX} {n : Nat} (tk : Takes X W) (hn : X.N.length = n) : Passes (L2.CX X.prog X.w) X (EW n W) := fun pins σ H s e s' I c =>
  tk e s' (XE.of_call I (fun c d H' h => h σ (I.len.trans hn)) c)
theorem exok_weak {w : Wd} {E : XK} {x x' : KX} (h : ExOk w E x) (q : ∀ C u S, x' C u S → x C u S) : ExOk w E x' := fun C d v u S R H as a b c e => h C d v u S R H as a b c (q C u S e)
/-- a promise with an error -/
def dsX {α : Type} (pre : α → List Ent → List Own → Prop) (post : α → Ent → List Own → Prop) (ex : α → Addr → D → List Own → Prop) : DS := fun es S p x => ∃ a, pre a es S ∧ (∀ e S', post a e S' → p e S') ∧ ∀ C u S', ex a C u S' → x C u S'
section
variable {w : Wd} {S : List Own} {k : KE} {E : XK} {x : KX} {α : Type} {pre : α → List Ent → List Own → Prop} {post : α → Ent → List Own → Prop} {ex : α → Addr → D → List Own → Prop} {es : List Ent}
/-- data alone are handed over and come back -/
theorem r0X (hE : ExOk w E x) (a : α) (hpre : pre a es []) (h : ∀ e S', post a e S' → ∃ d, S' = [] ∧ e = .d d ∧ k (.d d) S) (hx : ∀ C u S', ex a C u S' → S' = [] ∧ x C u S) (hw : es.all (Ent.wf 0) = true := by rfl) : RS w (dsX pre post ex) E es S k := by
  refine rs_call hE [] Pick.nil (ren_wf0 hw) hw ⟨a, hpre, fun e S' q => ?_, fun C u S' q => ?_⟩
  · obtain ⟨d, rfl, rfl, h2⟩ := h e S' q
    refine ⟨[], [], rfl, rfl, by simp, ?_⟩
    show k (.d d) (wb S [] [] ++ [])
    rw [List.append_nil]
    simpa [wb] using h2
  · obtain ⟨rfl, h2⟩ := hx C u S' q
    refine ⟨[], [], rfl, rfl, by simp, ?_⟩
    show x C u (wb S [] [] ++ [])
    rw [List.append_nil]
    simpa [wb] using h2
/-- a new object whose __init__ may raise -/
theorem mk0X {Γ : Env} {C : Addr} {t : TA} (hE : ExOk w E x) (h : LA w t Γ S fun es S1 => es.all (Ent.wf 0) = true ∧ ∃ a, pre a (.own 0 :: es) [.ins C []] ∧ (∀ e S', post a e S' → e = .d .non ∧ ∃ gs, S' = [.ins C gs] ∧ k (.d (.obj C gs)) S1) ∧ ∀ C' u S', ex a C' u S' → S' ≠ [] ∧ x C' u S1) : LE w (tMake C (spD w.K (dsX pre post ex)) [] E t) Γ S k :=
  le_make hE fun σ R H as Q rl s c => h σ R H as Q rl s fun vs es S' R' H' as' a1 a2 a3 a4 ⟨q1, a, q2, q3, q4⟩ => c vs es S' R' H' as' a1 a2 a3 a4 ⟨q1, a, q2, q3, q4⟩
end

/-! ### catching -/
theorem Rel.root {w : Wd} {R H : Hp} {as : List Addr} {S : List Own} (rl : Rel w R H as S) : Rel { w with R0 := R } R H as S :=
  ⟨Sub.refl _, rl.sub, rl.keep, rl.there, rl.pre, fun b o e => .inl e, rl.len, rl.reg, rl.dist⟩
theorem Rel.unroot {w : Wd} {R H R' H' : Hp} {as as' : List Addr} {S S' : List Own} (rl : Rel w R H as S) (r : Rel { w with R0 := R } R' H' as' S') : Rel w R' H' as' S' ∧ Sub R R' := by
  refine ⟨⟨rl.r0.trans r.r0, r.sub, r.keep, r.there, r.pre, fun b o e => ?_, r.len, r.reg, r.dist⟩, r.r0⟩
  rcases r.orig b o e with q | q
  · exact rl.orig b o q
  · exact .inr q
def tTry (K : PySem.W.Frag) (c : Value) (i : Nat) (tb : WX → TS) (ts : Addr → Value → Option Addr → TS) : TS := fun D σ H => tb (wAs K c i ts (fun _ _ _ _ => False) D) D σ H
theorem ps_try {X : Cx} {x n : Str} {c : Value} {i : Nat} {body suite : List Stmt} {b₀ : Stmt} {np pos pos' : Pos} {tb : WX → TS} {ts : Addr → Value → Option Addr → TS} (hN : X.N.Nodup) (hc : Names X x c)
    (hb : ∀ (W : WX) (pn : List (Addr × Obj)) (xe : Value → Shared → Prop), Takes (X.tr pn xe) W → PSs (X.tr pn xe) body (tb W))
    (hsu : ∀ (a : Addr) (oe : Obj) (cls : Value) (d : Option Addr) (pn : List (Addr × Obj)), Zc cls d oe → (∃ vs, oe.data = .fields vs) → PSs (X.suite a ((a, oe) :: pn)) (b₀ :: suite) (ts a cls d))
    (hs : X.stack = X.env :: X.outer := by rfl) (hf : X.env.frame = some X.env.locals := by rfl) (hi : X.N[i]? = some n := by rfl) (hln : X.env.kindOf n = some .local := by rfl) :
    PS X (.Try body [.ExceptHandler (some (.Name x np)) (some n) (b₀ :: suite) pos'] [] [] pos) (tTry X.K c i tb ts) :=
  ps_try_as hs hf hN hi hln hc (takes0 (X := X)) (fun W pn xe tk _ => hb W pn xe tk) hsu
theorem ls_try {w : Wd} {Γ : Env} {S : List Own} {G : GE} {c : Value} {i n : Nat} {tb : WX → TS} {ts : Addr → Value → Option Addr → TS} (x : KX)
    (hb : ∀ (r : Hp) (W : WX), ExOk { w with R0 := r } (EW n W) x → LS { w with R0 := r } (tb W) Γ S G)
    (hs : ∀ C u S1, x C u S1 → PySem.W.exmOne w.K (.ref C) c = some true ∧ ∀ a dd, LS w (ts a (.ref C) (some dd)) ((List.replicate n none).set i (some (.d (.exn a dd u)))) S1
      { nx := fun Γ S => G.nx (Γ.set i none) S, rt := G.rt, bk := fun Γ S => G.bk (Γ.set i none) S, ct := fun Γ S => G.ct (Γ.set i none) S }) (hn : Γ.length = n) : LS w (tTry w.K c i tb ts) Γ S G := fun D σ R H as rl s e => by
  refine hb R _ ?_ D σ R H as rl.root s ⟨fun Γ' S' σ' R' H' as' u a b q => e.nx Γ' S' σ' R' H' as' u (rl.unroot a).1 b q, fun v y S' R' H' as' u a b q => e.rt v y S' R' H' as' u (rl.unroot a).1 b q,
    fun Γ' S' σ' R' H' as' u a b q => e.bk Γ' S' σ' R' H' as' u (rl.unroot a).1 b q, fun Γ' S' σ' R' H' as' u a b q => e.ct Γ' S' σ' R' H' as' u (rl.unroot a).1 b q⟩
  intro C d v u S1 R1 H1 as1 rl1 hd hv hx σ1 hl
  obtain ⟨h1, h2⟩ := hs C u S1 hx
  obtain ⟨rl2, sb⟩ := rl.unroot rl1
  refine ⟨true, h1, fun _ a ha => ?_, fun z => Bool.noConfusion z⟩
  have st0 : Sts w.K R1 as1 σ1 (List.replicate n none) := ⟨by rw [List.length_replicate]; exact hl, fun j y q => by
    rw [List.getElem?_replicate] at q
    split at q <;> cases q⟩
  have st1 : Sts w.K R1 as1 (σ1.set i (some (.ref a))) ((List.replicate n none).set i (some (.d (.exn a d u)))) := st0.set i (Den.exn hd hv)
  have e2 := e.up sb
  refine h2 a d _ _ R1 H1 as1 rl2 st1 ⟨fun Γ' S' σ' R' H' as' u a b q => ?_, e2.rt, fun Γ' S' σ' R' H' as' u a b q => ?_, fun Γ' S' σ' R' H' as' u a b q => ?_⟩
  · exact e2.nx _ S' _ R' H' as' u a (b.wipe1 i) q
  · exact e2.bk _ S' _ R' H' as' u a (b.wipe1 i) q
  · exact e2.ct _ S' _ R' H' as' u a (b.wipe1 i) q

/-! ### asking a caught error -/
def rIsX (K : PySem.W.Frag) (a : Addr) (cls : Value) (d : Option Addr) : List V → Hp → VK → Prop := fun xs H Q => ∃ (C dd : Addr) (fs : List (Str × V)) (b : Bool), cls = .ref C ∧ d = some dd ∧ H dd = some (.xd fs) ∧ ExcC K C ∧
  ((∃ c cv, xs = [.ref a, c] ∧ ClsV c cv ∧ PySem.W.kitOne K (.ref C) cv = some b) ∨ ∃ tp cs us, xs = [.ref a, .ref tp] ∧ H tp = some (.tup cs) ∧ Paired ClsV cs us ∧ PySem.W.kitAny K (.ref C) us = some b) ∧ Q (.bl b) H
theorem inst_of {X : Cx} {a C dd : Addr} {oe : Obj} {pn pins : List (Addr × Obj)} {σ : St} {H : Hp} {s : Shared} {fs : List (Str × V)} (I : Inv (X.suite a ((a, oe) :: pn)) pins σ H s) (hz : Zc (.ref C) (some dd) oe) (hf : ∃ vs, oe.data = .fields vs) (hd : H dd = some (.xd fs)) :
    ∃ (od : Obj) (mA : Str → Option Value), PySem.W.InstAt s.heap a oe C (some od) ∧ (∀ nm, PySem.W.lookIn nm od = some (mA nm)) ∧ ∀ f, RelO (fs.lookup f) (mA f) := by
  obtain ⟨g, _⟩ := I.pin (a, oe) (List.mem_append_left _ List.mem_cons_self)
  obtain ⟨vs, hv⟩ := hf
  obtain ⟨mA, hns, hr⟩ := (show ObjOk X.prog X.w H s.heap dd (.xd fs) from I.hok dd _ hd)
  obtain ⟨od, ho, hl⟩ := lookIn_ns hns
  exact ⟨od, mA, ⟨g, hz.1, by unfold PySem.W.notCls; rw [hv] <;> rfl, by rw [hz.2]; exact ho⟩, hl, hr⟩
theorem call_isX {X : Cx} {a : Addr} {oe : Obj} {cls : Value} {d : Option Addr} {pn : List (Addr × Obj)} (hz : Zc cls d oe) (hf : ∃ vs, oe.data = .fields vs) : CallR (X.suite a ((a, oe) :: pn)) (.builtin "isinstance") (rIsX X.K a cls d) := by
  intro pins s σ H xs us Q I r h
  obtain ⟨C, dd, fs, b, rfl, rfl, hd, hC, hk, q⟩ := h
  obtain ⟨od, mA, J, _, _⟩ := inst_of I hz hf hd
  have hcl : (PySem.W.clsIn X.K C).isSome = true := by
    obtain ⟨cd, hc, _⟩ := PySem.W.any_some hC.hd
    rw [hc]; rfl
  have Z := PySem.W.kitx_exc (x := a) (ox := oe) (od := some od) hcl hC.hg hC.hk hC.hs hC.ha hC.hn hC.ht hC.hm
  rcases hk with ⟨c, cv, rfl, hc, e⟩ | ⟨tp, cs, ws, rfl, hT, hc, e⟩
  · obtain ⟨u1, u2, rfl, r1, r2⟩ := vals2 r
    cases (show u1 = Value.ref a from r1)
    have e2 := hc.eq r2
    subst e2
    exact PySem.W.kia_one Z I.kIn J e (fun z => nomatch z) fun tk => ⟨.bl b, H, I.kept (t' := tk) fun _ _ z => z, rfl, q⟩
  · obtain ⟨u1, u2, rfl, r1, r2⟩ := vals2 r
    cases (show u1 = Value.ref a from r1)
    cases (show u2 = Value.ref tp from r2)
    obtain ⟨_, its, rv, o, h1, h2, n, h3⟩ := (show ObjOk X.prog X.w H s.heap tp (.tup cs) from I.hok tp _ hT)
    have e3 := ClsV.all hc rv
    subst e3
    obtain ⟨oc, od, dt, sl⟩ := o
    simp only at h2 h3
    subst h2 h3
    exact PySem.W.kia_tup Z I.kIn J h1 e (fun z => nomatch z) fun tk => ⟨.bl b, H, I.kept (t' := tk) fun _ _ z => z, rfl, q⟩
theorem b_isX {X : Cx} {a : Addr} {oe : Obj} {cls : Value} {d : Option Addr} {pn : List (Addr × Obj)} {e1 e2 : Expr} {te1 te2 : TE} {p pos : Pos} (K : PySem.W.Frag) (hz : Zc cls d oe) (hf : ∃ vs, oe.data = .fields vs) (hm : X.mg "isinstance" = none) (h1 : PE (X.suite a ((a, oe) :: pn)) e1 te1) (h2 : PE (X.suite a ((a, oe) :: pn)) e2 te2)
    (hg : Gl X "isinstance" := by rfl) (hs : starEach [e1, e2] X.env = (false, eval e1 X.env) :: starEach [e2] X.env := by rfl) (hs2 : starEach [e2] X.env = (false, eval e2 X.env) :: starEach [] X.env := by rfl) (hpl : (backTo pos (starEach [e2] X.env)).any (·.1) = false := by rfl) (hK : X.K = K := by rfl) :
    PE (X.suite a ((a, oe) :: pn)) (.Call (.Name "isinstance" p) [e1, e2] [] pos) (tCB (rIsX K a cls d) (tCons te1 (tCons te2 tNil))) := by
  subst hK
  exact pe_callB (X := X.suite a ((a, oe) :: pn)) (call_isX hz hf) hg hm (by decide +kernel) (pa_cons h1 (pa_cons h2 pa_nil hs2) hs) (he := hs) (hpl := hpl)
def tXv (K : PySem.W.Frag) (a : Addr) (cls : Value) (d : Option Addr) (f : Str) (te : TE) : TE := fun σ H Q => te σ H fun x H1 => x = .ref a ∧ ∃ (C dd : Addr) (fs : List (Str × V)) (v : V), cls = .ref C ∧ XfC K C ∧ PySem.W.findIn K (.ref C) f = some none ∧ d = some dd ∧ H1 dd = some (.xd fs) ∧ fs.lookup f = some v ∧ Q v H1
theorem pe_xv {X : Cx} {a : Addr} {oe : Obj} {cls : Value} {d : Option Addr} {pn : List (Addr × Obj)} {e : Expr} {te : TE} {pos : Pos} {n : Str} (K : PySem.W.Frag) (hz : Zc cls d oe) (hf : ∃ vs, oe.data = .fields vs) (he : PE (X.suite a ((a, oe) :: pn)) e te)
    (hb : attributeBase e n X.env (eval e X.env) = eval e X.env := by rfl) (hK : X.K = K := by rfl) : PE (X.suite a ((a, oe) :: pn)) (.Attribute e n pos) (tXv K a cls d n te) := by
  subst hK
  refine ⟨fun pins s σ H Q I h => attr_of hb (thn (he.run pins s σ H _ I h) fun u s1 hh => ?_)⟩
  obtain ⟨x, H1, I1, rx, rfl, C, dd, fs, v, rfl, T, hno, rfl, ea, l, q⟩ := hh
  cases (show u = Value.ref a from rx)
  obtain ⟨od, mA, J, hl, hr⟩ := inst_of I1 hz hf ea
  obtain ⟨z, hu, ru⟩ := RelO.some_of (v := v) (o := mA n) (by rw [← l]; exact hr n)
  exact HandSPX.exc_get I1.kIn J T.ga T.gg T.exC (PySem.W.findObj_own T.hdC hno rfl (by rw [hl, hu])) (handed_of ru) ⟨v, H1, I1.tok _, ru, q⟩
section
variable {w : Wd} {Γ : Env} {S : List Own} {k : KE} {a dd C : Addr} {u : D} {te : TE}
theorem xd_at {R H : Hp} {as : List Addr} {v : V} (rl : Rel w R H as S) (h : EntOk w.K R as v (.d (.exn a dd u))) : v = .ref a ∧ ∃ z, H dd = some (.xd [(("value" : Str), z)]) ∧ Den w.K R z u := by
  have h' : Den w.K R v (.exn a dd u) := h
  cases h' with
  | exn h1 h2 => exact ⟨rfl, _, rl.sub _ _ h1, h2⟩
def clsD : D → Option Value
  | .cls C => some (.ref C)
  | .ty n => some (.type n)
  | _ => none
theorem clsD_v {K : PySem.W.Frag} {R : Hp} {v : V} {c : D} {cv : Value} (h : Den K R v c) (e : clsD c = some cv) : ClsV v cv := by
  cases h with
  | cls C => cases e; exact .own C
  | ty n => cases e; exact .ty n
  | _ => cases e
def clsDs : List D → Option (List Value)
  | [] => some []
  | c :: cs => (clsD c).bind fun v => (clsDs cs).map (v :: ·)
theorem clsDs_v {K : PySem.W.Frag} {R : Hp} : ∀ {vs : List V} {cs : List D} {cvs : List Value}, Dens K R vs cs → clsDs cs = some cvs → Paired ClsV vs cvs
  | _, _, _, .nil, e => by cases e; exact .nil
  | _, _, _, .cons (d := c) (ds := cs) h t, e => by
    simp only [clsDs, Option.bind_eq_some_iff, Option.map_eq_some_iff] at e
    obtain ⟨y, h1, ys, h2, h3⟩ := e
    subst h3
    exact .cons (clsD_v h h1) (clsDs_v t h2)
theorem rc_isX {c : D} {cv : Value} {b : Bool} (hC : ExcC w.K C) (hc : clsD c = some cv) (hk : PySem.W.kitOne w.K (.ref C) cv = some b) (q : k (.d (.bl b)) S) : RC w (rIsX w.K a (.ref C) (some dd)) [.d (.exn a dd u), .d c] S k := fun R H as us Q rl hu cn => by
  match us, hu with
  | [v, z], ⟨h1, h2, _⟩ =>
    obtain ⟨rfl, y, h3, _⟩ := xd_at rl h1
    exact ⟨C, dd, _, b, rfl, rfl, h3, hC, .inl ⟨z, cv, rfl, clsD_v h2 hc, hk⟩, cn _ _ S R H as rl (Sub.refl _) (Pre.refl _) (ok_d (Den.bl b)) q⟩
theorem rc_isXT {cs : List D} {cvs : List Value} {b : Bool} (hC : ExcC w.K C) (hc : clsDs cs = some cvs) (hk : PySem.W.kitAny w.K (.ref C) cvs = some b) (q : k (.d (.bl b)) S) : RC w (rIsX w.K a (.ref C) (some dd)) [.d (.exn a dd u), .d (.tup cs)] S k := fun R H as us Q rl hu cn => by
  match us, hu with
  | [v, z], ⟨h1, h2, _⟩ =>
    obtain ⟨rfl, y, h3, _⟩ := xd_at rl h1
    have h2' : Den w.K R z (.tup cs) := h2
    cases h2' with
    | tup h4 h5 => exact ⟨C, dd, _, b, rfl, rfl, h3, hC, .inr ⟨_, _, cvs, rfl, rl.sub _ _ h4, clsDs_v h5 hc, hk⟩, cn _ _ S R H as rl (Sub.refl _) (Pre.refl _) (ok_d (Den.bl b)) q⟩
theorem le_xv (hX : XfC w.K C) (hno : PySem.W.findIn w.K (.ref C) "value" = some none) (h : LE w te Γ S fun e S1 => e = .d (.exn a dd u) ∧ k (.d u) S1) : LE w (tXv w.K a (.ref C) (some dd) "value" te) Γ S k := fun σ R H as Q rl s c =>
  h σ R H as _ rl s fun v e S1 R1 H1 as1 rl1 s1 p1 e1 ⟨h1, h2⟩ => by
    subst h1
    obtain ⟨rfl, z, h3, h4⟩ := xd_at rl1 e1
    exact ⟨rfl, C, dd, _, z, rfl, hX, hno, rfl, h3, by simp, c _ _ S1 R1 H1 as1 rl1 s1 p1 (ok_d h4) h2⟩
end
end Gm
/-! dicts of the module, least and greatest, enumerate, comprehensions over displays -/
namespace Gm
open PySem L2

/-! ### d.get(k) of a written dict -/
structure KD (K : PySem.W.Frag) (w0 : World) (a : Addr) : Prop where
  ex : ∃ es n, K.lookup a = some ⟨.type "dict", none, .dict es n, #[]⟩ ∧ PySem.W.KeysLit w0.params es.toList
  sys : (a == sysModules) = false
structure KGet (K : PySem.W.Frag) (a : Addr) (x : Str) (v : V) : Prop where
  ex : ∃ u : Option Value, PySem.W.nsIn K a x = some u ∧ RelV v (u.getD .none)
def tKGet (K : PySem.W.Frag) (w0 : World) (td ty : TE) : TE := fun σ H Q => td σ H fun x H1 => ∃ a, x = .ref a ∧ KD K w0 a ∧ ty σ H1 fun y H2 => ∃ z v, y = .str z ∧ KGet K a z v ∧ Q v H2
section
variable {X : Cx} {o e : Expr} {apos cpos : Pos} {td ty : TE}
theorem pe_kget (ho : PE X o td) (he : PE X e ty)
    (hb : attributeBase o "get" X.env (eval o X.env) = eval o X.env := by rfl)
    (hfew : ((backTo cpos (starEach [e] X.env)).all (fun x => !x.1) && (backToKw cpos (keywordEach [] X.env)).all (fun x => x.1.isSome)
      && decide (([e] : List Expr).length + ([] : List Keyword).length + (if ([] : List Keyword).isEmpty then 0 else 1) < 30)) = true := by rfl)
    (hline : (apos.endLine == cpos.line) = true := by rfl)
    (htrees : backTo cpos (starEach [e] X.env) = [(false, eval e X.env)] := by rfl) :
    PE X (.Call (.Attribute o "get" apos) [e] [] cpos) (tKGet X.K X.w td ty) := by
  refine ⟨fun pins s σ H Q I h => ?_⟩
  refine wpAny_Call_method hb hfew hline PySem.F.plainAttrs_dict PySem.F.slot_dict_get PySem.F.type_dict_get (thn (ho.run pins s σ H _ I h) fun u s1 ⟨x, H1, I1, rx, a, ex, d, q1⟩ => ?_)
  subst ex
  obtain rfl : u = Value.ref a := rx
  obtain ⟨⟨es, n, hl, hk⟩, hsys⟩ := d
  have hm := PySem.W.mapOf_K (prog := X.prog) (w := X.w) I1.kIn hl hk
  refine ⟨hm.typeIs, hm.noDict, ?_⟩
  rw [htrees]
  refine Calls.callWith_builtin rfl (Calls.evalArgs_plain (Calls.spliced_cons (thn (he.run pins s1 σ H1 _ I1 q1) fun iv s2 ⟨y, H2, I2, ry, z, v, ey, g, q2⟩ => Calls.spliced_nil ?_)))
  subst ey
  obtain ⟨t, rfl⟩ := (show ∃ t, iv = Value.str z t from ry)
  obtain ⟨u, h1, h2⟩ := g.ex
  have hm2 := PySem.W.mapOf_K (prog := X.prog) (w := X.w) I2.kIn hl hk
  refine call_meetsIn PySem.F.slot_dict_get hm2.typeIs PySem.F.entry_dict_get (PySem.F.args_dict_get_2 _ _) (meets_dict_get (strKind X.prog X.w) a (strKind_is X.prog X.w z t) hsys) ⟨_, hm2, ⟨v, H2, I2.tok _, ?_, q2⟩⟩
  rw [PySem.W.find_K hl h1]
  exact h2
end
section
variable {w : Wd} {Γ : Env} {S : List Own} {k : KE} {ta tb te : TE}
theorem den_flat {K : PySem.W.Frag} {R : Hp} {v : V} {d : D} (h : flatD d = some v) : Den K R v d := by
  cases d <;> simp [flatD] at h <;> subst h <;> constructor
theorem le_kget {w0 : World} (h : LE w ta Γ S fun x S1 => ∃ a, x = .d (.cls a) ∧ KD w.K w0 a ∧ LE w tb Γ S1 fun y S2 => ∃ z v d, y = .d (.str z) ∧ KGet w.K a z v ∧ flatD d = some v ∧ k (.d d) S2) : LE w (tKGet w.K w0 ta tb) Γ S k := fun σ R H as Q rl s c => by
  refine h σ R H as _ rl s fun u x S1 R1 H1 as1 rl1 s1 p1 e1 ⟨a, hx, hd, h1⟩ => ?_
  subst hx
  cases e1
  refine ⟨a, rfl, hd, h1 σ R1 H1 as1 _ rl1 (s.mono s1 p1) fun y e S2 R2 H2 as2 rl2 s2 p2 e2 ⟨z, v, d, hy, hg, hf, hk⟩ => ?_⟩
  subst hy
  cases e2
  exact ⟨z, v, rfl, hg, c _ _ S2 R2 H2 as2 rl2 (s1.trans s2) (p1.trans p2) (ok_d (den_flat hf)) hk⟩
end

/-! ### min, max -/
def gMinT (K : PySem.W.Frag) : List V → Hp → VK → Prop := fun vs H Q => ∃ (a : Addr) (n : Int) (ns : List Int), vs = [V.ref a] ∧ SqT K H a ((n :: ns).map V.int) ∧ Q (.int (ns.foldl min n)) H
theorem reads_ints (h : Heap) : ∀ {vs : List Value} {ns : List Int}, Vals (ns.map V.int) vs → ReadsAll h vs (ns.map PyData.int) []
  | _, [], .nil => .nil
  | _, n :: ns, .cons r t => by
    obtain ⟨k, rfl⟩ := r
    exact ReadsAll.cons (as := []) (bs := []) (.int n k) (reads_ints h t)
theorem alike_ints (ns : List Int) : PySem.W.AlikeAll (ns.map PyData.int) := by
  constructor
  · intro x hx y hy
    obtain ⟨a, _, rfl⟩ := List.mem_map.mp hx
    obtain ⟨b, _, rfl⟩ := List.mem_map.mp hy
    rfl
  · intro x hx z
    obtain ⟨a, _, rfl⟩ := List.mem_map.mp hx
    cases z
section
variable {X : Cx}
theorem c_minT (hc : X.calm = true) (hu : X.A.units + 1 < cLine) : CallR X (.builtin "min") (gMinT X.K) := by
  intro pins s σ H vs us Q I r h
  obtain ⟨a, n, ns, rfl, hs, q⟩ := h
  obtain ⟨its, rv, p, hz⟩ := I.tuple hs
  rw [Vals.ref1 r]
  have rr : ReadsAll s.heap its.toArray.toList (PyData.int n :: ns.map PyData.int) [] := reads_ints s.heap (ns := n :: ns) rv
  refine PySem.W.min_tuple_data (I.ok.hd hc) p rr (alike_ints (n :: ns)) ?_ fun i v h' tk bs hi hr hk => ?_
  · rw [show PyData.depthAll (PyData.int n :: ns.map PyData.int) = 0 from depth_ints (n :: ns)]; exact hu
  · rw [PySem.W.minD_ints] at hr
    cases hr
    exact ⟨.int _, H, I.kept hk, ⟨_, rfl⟩, q⟩
end
section
variable {w : Wd} {Γ : Env} {S : List Own} {k : KE} {ta tb te : TE} {G : GE} {t1 t2 : TS}
theorem lst_ints {K : PySem.W.Frag} {R H : Hp} {x : Ent} {s : List Int} {v : V} {as : List Addr} (hx : IsLst x S (s.map D.int)) (rl : Rel w R H as S) (e : EntOk w.K R as v x) : ∃ a, v = .ref a ∧ SqL w.K H a (s.map V.int) := by
  obtain ⟨a, vs, q1, q2, q3⟩ := isLst_at hx rl e
  have := q3.ints
  subst this
  exact ⟨a, q1, SqL.of q2⟩
theorem rc_minL {x : Ent} {s : List Int} (hx : IsLst x S (s.map D.int)) (hs : 0 < s.length) (q : ∀ m, m ∈ s → (∀ y ∈ s, m ≤ y) → k (.d (.int m)) S) : RC w (rMin w.K) [x] S k := fun R H as us Q rl hu c => by
  obtain ⟨v, rfl, hv⟩ := one_ent hu
  obtain ⟨a, rfl, h⟩ := lst_ints (K := w.K) hx rl hv
  exact ⟨a, s, rfl, h, hs, fun m h1 h2 => c _ _ S R H as rl (Sub.refl _) (Pre.refl _) (ok_d (Den.int m)) (q m h1 h2)⟩
theorem rc_maxL {x : Ent} {s : List Int} (hx : IsLst x S (s.map D.int)) (hs : 0 < s.length) (q : ∀ m, m ∈ s → (∀ y ∈ s, y ≤ m) → k (.d (.int m)) S) : RC w (rMax w.K) [x] S k := fun R H as us Q rl hu c => by
  obtain ⟨v, rfl, hv⟩ := one_ent hu
  obtain ⟨a, rfl, h⟩ := lst_ints (K := w.K) hx rl hv
  exact ⟨a, s, rfl, h, hs, fun m h1 h2 => c _ _ S R H as rl (Sub.refl _) (Pre.refl _) (ok_d (Den.int m)) (q m h1 h2)⟩
theorem rc_minT {n : Int} {ns : List Int} (q : k (.d (.int (ns.foldl min n))) S) : RC w (gMinT w.K) [.d (.tup ((n :: ns).map D.int))] S k := fun R H as us Q rl hu c => by
  obtain ⟨v, rfl, hv⟩ := one_ent hu
  cases hv with
  | tup ha hd =>
    have := Dens.ints (ns := n :: ns) hd
    subst this
    exact ⟨_, n, ns, rfl, SqT.of (rl.sub _ _ ha), c _ _ S R H as rl (Sub.refl _) (Pre.refl _) (ok_d (Den.int _)) q⟩
/-- tuple(..) -/
def gTupl (K : PySem.W.Frag) : List V → Hp → VK → Prop := fun xs H Q => ∃ p ys, xs = [.ref p] ∧ ((SqL K H p ys ∧ ∀ l, H l = none → Q (.ref l) (upd H l (.tup ys))) ∨ (SqT K H p ys ∧ Q (.ref p) H))
theorem c_tuple {X : Cx} : CallR X (.type "tuple") (gTupl X.K) := call_tuple_of
theorem rc_tupleL {x : Ent} {ds : List D} (hx : IsLst x S ds) (q : k (.d (.tup ds)) S) : RC w (gTupl w.K) [x] S k := fun R H as us Q rl hu c => by
  obtain ⟨v, rfl, hv⟩ := one_ent hu
  obtain ⟨a, vs, rfl, q2, q3⟩ := isLst_at hx rl hv
  refine ⟨a, vs, rfl, .inl ⟨SqL.of q2, fun l hl => ?_⟩⟩
  obtain ⟨rl2, s2⟩ := rl.alloc hl (.tup vs)
  exact c _ _ S _ _ as rl2 s2 (Pre.refl _) (ok_d (Den.tup upd_same (q3.mono s2))) q
theorem for_enum {K : PySem.W.Frag} {a : Addr} {g : TG} {tb : TS} {D : Ends} {σ : St} {H : Hp} (n : Nat) (Pv : Nat → St → Hp → Prop) (h0 : Pv 0 σ H) (hl : ∀ i σ H, i ≤ n → Pv i σ H → ∃ xs, SqL K H a xs ∧ xs.length = n)
    (hs : ∀ i σ H T x, i < n → Pv i σ H → (∀ xs, SqL K H a xs → xs[i]? = some x) → H T = none → g (.ref T) σ (upd H T (.tup [.int (i : Nat), x])) fun σ2 H2 => tb { D with nx := Pv (i + 1), ct := Pv (i + 1), bk := D.nx } σ2 H2) (hd : ∀ σ H, Pv n σ H → D.nx σ H) :
    ∃ W : Nat → Nat → St → Hp → Prop, (∃ m, W 0 m σ H) ∧ ∀ i m σ H, W i m σ H →
      ((Ite K a).stop i H ∧ D.nx σ H) ∨ ((Ite K a).go i H ∧ ∃ N : St → Hp → Prop, (∀ σ' H', N σ' H' → ∃ m', m' < m ∧ W (i + 1) m' σ' H') ∧ ∀ x H', (Ite K a).yld i H x H' → g x σ H' fun σ2 H2 => tb { D with nx := N, ct := N, bk := D.nx } σ2 H2) := by
  refine ⟨fun i m σ H => i ≤ n ∧ m = n - i ∧ Pv i σ H, ⟨n, Nat.zero_le _, rfl, h0⟩, fun i m σ H ⟨hi, hm, hP⟩ => ?_⟩
  obtain ⟨xs, hq, hx⟩ := hl i σ H hi hP
  by_cases h : i = n
  · subst h
    exact .inl ⟨⟨xs, hq, by omega⟩, hd σ H hP⟩
  · have hlt : i < n := by omega
    refine .inr ⟨⟨xs, xs[i]'(by omega), hq, List.getElem?_eq_getElem _⟩, Pv (i + 1), fun σ' H' hp => ⟨n - (i + 1), by omega, by omega, rfl, hp⟩, ?_⟩
    rintro x H' ⟨T, y, rfl, hT, rfl, hy⟩
    exact hs i σ H T y hlt hP hy hT
/-! ### for i, x in enumerate(xs) -/
def IsLstB (w : Wd) (x : Ent) (S : List Own) (ds : List D) : Prop := x = .d (.lst ds) ∨ ∃ i, x = .own i ∧ i < w.as0.length ∧ S[i]? = some (.lst ds)
theorem IsLstB.is {x : Ent} {ds : List D} (h : IsLstB w x S ds) : IsLst x S ds := by
  rcases h with h | ⟨i, h1, _, h2⟩
  · exact .inl h
  · exact .inr ⟨i, h1, h2⟩
theorem ls_forE {t : TA} {g : TG} (h : LA w t Γ S fun es S1 => ∃ x ds, es = [x] ∧ IsLstB w x S1 ds ∧ ∃ I : Nat → Env → List Own → Prop, I 0 Γ S1 ∧ (∀ i Γ1 S2, I i Γ1 S2 → IsLstB w x S2 ds) ∧
    (∀ i d Γ1 S2, ds[i]? = some d → I i Γ1 S2 → LG w g (.d (.tup [.int i, d])) Γ1 S2 fun Γ2 S3 => LS w t1 Γ2 S3 { G with nx := I (i + 1), ct := I (i + 1), bk := G.nx }) ∧ (∀ Γ1 S2, I ds.length Γ1 S2 → G.nx Γ1 S2)) : LS w (tFor (iEnum w.K t) g t1) Γ S G := fun D σ R H as rl s e => by
  refine h σ R H as _ rl s fun vs es S1 R1 H1 as1 rl1 s1 p1 e1 ⟨x, ds, h1, hx, I, i0, hI, is, iE⟩ => ?_
  subst h1
  obtain ⟨v, rfl, hv⟩ := one_ent e1
  obtain ⟨a, rfl, ha, back⟩ : ∃ a, v = .ref a ∧ (∃ xs, SqL w.K H1 a xs) ∧ ∀ (R' H' : Hp) (as' : List Addr) (S' : List Own), Sub R1 R' → Rel w R' H' as' S' → IsLstB w x S' ds → ∃ us, SqL w.K H' a us ∧ us.length = ds.length ∧ Dens w.K R' us ds := by
    rcases hx with rfl | ⟨i, rfl, hi, hS⟩
    · cases hv with
      | lst hR hD => exact ⟨_, rfl, ⟨_, SqL.of (rl1.sub _ _ hR)⟩, fun R' H' as' S' sb r' _ => ⟨_, SqL.of (r'.sub _ _ (sb _ _ hR)), hD.len, hD.mono sb⟩⟩
    · obtain ⟨a, vs, q1, q2, q3⟩ := isLst_at (.inr ⟨i, rfl, hS⟩) rl1 hv
      refine ⟨a, q1, ⟨vs, SqL.of q2⟩, fun R' H' as' S' sb r' hx' => ?_⟩
      obtain ⟨b, hb, hv'⟩ := hv
      have ea : w.as0[i]? = some a := by
        obtain ⟨c, hc⟩ : ∃ c, w.as0[i]? = some c := ⟨_, List.getElem?_eq_getElem hi⟩
        have := rl1.pre i c hc
        rw [hb] at this
        cases this
        rw [q1] at hv'; cases hv'; exact hc
      rcases hx' with z | ⟨j, z, hj, hS'⟩
      · cases z
      · cases z
        obtain ⟨c, us, w1, w2, w3⟩ := isLst_at (.inr ⟨i, rfl, hS'⟩) r' (show EntOk w.K R' as' (.ref a) (.own i) from ⟨a, r'.pre i a ea, rfl⟩)
        cases w1
        exact ⟨us, SqL.of w2, w3.len, w3⟩
  obtain ⟨xs0, hx0⟩ := ha
  refine ⟨a, xs0, rfl, hx0, ?_⟩
  refine for_enum ds.length (fun i σ' H' => ∃ Γ' S' R' as', Sub R1 R' ∧ Rel w R' H' as' S' ∧ Sts w.K R' as' σ' Γ' ∧ I i Γ' S') ⟨Γ, S1, R1, as1, Sub.refl _, rl1, s.mono s1 p1, i0⟩ ?_ ?_ ?_
  · rintro i σ2 H2 hi ⟨Γ2, S2, R2, as2, u2, rl2, st2, i2⟩
    obtain ⟨us, h1, h2, h4⟩ := back R2 H2 as2 S2 u2 rl2 (hI i Γ2 S2 i2)
    exact ⟨us, h1, h2⟩
  · rintro i σ2 H2 T x hi ⟨Γ2, S2, R2, as2, u2, rl2, st2, i2⟩ hq hT
    obtain ⟨us, h1, h2, h4⟩ := back R2 H2 as2 S2 u2 rl2 (hI i Γ2 S2 i2)
    obtain ⟨d, hd1, hd2⟩ := h4.get2 (hq us h1)
    obtain ⟨rl3, s3⟩ := rl2.alloc hT (.tup [.int (i : Nat), x])
    refine is i d Γ2 S2 hd1 i2 _ σ2 _ _ as2 _ rl3 (st2.mono s3 (Pre.refl _)) (ok_d (Den.tup upd_same (.cons (.int _) (.cons (hd2.mono s3) .nil)))) fun Γ3 S3 σ3 R3 H3 as3 rl4 s4 p4 st4 q => ?_
    have up := (u2.trans s3).trans s4
    have e2 := e.up (s1.trans up)
    exact q _ σ3 R3 H3 as3 rl4 st4 ⟨fun Γ' S' σ' R' H' as' u a b hi => ⟨Γ', S', R', as', up.trans u, a, b, hi⟩, e2.rt, e2.nx, fun Γ' S' σ' R' H' as' u a b hi => ⟨Γ', S', R', as', up.trans u, a, b, hi⟩⟩
  · rintro σ2 H2 ⟨Γ2, S2, R2, as2, u2, rl2, st2, i2⟩
    exact e.nx Γ2 S2 σ2 R2 H2 as2 (s1.trans u2) rl2 st2 (iE Γ2 S2 i2)
end
/-! ### two ways that go on alike -/
section
variable {w : Wd} {Γ : Env} {S : List Own} {G : GE} {t1 t2 : TS}
theorem ls_nx (M : Env → List Own → Prop) (h : LS w t1 Γ S { G with nx := M }) (q : ∀ Γ1 S1, M Γ1 S1 → G.nx Γ1 S1) : LS w t1 Γ S G := fun D σ R H as rl s e =>
  h D σ R H as rl s ⟨fun Γ1 S1 σ1 R1 H1 as1 u r1 s1 z => e.nx Γ1 S1 σ1 R1 H1 as1 u r1 s1 (q Γ1 S1 z), e.rt, e.bk, e.ct⟩
theorem ls_ifB {c : TT} (b : Bool) (h : LT w c Γ S fun b' S1 => b' = b ∧ S1 = S) (h1 : b = true → LS w t1 Γ S G) (h2 : b = false → LS w t2 Γ S G) : LS w (tIfS c t1 t2) Γ S G :=
  ls_if fun σ R H as Q rl s k => h σ R H as Q rl s fun b' S1 R1 H1 as1 a1 a2 a3 ⟨e1, e2⟩ => k b' S1 R1 H1 as1 a1 a2 a3 (by subst e1 e2; exact ⟨h1, h2⟩)
theorem if_join {a b : Prop} (M : Env → List Own → Prop) (h1 : a → LS w t1 Γ S { G with nx := M }) (h2 : b → LS w t2 Γ S { G with nx := M }) (q : ∀ Γ1 S1, M Γ1 S1 → G.nx Γ1 S1) : (a → LS w t1 Γ S G) ∧ (b → LS w t2 Γ S G) :=
  ⟨fun z => ls_nx M (h1 z) q, fun z => ls_nx M (h2 z) q⟩
end
/-! ### [e(v) for v in xs], xs data of some kind -/
section
variable {w : Wd} {Γ : Env} {S : List Own} {k : KE} {ta tb te : TE}
theorem le_lcLM {α : Type} {tl : TE} {v : Nat} {tt : TT} (f F : α → D) (h : LE w tl Γ S fun e S1 => ∃ xs : List α, e = .d (.lst (xs.map f)) ∧ xs.length ≤ sizeLine ∧ (∀ x acc, x ∈ xs → LcD w Γ v tt te (f x) (S1 ++ [.lst acc]) (F x)) ∧ k (.d (.lst (xs.map F))) S1) : LE w (tLc (iList w.K tl) (gName v) tt te [v]) Γ S k := by
  refine le_lcL (le_mono h fun e S1 ⟨xs, h1, h2, h3, h4⟩ => ⟨xs.map f, h1, fun i acc S2 => S2 = S1 ∧ acc = (xs.take i).map F, ⟨rfl, rfl⟩, ?_, ?_⟩)
  · rintro i d acc _ hd _ ⟨rfl, rfl⟩
    rw [List.getElem?_map] at hd
    obtain ⟨x, hx, rfl⟩ := Option.map_eq_some_iff.mp hd
    obtain ⟨hi, he⟩ := List.getElem?_eq_some_iff.mp hx
    refine lcd_turn (h3 x _ (List.mem_of_getElem? hx)) (by rw [List.length_map, List.length_take]; omega) ⟨rfl, ?_⟩
    rw [List.take_succ_eq_append_getElem hi, List.map_append, he]; rfl
  · rintro acc _ ⟨rfl, rfl⟩
    rw [List.length_map, List.take_length]
    exact h4
end
/-! ### [.. for v in [a, b, ..]] over things of any kind -/
section
variable {w : Wd} {Γ : Env} {S : List Own} {k : KE} {ta tb te : TE}
def LcE (w : Wd) (Γ : Env) (v : Nat) (tt : TT) (te : TE) (x : Ent) (acc : List D) (S2 : List Own) (N : List D → List Own → Prop) : Prop :=
  LT w tt (Γ.set v (some x)) (S2 ++ [.lst acc]) fun b S3 =>
    (b = true → LE w te (Γ.set v (some x)) S3 fun e S4 => ∃ d S5, e = .d d ∧ S4 = S5 ++ [.lst acc] ∧ S5.length = S2.length ∧ acc.length < sizeLine ∧ N (acc ++ [d]) S5) ∧
    (b = false → ∃ S5, S3 = S5 ++ [.lst acc] ∧ S5.length = S2.length ∧ N acc S5)
theorem lc_turnE {v : Nat} {tt : TT} {σ : St} {R1 R2 H2 : Hp} {as1 as2 : List Addr} {S2 : List Own} {acc : List D} {x : Ent} {u : V} {Dl : Addr} {N : List D → List Own → Prop} (st : Sts w.K R1 as1 σ Γ)
    (rl : Rel w R2 H2 as2 (S2 ++ [.lst acc])) (sb : Sub R1 R2) (pr : Pre as1 as2) (hD : as2[S2.length]? = some Dl) (hx : EntOk w.K R2 as2 u x) (h : LcE w Γ v tt te x acc S2 N) :
    gName v u (wipe σ [v]) H2 fun σ2 H3 => wipe σ2 [v] = wipe σ [v] ∧ tt σ2 H3 fun b H4 => if b = true then te σ2 H4 fun y H5 => ∃ acc, H5 Dl = some (.lst acc) ∧ acc.length < sizeLine ∧ LcP w R1 as1 S2.length Dl N (upd H5 Dl (.lst (acc ++ [y]))) else LcP w R1 as1 S2.length Dl N H4 := by
  have e1 : (σ.set v none).set v (some u) = σ.set v (some u) := List.set_set ..
  refine ⟨?_, ?_⟩
  · show ((wipe σ [v]).set v (some u)).set v none = σ.set v none
    show (((σ.set v none).set v (some u))).set v none = σ.set v none
    rw [List.set_set, List.set_set]
  · have st2 : Sts w.K R2 as2 ((wipe σ [v]).set v (some u)) (Γ.set v (some x)) := by
      show Sts w.K R2 as2 ((σ.set v none).set v (some u)) _
      rw [e1]
      exact (st.mono sb pr).set v hx
    refine h _ R2 H2 as2 _ rl st2 fun b S3 R3 H3 as3 rl3 s3 p3 q => ?_
    cases b with
    | true =>
      rw [if_pos rfl]
      refine q.1 rfl _ R3 H3 as3 _ rl3 (st2.mono s3 p3) fun y e S4 R4 H4 as4 rl4 s4 p4 e4 q4 => ?_
      obtain ⟨d, S5, rfl, rfl, hl, hz, hn⟩ := q4
      have hi : (S5 ++ [Own.lst acc])[S5.length]? = some (.lst acc) := List.getElem?_concat_length
      have ha : as4[S5.length]? = some Dl := by rw [hl]; exact p4 _ _ (p3 _ _ hD)
      obtain ⟨⟨z, vs, c1, c2⟩, _⟩ := rl4.reg _ _ _ hi ha (by intro z; cases z)
      refine ⟨vs, c1, by rw [c2.len]; exact hz, S5, R4, as4, acc ++ [d], ?_, (sb.trans s3).trans s4, (pr.trans p3).trans p4, ha, hl, hn⟩
      have rl5 := rl4.write (o' := .lst (acc ++ [d])) (u := .lst (vs ++ [y])) hi ha (by intro z; cases z) (by intro z; cases z) ⟨z, _, upd_same, c2.append (.cons e4 .nil)⟩
      have es : (S5 ++ [Own.lst acc]).set S5.length (.lst (acc ++ [d])) = S5 ++ [.lst (acc ++ [d])] := by
        rw [List.set_append_right _ _ (Nat.le_refl _), Nat.sub_self]; rfl
      rw [es] at rl5
      exact rl5
    | false =>
      rw [if_neg Bool.false_ne_true]
      obtain ⟨S5, rfl, hl, hn⟩ := q.2 rfl
      exact ⟨S5, R3, as3, acc, rl3, sb.trans s3, pr.trans p3, by rw [hl]; exact p3 _ _ hD, hl, hn⟩
theorem ents_get {K : PySem.W.Frag} {R : Hp} {as : List Addr} : ∀ {vs : List V} {es : List Ent} {i : Nat} {v : V}, EntsOk K R as vs es → vs[i]? = some v → ∃ e, es[i]? = some e ∧ EntOk K R as v e
  | [], [], _, _, _, e => by simp at e
  | _ :: _, _ :: _, 0, _, ⟨h, _⟩, e => by simp at e; subst e; exact ⟨_, rfl, h⟩
  | _ :: _, _ :: _, i + 1, _, ⟨_, t⟩, e => by
    obtain ⟨x, h1, h2⟩ := ents_get (i := i) t (by simpa using e)
    exact ⟨x, by simpa using h1, h2⟩
  | [], _ :: _, _, _, h, _ => h.elim
  | _ :: _, [], _, _, h, _ => h.elim
theorem le_lcE {ta : TA} {v : Nat} {tt : TT} (h : LA w ta Γ S fun es S1 => es.length ≤ sizeLine ∧ ∃ I : Nat → List D → List Own → Prop, I 0 [] S1 ∧
    (∀ i e acc S2, es[i]? = some e → S2.length = S1.length → I i acc S2 → LcE w Γ v tt te e acc S2 (I (i + 1))) ∧ (∀ acc S2, I es.length acc S2 → k (.d (.lst acc)) S2)) : LE w (tLc (iList w.K (tLst ta)) (gName v) tt te [v]) Γ S k := fun σ R H as Q rl s c => by
  refine h σ R H as _ rl s fun vs es S1 R0 H0 as1 rl0 s0 p1 e0 ⟨hz, I, i0, is, iE⟩ => ⟨by rw [e0.len]; exact hz, fun p hp => ?_⟩
  obtain ⟨rl1, sp⟩ := rl0.alloc hp (.lst vs)
  have e1 : EntsOk w.K (upd R0 p (.lst vs)) as1 vs es := e0.mono sp (Pre.refl _)
  have ha : upd R0 p (.lst vs) p = some (.lst vs) := upd_same
  have s1 := s0.trans sp
  generalize upd R0 p (.lst vs) = R1 at *
  generalize upd H0 p (.lst vs) = H1 at *
  refine ⟨p, rfl, ⟨vs, SqL.of (rl1.sub _ _ ha)⟩, fun Dl hD => ?_⟩
  refine lc_list (xs := vs) (fun i H => LcP w R1 as1 S1.length Dl (I i) H) (lc_begin rl1 hD i0) (fun i H2 hi q => ?_) (fun i x H2 hx q => ?_) fun H2 q => ?_
  · obtain ⟨S2, R2, as2, acc, rl2, sb, pr, ha2, hl, hi2⟩ := q
    exact SqL.of (rl2.sub _ _ (sb _ _ ha))
  · obtain ⟨S2, R2, as2, acc, rl2, sb, pr, ha2, hl, hi2⟩ := q
    obtain ⟨d, hd1, hd2⟩ := ents_get e1 hx
    have := lc_turnE (Dl := Dl) (s.mono s1 p1) rl2 sb pr ha2 (hd2.mono sb pr) (is i d acc S2 hd1 hl hi2)
    rw [hl] at this
    exact this
  · rw [e1.len] at q
    obtain ⟨acc, S', R', as', q1, q2, q3, q4, q5⟩ := lc_end rl1.len rl1.as0_le q
    exact c _ _ S' R' _ as' q1 (s1.trans q2) (p1.trans q3) (ok_d q4) (iE acc S' q5)
end
section
variable {X : Cx} {e : Expr} {p pos : Pos} {te : TE}
theorem b_minL (hm : X.mg "min" = none) (he : PE X e te) (hc : X.calm = true := by rfl) (hg : Gl X "min" := by rfl) (hs : starEach [e] X.env = (false, eval e X.env) :: starEach [] X.env := by rfl) : PE X (.Call (.Name "min" p) [e] [] pos) (tCB (rMin X.K) (tCons te tNil)) :=
  pe_callB (cr_min hc) hg hm (by decide +kernel) (pa_cons he pa_nil hs) (he := hs)
theorem b_maxL (hm : X.mg "max" = none) (he : PE X e te) (hc : X.calm = true := by rfl) (hg : Gl X "max" := by rfl) (hs : starEach [e] X.env = (false, eval e X.env) :: starEach [] X.env := by rfl) : PE X (.Call (.Name "max" p) [e] [] pos) (tCB (rMax X.K) (tCons te tNil)) :=
  pe_callB (cr_max hc) hg hm (by decide +kernel) (pa_cons he pa_nil hs) (he := hs)
theorem b_minT (hu : X.A.units + 64 < cLine) (hm : X.mg "min" = none) (he : PE X e te) (hc : X.calm = true := by rfl) (hg : Gl X "min" := by rfl) (hs : starEach [e] X.env = (false, eval e X.env) :: starEach [] X.env := by rfl) : PE X (.Call (.Name "min" p) [e] [] pos) (tCB (gMinT X.K) (tCons te tNil)) :=
  pe_callB (c_minT hc (by omega)) hg hm (by decide +kernel) (pa_cons he pa_nil hs) (he := hs)
theorem b_tuple (hm : X.mg "tuple" = none) (he : PE X e te) (hg : Gl X "tuple" := by rfl) (hs : starEach [e] X.env = (false, eval e X.env) :: starEach [] X.env := by rfl) : PE X (.Call (.Name "tuple" p) [e] [] pos) (tCB (gTupl X.K) (tCons te tNil)) :=
  pe_callTy c_tuple hg hm (by decide +kernel) (pa_cons he pa_nil hs) (he := hs)
end
/-! ### in -/
section
theorem sl_listB {X : Cx} (K : PySem.W.Frag) (hK : X.K = K := by rfl) : L2.SlR X (rSlL K) := by subst hK; exact sl_list
theorem sl_tupB {X : Cx} (K : PySem.W.Frag) (hK : X.K = K := by rfl) : L2.SlR X (rSlT K) := by subst hK; exact sl_tup
variable {w : Wd} {Γ : Env} {S : List Own} {k : KE}
theorem Dens.strs {K : PySem.W.Frag} {R : Hp} : ∀ {vs : List V} {as : List Str}, Dens K R vs (as.map D.str) → vs = as.map V.str
  | _, [], r => by cases r; rfl
  | _, n :: ns, r => by
    cases r with
    | cons h r => cases h; rw [Dens.strs r]; rfl
theorem inV_strs (a : Str) : ∀ as : List Str, inV (.str a) (as.map V.str) = decide (a ∈ as)
  | [] => by simp [inV]
  | b :: as => by
    have ih := inV_strs a as
    unfold inV at ih ⊢
    rw [List.map_cons, List.any_cons, ih]
    show ((b == a) || decide (a ∈ as)) = decide (a ∈ b :: as)
    rw [Bool.eq_iff_iff, Bool.or_eq_true, decide_eq_true_iff, decide_eq_true_iff, List.mem_cons, beq_iff_eq]
    exact ⟨fun h => h.imp Eq.symm id, fun h => h.imp Eq.symm id⟩
theorem rr_inStr {a : Str} {as : List Str} (q : k (.d (.bl (decide (a ∈ as)))) S) : RR w (rIn w.K false) (.d (.str a)) (.d (.tup (as.map D.str))) S k := fun R H as' u v Q rl hu hv c => by
  cases hu
  cases hv with
  | tup ha hd =>
    have := Dens.strs hd
    subst this
    refine ⟨_, _, rfl, .inr (SqT.of (rl.sub _ _ ha)), rfl, by simp [flatV], ?_⟩
    rw [if_neg Bool.false_ne_true, inV_strs]
    exact c _ _ S R H as' rl (Sub.refl _) (Pre.refl _) (ok_d (Den.bl _)) q
end
/-! ### for i in range(a, b, c) -/
section
variable {w : Wd} {Γ : Env} {S : List Own} {G : GE} {t1 : TS}
theorem ls_forC {ta : TA} {g : TG} (h : LA w ta Γ S fun es S1 => ∃ i j c n, es = [.d (.int i), .d (.int j), .d (.int c)] ∧ RgC i j c n ∧ ∃ I : Nat → Env → List Own → Prop, I 0 Γ S1 ∧
    (∀ (t : Nat) Γ1 S2, t < n → I t Γ1 S2 → LG w g (.d (.int (i + t * c))) Γ1 S2 fun Γ2 S3 => LS w t1 Γ2 S3 { G with nx := I (t + 1), ct := I (t + 1), bk := G.nx }) ∧ (∀ Γ1 S2, I n Γ1 S2 → G.nx Γ1 S2)) : LS w (tFor (iRng3 ta) g t1) Γ S G := fun D σ R H as rl s e => by
  refine h σ R H as _ rl s fun vs es S1 R1 H1 as1 rl1 s1 p1 e1 ⟨i, j, c, n, h1, hr, I, i0, is, iE⟩ => ?_
  subst h1
  match vs, e1 with
  | [x, y, z], ⟨q1, q2, q3, _⟩ =>
    cases q1; cases q2; cases q3
    refine ⟨i, j, c, n, rfl, hr, ?_⟩
    refine for_rangeC (fun i σ' H' => ∃ Γ' S' R' as', Sub R R' ∧ Rel w R' H' as' S' ∧ Sts w.K R' as' σ' Γ' ∧ I i Γ' S') ⟨Γ, S1, R1, as1, s1, rl1, s.mono s1 p1, i0⟩ ?_ ?_
    · rintro i σ2 H2 hi ⟨Γ2, S2, R2, as2, u2, rl2, st2, i2⟩
      refine is i Γ2 S2 hi i2 _ σ2 R2 H2 as2 _ rl2 st2 (Den.int _) fun Γ3 S3 σ3 R3 H3 as3 rl3 s3 p3 st3 q => ?_
      have up := u2.trans s3
      have e2 := e.up up
      exact q _ σ3 R3 H3 as3 rl3 st3 ⟨fun Γ' S' σ' R' H' as' u a b hi => ⟨Γ', S', R', as', up.trans u, a, b, hi⟩, e2.rt, e2.nx, fun Γ' S' σ' R' H' as' u a b hi => ⟨Γ', S', R', as', up.trans u, a, b, hi⟩⟩
    · rintro σ2 H2 ⟨Γ2, S2, R2, as2, u2, rl2, st2, i2⟩
      exact e.nx Γ2 S2 σ2 R2 H2 as2 u2 rl2 st2 (iE Γ2 S2 i2)
end
end Gm
set_option maxHeartbeats 8000000
set_option exponentiation.threshold 10000
namespace My
open PySem L2 Gm
def topS (i : Nat) : Stmt := PySem.Challenge.pw_fitsizes_k07_errors_of_pipelines.main.body.getD i (.Pass ⟨0, 0, 0, 0⟩)
abbrev snamed_rows : Stmt := topS 15
abbrev Nnamed_rows : List Str := ["step"]
theorem scnamed_rows : FnScope Nnamed_rows ["step"] (defScope snamed_rows) := ⟨rfl, rfl, rfl, by decide +kernel, rfl, by decide +kernel, by decide +kernel⟩
abbrev shas_right_numbers : Stmt := topS 16
abbrev Nhas_right_numbers : List Str := ["step", "numbers", "length", "stride", "pad"]
theorem schas_right_numbers : FnScope Nhas_right_numbers ["step"] (defScope shas_right_numbers) := ⟨rfl, rfl, rfl, by decide +kernel, rfl, by decide +kernel, by decide +kernel⟩
abbrev sis_step : Stmt := topS 17
abbrev Nis_step : List Str := ["step"]
theorem scis_step : FnScope Nis_step ["step"] (defScope sis_step) := ⟨rfl, rfl, rfl, by decide +kernel, rfl, by decide +kernel, by decide +kernel⟩
abbrev sis_right : Stmt := topS 18
abbrev Nis_right : List Str := ["step", "number"]
theorem scis_right : FnScope Nis_right ["step", "number"] (defScope sis_right) := ⟨rfl, rfl, rfl, by decide +kernel, rfl, by decide +kernel, by decide +kernel⟩
abbrev s_law_pool : Stmt := topS 21
abbrev N_law_pool : List Str := ["script", "at", "given"]
theorem sc_law_pool : FnScope N_law_pool ["script", "at"] (defScope s_law_pool) := ⟨rfl, rfl, rfl, by decide +kernel, rfl, by decide +kernel, by decide +kernel⟩
abbrev s_law_draw : Stmt := topS 22
abbrev N_law_draw : List Str := ["pool", "many", "drawn", "mixed"]
theorem sc_law_draw : FnScope N_law_draw ["pool", "many"] (defScope s_law_draw) := ⟨rfl, rfl, rfl, by decide +kernel, rfl, by decide +kernel, by decide +kernel⟩
abbrev s_law_lesser : Stmt := topS 23
abbrev N_law_lesser : List Str := ["one", "two", "first", "second"]
theorem sc_law_lesser : FnScope N_law_lesser ["one", "two"] (defScope s_law_lesser) := ⟨rfl, rfl, rfl, by decide +kernel, rfl, by decide +kernel, by decide +kernel⟩
abbrev s_law_window : Stmt := topS 24
abbrev N_law_window : List Str := ["pool", "strides", "stride", "wide"]
theorem sc_law_window : FnScope N_law_window ["pool", "strides"] (defScope s_law_window) := ⟨rfl, rfl, rfl, by decide +kernel, rfl, by decide +kernel, by decide +kernel⟩
abbrev s_law_joined : Stmt := topS 25
abbrev N_law_joined : List Str := ["pool", "ratios", "pairs", "one", "two"]
theorem sc_law_joined : FnScope N_law_joined ["pool", "ratios"] (defScope s_law_joined) := ⟨rfl, rfl, rfl, by decide +kernel, rfl, by decide +kernel, by decide +kernel⟩
abbrev s_law_steps : Stmt := topS 26
abbrev N_law_steps : List Str := ["pool", "many", "some", "ratios", "strides", "times", "joins", "turn", "spot", "top", "bottom", "way", "wide", "stride", "edge", "often", "one", "two", "pair", "turn_here"]
theorem sc_law_steps : FnScope N_law_steps ["pool", "many"] (defScope s_law_steps) := ⟨rfl, rfl, rfl, by decide +kernel, rfl, by decide +kernel, by decide +kernel⟩
abbrev s_law_told : Stmt := topS 27
abbrev N_law_told : List Str := ["some", "e", "odd"]
theorem sc_law_told : FnScope N_law_told ["some"] (defScope s_law_told) := ⟨rfl, rfl, rfl, by decide +kernel, rfl, by decide +kernel, by decide +kernel⟩
abbrev s_law_is_step : Stmt := topS 28
abbrev N_law_is_step : List Str := ["step", "spot", "good"]
theorem sc_law_is_step : FnScope N_law_is_step ["step", "spot"] (defScope s_law_is_step) := ⟨rfl, rfl, rfl, by decide +kernel, rfl, by decide +kernel, by decide +kernel⟩
abbrev s_law_bent : Stmt := topS 29
abbrev N_law_bent : List Str := ["pool", "step", "spot", "way", "number_here", "pairs", "fresh"]
theorem sc_law_bent : FnScope N_law_bent ["pool", "step", "spot"] (defScope s_law_bent) := ⟨rfl, rfl, rfl, by decide +kernel, rfl, by decide +kernel, by decide +kernel⟩
abbrev s_law_right : Stmt := topS 30
abbrev N_law_right : List Str := ["pool", "some", "lap", "spot", "held", "due"]
theorem sc_law_right : FnScope N_law_right ["pool"] (defScope s_law_right) := ⟨rfl, rfl, rfl, by decide +kernel, rfl, by decide +kernel, by decide +kernel⟩
abbrev slaw : Stmt := topS 31
abbrev Nlaw : List Str := ["script", "at", "pool", "turn", "some", "one"]
theorem sclaw : FnScope Nlaw ["script"] (defScope slaw) := ⟨rfl, rfl, rfl, by decide +kernel, rfl, by decide +kernel, by decide +kernel⟩
abbrev sSizeErrorinit : Stmt := inClass (topS 2) 0
abbrev NSizeErrorinit : List Str := ["self", "value"]
theorem scSizeErrorinit : FnScope NSizeErrorinit ["self", "value"] (defScope sSizeErrorinit) := ⟨rfl, rfl, rfl, by decide +kernel, rfl, by decide +kernel, by decide +kernel⟩
abbrev sPipelineinit : Stmt := inClass (topS 19) 0
abbrev NPipelineinit : List Str := ["self", "steps", "number", "step"]
theorem scPipelineinit : FnScope NPipelineinit ["self", "steps"] (defScope sPipelineinit) := ⟨rfl, rfl, rfl, by decide +kernel, rfl, by decide +kernel, by decide +kernel⟩
/-- names that are still the built-ins -/
structure Blt (mg : Str → Option Value) : Prop where
  len : mg "len" = none
  int : mg "int" = none
  range : mg "range" = none
  abs : mg "abs" = none
  max : mg "max" = none
  min : mg "min" = none
  list : mg "list" = none
  isinstance : mg "isinstance" = none
  tuple : mg "tuple" = none
  enumerate : mg "enumerate" = none
  ValueError : mg "ValueError" = none
abbrev lz (s : List Int) : D := .lst (s.map D.int)
theorem ixI {s : List Int} {i : Int} (h0 : 0 ≤ i) (h : i < s.length) : atI (s.map D.int) i = some (.int (s.getD i.toNat 0)) := by
  unfold atI ixN
  rw [List.length_map, if_pos h0, if_pos h]
  show (s.map D.int)[i.toNat]? = _
  rw [List.getElem?_map, List.getD_eq_getElem?_getD, List.getElem?_eq_getElem (show i.toNat < s.length by omega)]
  rfl
theorem ixL {s : List Int} (h : 0 < s.length) : atI (s.map D.int) (-1) = some (.int (s.getD (s.length - 1) 0)) := by
  unfold atI ixN
  rw [List.length_map, if_neg (by decide), if_pos (show -(s.length : Int) ≤ -1 by omega)]
  show (s.map D.int)[(-1 + (s.length : Int)).toNat]? = _
  have e : (-1 + (s.length : Int)).toNat = s.length - 1 := by omega
  rw [e, List.getElem?_map, List.getD_eq_getElem?_getD, List.getElem?_eq_getElem (show s.length - 1 < s.length by omega)]
  rfl
theorem len_lz (s : List Int) : lenOf (lz s) = some s.length := by show some (s.map D.int).length = _; rw [List.length_map]
theorem neI {a b : Int} (h : (!decide (V.int a = V.int b)) = true) : a ≠ b := fun e => by subst e; simp at h
theorem eqI {a b : Int} (h : (!decide (V.int a = V.int b)) = false) : a = b := by simp at h; exact h
theorem eqI' {a b : Int} (h : decide (V.int a = V.int b) = true) : a = b := by simp at h; exact h
theorem neI' {a b : Int} (h : decide (V.int a = V.int b) = false) : a ≠ b := by simp at h; exact h

local macro_rules | `(tactic| walk_at "go") => `(tactic| (first
  | ((with_reducible refine le_var (e := ?e) ?h ?_); (case h => rfl))
  | with_reducible refine le_int ?_
  | with_reducible refine le_op ?_
  | with_reducible refine rr_int0 ?_
  | with_reducible refine rr_bl0 ?_
  | with_reducible refine le_cb ?_
  | with_reducible refine la_cons ?_
  | with_reducible refine la_nil ?_
  | with_reducible refine rc_int ?_
  | with_reducible refine ls_seq ?_
  | with_reducible refine ls_set ?_
  | with_reducible refine ls_ret ?_
  | with_reducible refine ls_next ?_
  | with_reducible refine ls_drop ?_
  | with_reducible refine ls_fld ?_
  | with_reducible refine le_methK ?_
  | with_reducible refine le_callK ?_
  | with_reducible refine ls_if ?_
  | with_reducible refine lt_test ?_
  | ((with_reducible refine rr_ixO (ds := ?ds) (d := ?d) ?h1 ?h2 ?_); (case h1 => rfl); (case h2 => rfl))
  | ((with_reducible refine rr_ixT (ds := ?ds) (d := ?d) ?h ?_); (case h => rfl))
  | with_reducible refine le_un ?_
  | with_reducible refine r1_int ?_
  | with_reducible refine ls_asg ?_
  | with_reducible refine lg_name ?_
  | with_reducible refine lg_tup2 ?_
  | with_reducible refine lg_tup3 ?_
  | with_reducible refine lg_tup4 ?_
  | with_reducible refine lg_tup5 ?_
  | with_reducible refine lg_sub ?_
  | with_reducible refine le_tup ?_
  | with_reducible refine le_lst ?_
  | with_reducible refine le_bl ?_
  | with_reducible refine le_str ?_
  | with_reducible refine le_non ?_
  | with_reducible refine le_cls ?_
  | with_reducible refine le_ty ?_
  | with_reducible refine la_perm ?_
  | with_reducible refine le_chain ?_
  | with_reducible refine le_call ?_
  | with_reducible refine le_bmL ?_
  | with_reducible refine le_bmL0 ?_
  | with_reducible refine le_if ?_
  | with_reducible refine lt_and ?_
  | with_reducible refine lt_or ?_
  | with_reducible refine lt_not ?_
  | with_reducible refine lt_tb ?_
  | with_reducible refine le_andV ?_
  | with_reducible refine le_orV ?_
  | with_reducible refine le_notV ?_
  | with_reducible refine le_fld ?_
  | with_reducible refine le_meth ?_
  | with_reducible refine le_prop ?_
  | with_reducible refine le_slL ?_
  | with_reducible refine le_slT ?_
  | with_reducible refine lo_none ?_
  | with_reducible refine lo_some ?_
  | with_reducible refine le_listRg2 ?_
  | with_reducible refine lt_yes ?_
  | with_reducible refine lcd_yes ?_
  | with_reducible refine ls_par ?_
  | with_reducible refine ls_retN ?_
  | with_reducible refine ls_brk ?_
  | with_reducible refine ls_cont ?_
  | with_reducible refine rc_len (len_lz _) ?_
  | ((with_reducible refine rc_len (n := ?n) ?h ?_); (case h => rfl))
  | ((with_reducible refine rc_lenO (ds := ?ds) ?h ?_); (case h => rfl))
  | with_reducible refine rc_abs ?_
  | with_reducible refine rc_max2 ?_
  | with_reducible refine rc_min2 ?_
  | ((with_reducible refine rr_eq (u := ?u) (v := ?v) ?h1 ?h2 ?h3 ?_); (case h1 => rfl); (case h2 => rfl); (case h3 => rfl))
  | ((with_reducible refine rr_ne (u := ?u) (v := ?v) ?h1 ?h2 ?h3 ?_); (case h1 => rfl); (case h2 => rfl); (case h3 => rfl))
  | with_reducible refine rr_isN ?_
  | with_reducible refine rr_notN ?_
  | refine ⟨_, rfl, sz rfl, ?_⟩
  | refine ⟨_, rfl, ?_⟩
  ))

local macro_rules | `(tactic| walk_at "gg") => `(tactic| repeat walk_at "go")
local macro_rules | `(tactic| walk_at "envle") => `(tactic| repeat (first | exact EnvLe.nil | refine EnvLe.same rfl ?_ | refine EnvLe.none ?_))

-- sSizeErrorinit snamed_rows shas_right_numbers sis_step sis_right sPipelineinit s_law_pool s_law_draw s_law_lesser s_law_window s_law_joined s_law_steps s_law_told s_law_is_step s_law_bent s_law_right slaw

section
/-- what == asks of the classes -/
structure EqC (K : PySem.W.Frag) (C : Addr) : Prop where
  ty : InsTy K C
  own : PySem.W.kitOne K (.ref C) (.ref C) = some true
  nf : PySem.W.notFirst K C (.ref C) = true
  kn : PySem.W.kitOne K (.type "NoneType") (.ref C) = some false
  ki : PySem.W.kitOne K (.type "int") (.ref C) = some false
  ks : PySem.W.kitOne K (.type "str") (.ref C) = some false
  kl : PySem.W.kitOne K (.type "list") (.ref C) = some false
  kt : PySem.W.kitOne K (.type "tuple") (.ref C) = some false
  fn : PySem.W.notFirst K C (.type "NoneType") = true
  fi : PySem.W.notFirst K C (.type "int") = true
  fs : PySem.W.notFirst K C (.type "str") = true
  fl : PySem.W.notFirst K C (.type "list") = true
  ft : PySem.W.notFirst K C (.type "tuple") = true
end

section
variable {P : Program} {w0 : World} {K : PySem.W.Frag} {mg : Str → Option Value} {base : Heap}
theorem ok_xinit {f : Addr} {fd : FuncData} (F : Fun K "__init__" "SizeError.__init__" sSizeErrorinit f fd) : FnOk P w0 K mg base CX0 1 f fd ["self", "value"] (spXi K) := by
  refine F.ok scSizeErrorinit (fun vs H Q E ⟨a, C, z, h, _⟩ => by rw [h]; rfl) (fun cdv A outer s H vs Q E hr h => ?_)
  obtain ⟨a, C, z, rfl, hC, hn, ha, hq⟩ := h
  refine ⟨_, pss_one (ps_ost (pv 0) (pv 1)), ?_⟩
  dsimp only [L2.cxOf, L2.Cx.nox]
  exact ⟨z, rfl, ⟨.ref a, rfl, a, C, rfl, hC, hn, .inl ⟨ha, fun dx h1 h2 => hq dx h1 h2⟩⟩⟩
end

section
variable {P : Program} {w0 : World} {K : PySem.W.Frag} {mg : Str → Option Value} {base : Heap}
abbrev GS := Str × List Int
abbrev gD (g : GS) : D := .tup (.str g.1 :: g.2.map D.int)
/-- steps of the five words -/
inductive Stp where
  | win (r l s p : Int) | rep (r t : Int) | crop (r a b : Int) | pad (r a b : Int) | join (r o : Int)
deriving DecidableEq
def Stp.g : Stp → GS
  | .win r l s p => ("window", [r, l, s, p])
  | .rep r t => ("repeat", [r, t])
  | .crop r a b => ("crop", [r, a, b])
  | .pad r a b => ("pad", [r, a, b])
  | .join r o => ("join", [r, o])
abbrev Stp.d (x : Stp) : D := gD x.g
def Stp.rows : Stp → List Int
  | .win r _ _ _ => [r] | .rep r _ => [r] | .crop r _ _ => [r] | .pad r _ _ => [r] | .join r o => [r, o]
def Stp.nums : Stp → Bool
  | .win _ l s p => decide (1 ≤ s) && decide (s ≤ l) && (decide (0 ≤ p) && decide (p < l))
  | .rep _ t => decide (1 ≤ t)
  | .crop _ a b => decide (0 ≤ a) && decide (0 ≤ b)
  | .pad _ a b => decide (0 ≤ a) && decide (0 ≤ b)
  | .join _ _ => true
def Stp.ok (n : Int) : Stp → Bool
  | .win r l s p => decide (0 ≤ r) && decide (r ≤ n) && (Stp.win r l s p).nums
  | .rep r t => decide (0 ≤ r) && decide (r ≤ n) && (Stp.rep r t).nums
  | .crop r a b => decide (0 ≤ r) && decide (r ≤ n) && (Stp.crop r a b).nums
  | .pad r a b => decide (0 ≤ r) && decide (r ≤ n) && (Stp.pad r a b).nums
  | .join r o => decide (0 ≤ r) && decide (r ≤ n) && (decide (0 ≤ o) && decide (o ≤ n)) && decide (r ≠ o)
def Stp.moved (k : Int) : Stp → Stp
  | .win r l s p => .win (r + k) l s p
  | .rep r t => .rep (r + k) t
  | .crop r a b => .crop (r + k) a b
  | .pad r a b => .pad (r + k) a b
  | .join r o => .join (r + k) (o + k)
theorem ix0 {x : D} {xs : List D} : atI (x :: xs) 0 = some x := by
  unfold atI ixN
  rw [if_pos (Int.le_refl _), if_pos (by simp only [List.length_cons]; omega)]
  rfl
theorem sNe {a b : Str} (h : a ≠ b) : decide (V.str a = V.str b) = false := decide_eq_false fun e => h (by cases e; rfl)
theorem sT {a b : Str} (e : a = b) (h : decide (V.str a = V.str b) = false) : False := by subst e; simp at h
theorem sF {a b : Str} (e : a ≠ b) (h : decide (V.str a = V.str b) = true) : False := by rw [sNe e] at h; cases h
theorem sEq {a : Str} : decide (V.str a = V.str a) = true := decide_eq_true rfl
def dsNamed : DS := ds (α := Stp) (fun a es S => es = [.d a.d] ∧ S = []) (fun a e S' => e = .d (lz a.rows) ∧ S' = [])
theorem ok_named {f : Addr} {fd : FuncData} (F : Fun K "named_rows" "named_rows" snamed_rows f fd) (T : Blt mg) : FnOk P w0 K mg base CX0 1 f fd ["step"] (spD K dsNamed) := by
  refine fn0 F scnamed_rows (fun es S p e h => by obtain ⟨a, ⟨h, _⟩, _⟩ := h; rw [h]; rfl) (fun cdv A outer s H E hr w es S p e hK hA h => ?_)
  subst hK
  obtain ⟨a, ⟨rfl, rfl⟩, hp⟩ := h
  refine ⟨_, (pss_cons (ps_if (pt_cmpR op_eq (pe_ix ix_tup (pv 0) pe_int (fun _ _ => rfl)) pe_str (nomark _))
      (pss_one (ps_ret (pe_lst (pa_cons (pe_ix ix_tup (pv 0) pe_int (fun _ _ => rfl)) (pa_cons (pe_ix ix_tup (pv 0) pe_int (fun _ _ => rfl)) pa_nil)))))
      pss_nil)
    (pss_one (ps_ret (pe_lst (pa_cons (pe_ix ix_tup (pv 0) pe_int (fun _ _ => rfl)) pa_nil))))), ?_⟩
  try dsimp only [L2.cxOf, L2.Cx.nox]
  cases a with
  | join r o =>
    dsimp only [Stp.d, Stp.g, gD, List.map] at hp ⊢
    walk_at "gg"
    refine ⟨fun _ => ?_, fun hb => absurd hb (by decide +kernel)⟩
    walk_at "gg"
    exact hp _ _ ⟨rfl, rfl⟩
  | _ =>
    dsimp only [Stp.d, Stp.g, gD, List.map] at hp ⊢
    walk_at "gg"
    refine ⟨fun hb => absurd hb (by decide +kernel), fun _ => ?_⟩
    walk_at "gg"
    exact hp _ _ ⟨rfl, rfl⟩
theorem six2 {n : Nat} {d : Nat} : HT.sIx (n + 2) d (some 2) = 2 := by
  rw [show (some (2 : Int)) = some ((2 : Nat) : Int) from rfl, HT.sIx_nat]; omega
theorem no2 {a b : D} {xs : List D} {q : Prop} : ¬(HT.sIx (a :: b :: xs).length 0 (some 2) = 0 ∧ q) := fun h => by
  have e : HT.sIx (a :: b :: xs).length 0 (some 2) = 2 := six2
  rw [e] at h; omega
theorem cut2 {a b : D} {xs : List D} : cutD (a :: b :: xs) (some 2) none = xs := by
  unfold cutD
  have e : HT.sIx (a :: b :: xs).length 0 (some 2) = 2 := six2
  rw [e, HT.sIx_none]
  show List.take (xs.length + 2 - 2) xs = xs
  rw [Nat.add_sub_cancel, List.take_length]
def dsNums : DS := ds (α := Stp) (fun a es S => es = [.d a.d] ∧ S = [] ∧ a.g.1 ≠ "join") (fun a e S' => e = .d (.bl a.nums) ∧ S' = [])
theorem ok_nums {f : Addr} {fd : FuncData} (F : Fun K "has_right_numbers" "has_right_numbers" shas_right_numbers f fd) (T : Blt mg) : FnOk P w0 K mg base CX0 1 f fd ["step"] (spD K dsNums) := by
  refine fn0 F schas_right_numbers (fun es S p e h => by obtain ⟨a, ⟨h, _⟩, _⟩ := h; rw [h]; rfl) (fun cdv A outer s H E hr w es S p e hK hA h => ?_)
  subst hK
  obtain ⟨a, ⟨rfl, rfl, hj⟩, hp⟩ := h
  refine ⟨_, (pss_cons (sset 1 (pe_slice sl_tup (pv 0) (po_some pe_int) po_none) schas_right_numbers.nd)
    (pss_cons (ps_if (pt_cmpR op_eq (pe_ix ix_tup (pv 0) pe_int (fun _ _ => rfl)) pe_str (nomark _))
      (pss_cons (ps_asg (pv 1) (pg_tup (n := 3) (by rfl) (pgs_cons (gn 2 schas_right_numbers.nd) (pgs_cons (gn 3 schas_right_numbers.nd) (pgs_cons (gn 4 schas_right_numbers.nd) pgs_nil)))))
      (pss_one (ps_ret (pe_and (pe_chain op_le op_le pe_int (pv 3) (pv 2)) (pe_one (pe_chain op_le op_lt pe_int (pv 4) (pv 2)))))))
      pss_nil)
    (pss_cons (ps_if (pt_cmpR op_eq (pe_ix ix_tup (pv 0) pe_int (fun _ _ => rfl)) pe_str (nomark _))
      (pss_one (ps_ret (pe_cmpR op_ge (pe_ix ix_tup (pv 1) pe_int (fun _ _ => rfl)) pe_int (nomark _))))
      pss_nil)
    (pss_one (ps_ret (pe_cmpR op_ge (b_minT hr.units T.min (pv 1)) pe_int (nomark _))))))), ?_⟩
  try dsimp only [L2.cxOf, L2.Cx.nox]
  cases a with
  | join r o => exact absurd rfl hj
  | win r l s p =>
    dsimp only [Stp.d, Stp.g, gD, List.map] at hp ⊢
    walk_at "gg"
    refine ⟨no2, ?_⟩
    rw [cut2]
    walk_at "gg"
    refine ⟨fun _ => ?_, fun hb => absurd hb (by decide +kernel)⟩
    walk_at "gg"
    refine ⟨fun h1 => ?_, fun h1 => ?_⟩
    · walk_at "gg"
      refine ⟨fun h2 => ?_, fun h2 => ?_⟩
      · walk_at "gg"
        refine ⟨fun h3 => ?_, fun h3 => ?_⟩
        · walk_at "gg"
          exact hp _ _ ⟨by simp only [Stp.nums, h1, h2, h3, Bool.true_and], rfl⟩
        · exact hp _ _ ⟨by simp only [Stp.nums, h1, h2, h3, Bool.true_and, Bool.false_and], rfl⟩
      · walk_at "gg"
        exact hp _ _ ⟨by simp only [Stp.nums, h1, h2, Bool.true_and, Bool.false_and], rfl⟩
    · walk_at "gg"
      refine ⟨fun z => Bool.noConfusion z, fun _ => ?_⟩
      exact hp _ _ ⟨by simp only [Stp.nums, h1, Bool.true_and, Bool.false_and], rfl⟩
  | rep r t =>
    dsimp only [Stp.d, Stp.g, gD, List.map] at hp ⊢
    walk_at "gg"
    refine ⟨no2, ?_⟩
    rw [cut2]
    walk_at "gg"
    refine ⟨fun hb => absurd hb (by decide +kernel), fun _ => ?_⟩
    walk_at "gg"
    refine ⟨fun _ => ?_, fun hb => absurd hb (by decide +kernel)⟩
    walk_at "gg"
    exact hp _ _ ⟨rfl, rfl⟩
  | _ =>
    dsimp only [Stp.d, Stp.g, gD, List.map] at hp ⊢
    walk_at "gg"
    refine ⟨no2, ?_⟩
    rw [cut2]
    walk_at "gg"
    refine ⟨fun hb => absurd hb (by decide +kernel), fun _ => ?_⟩
    walk_at "gg"
    refine ⟨fun hb => absurd hb (by decide +kernel), fun _ => ?_⟩
    walk_at "gg"
    refine rc_minT (ns := [_]) ?_
    walk_at "gg"
    refine hp _ _ ⟨?_, rfl⟩
    simp only [Stp.nums, List.foldl, ← Bool.decide_and, Int.le_min, ge_iff_le]
def words : List Str := ["window", "repeat", "crop", "pad", "join", "windows", "", "Pad"]
/-- the numbers of items by word -/
structure Items (K : PySem.W.Frag) (w0 : World) (DI : Addr) : Prop where
  kd : KD K w0 DI
  win : KGet K DI "window" (.int 5)
  rep : KGet K DI "repeat" (.int 3)
  crop : KGet K DI "crop" (.int 4)
  pad : KGet K DI "pad" (.int 4)
  join : KGet K DI "join" (.int 3)
  o1 : KGet K DI "windows" .non
  o2 : KGet K DI "" .non
  o3 : KGet K DI "Pad" .non
theorem named {w : Wd} {S : List Own} {E : XK} {k : KE} {x : Stp} (h : k (.d (lz x.rows)) S) : RS w dsNamed E [.d x.d] S k := r0 x ⟨rfl, rfl⟩ fun e S' ⟨h1, h2⟩ => ⟨_, h2, h1, h⟩
theorem nums {w : Wd} {S : List Own} {E : XK} {k : KE} {x : Stp} (hj : x.g.1 ≠ "join") (h : k (.d (.bl x.nums)) S) : RS w dsNums E [.d x.d] S k := r0 x ⟨rfl, rfl, hj⟩ fun e S' ⟨h1, h2⟩ => ⟨_, h2, h1, h⟩
theorem Items.get {K : PySem.W.Frag} {w0 : World} {DI : Addr} (It : Items K w0 DI) (a : Stp) : KGet K DI a.g.1 (.int ((a.g.2.length + 1 : Nat) : Int)) := by
  cases a
  · exact It.win
  · exact It.rep
  · exact It.crop
  · exact It.pad
  · exact It.join
theorem Stp.rows_pos (a : Stp) : 0 < a.rows.length := by cases a <;> simp [Stp.rows]
def Stp.tail : Stp → Bool
  | .join r o => decide (r ≠ o)
  | a => a.nums
theorem Stp.ok_eq (a : Stp) (n : Int) : a.ok n = (a.rows.all (fun r => decide (0 ≤ r)) && a.rows.all (fun r => decide (r ≤ n)) && a.tail) := by
  cases a <;> simp only [Stp.ok, Stp.rows, Stp.tail, List.all_cons, List.all_nil, Bool.and_true] <;> ac_rfl
end

section
variable {P : Program} {w0 : World} {K : PySem.W.Frag} {mg : Str → Option Value} {base : Heap}
/-- the step with these items -/
def toS (g : GS) : Option Stp :=
  match g.2 with
  | [r, l, s, p] => if g.1 = "window" then some (.win r l s p) else none
  | [r, a] => if g.1 = "repeat" then some (.rep r a) else if g.1 = "join" then some (.join r a) else none
  | [r, a, b] => if g.1 = "crop" then some (.crop r a b) else if g.1 = "pad" then some (.pad r a b) else none
  | _ => none
theorem toS_g (x : Stp) : toS x.g = some x := by
  cases x with
  | win r l s p => show (if ("window" : Str) = "window" then some (Stp.win r l s p) else none) = _; rw [if_pos rfl]
  | rep r a => show (if ("repeat" : Str) = "repeat" then some (Stp.rep r a) else if ("repeat" : Str) = "join" then some (Stp.join r a) else none) = _; rw [if_pos rfl]
  | crop r a b => show (if ("crop" : Str) = "crop" then some (Stp.crop r a b) else if ("crop" : Str) = "pad" then some (Stp.pad r a b) else none) = _; rw [if_pos rfl]
  | pad r a b => show (if ("pad" : Str) = "crop" then some (Stp.crop r a b) else if ("pad" : Str) = "pad" then some (Stp.pad r a b) else none) = _; rw [if_neg (by decide +kernel), if_pos rfl]
  | join r o => show (if ("join" : Str) = "repeat" then some (Stp.rep r o) else if ("join" : Str) = "join" then some (Stp.join r o) else none) = _; rw [if_neg (by decide +kernel), if_pos rfl]
theorem g_toS {g : GS} {x : Stp} (h : toS g = some x) : x.g = g := by
  obtain ⟨w, ns⟩ := g
  unfold toS at h
  dsimp only at h
  split at h
  · split at h
    · rename_i e; cases h; subst e; rfl
    · cases h
  · split at h
    · rename_i e; cases h; subst e; rfl
    · split at h
      · rename_i e; cases h; subst e; rfl
      · cases h
  · split at h
    · rename_i e; cases h; subst e; rfl
    · split at h
      · rename_i e; cases h; subst e; rfl
      · cases h
  · cases h
def rB (g : GS) (n : Int) : Bool := match toS g with
  | some x => x.ok n
  | none => false
theorem rB_g (x : Stp) (n : Int) : rB x.g n = x.ok n := by unfold rB; rw [toS_g]
theorem rB_no {g : GS} {n : Int} (h : toS g = none) : rB g n = false := by unfold rB; rw [h]
/-- the number of items that a word asks for -/
theorem bad_get {w0 : World} {DI : Addr} (It : Items K w0 DI) {g : GS} (hw : g.1 ∈ words) (h : toS g = none) : ∃ d v, KGet K DI g.1 v ∧ flatD d = some v ∧ scal (.int ((g.2.length + 1 : Nat) : Int)) v = true ∧ V.int ((g.2.length + 1 : Nat) : Int) ≠ v := by
  obtain ⟨w, ns⟩ := g
  have key : ∀ L : Nat, ns.length ≠ L → V.int ((ns.length + 1 : Nat) : Int) ≠ V.int ((L + 1 : Nat) : Int) := fun L hn e => by
    injection e with e; omega
  unfold words at hw
  simp only [List.mem_cons, List.not_mem_nil, or_false] at hw
  rcases hw with rfl | rfl | rfl | rfl | rfl | rfl | rfl | rfl
  · refine ⟨.int 5, _, It.win, rfl, rfl, key 4 fun e => ?_⟩
    match ns, e with
    | [r, l, s, p], _ => have := toS_g (.win r l s p); exact absurd (this.symm.trans h) (by simp)
  · refine ⟨.int 3, _, It.rep, rfl, rfl, key 2 fun e => ?_⟩
    match ns, e with
    | [r, l], _ => have := toS_g (.rep r l); exact absurd (this.symm.trans h) (by simp)
  · refine ⟨.int 4, _, It.crop, rfl, rfl, key 3 fun e => ?_⟩
    match ns, e with
    | [r, l, s], _ => have := toS_g (.crop r l s); exact absurd (this.symm.trans h) (by simp)
  · refine ⟨.int 4, _, It.pad, rfl, rfl, key 3 fun e => ?_⟩
    match ns, e with
    | [r, l, s], _ => have := toS_g (.pad r l s); exact absurd (this.symm.trans h) (by simp)
  · refine ⟨.int 3, _, It.join, rfl, rfl, key 2 fun e => ?_⟩
    match ns, e with
    | [r, l], _ => have := toS_g (.join r l); exact absurd (this.symm.trans h) (by simp)
  · exact ⟨.non, _, It.o1, rfl, rfl, fun e => by cases e⟩
  · exact ⟨.non, _, It.o2, rfl, rfl, fun e => by cases e⟩
  · exact ⟨.non, _, It.o3, rfl, rfl, fun e => by cases e⟩
def dsIsRightG : DS := ds (α := GS × Int) (fun a es S => es = [.d (gD a.1), .d (.int a.2)] ∧ S = [] ∧ a.1.1 ∈ words) (fun a e S' => e = .d (.bl (rB a.1 a.2)) ∧ S' = [])
def Stp.lone (a : Stp) : Bool := a.rows.all (fun r => decide (0 ≤ r)) && a.tail
theorem Stp.ok_lone (a : Stp) (n : Int) : a.ok n = (a.lone && a.rows.all (fun r => decide (r ≤ n))) := by
  rw [Stp.ok_eq, Stp.lone]; ac_rfl
def lB (g : GS) : Bool := match toS g with
  | some x => x.lone
  | none => false
theorem lB_g (x : Stp) : lB x.g = x.lone := by unfold lB; rw [toS_g]
theorem lB_no {g : GS} (h : toS g = none) : lB g = false := by unfold lB; rw [h]
def dsIsStepG : DS := ds (α := GS) (fun a es S => es = [.d (gD a)] ∧ S = [] ∧ a.1 ∈ words) (fun a e S' => e = .d (.bl (lB a)) ∧ S' = [])
theorem ok_isstepG {f DI : Addr} {fd : FuncData} (F : Fun K "is_step" "is_step" sis_step f fd) (T : Blt mg) (gITEMS : mg "ITEMS" = some (.ref DI)) (It : Items K w0 DI) (dnamed_rows : Df P w0 K mg base CX0 1 "named_rows" 1 dsNamed) (dhas_right_numbers : Df P w0 K mg base CX0 1 "has_right_numbers" 1 dsNums) :
    FnOk P w0 K mg base CX0 2 f fd ["step"] (spD K dsIsStepG) := by
  refine fn0 F scis_step (fun es S p e h => by obtain ⟨a, ⟨h, _⟩, _⟩ := h; rw [h]; rfl) (fun cdv A outer s H E hr w es S p e hK hA h => ?_)
  subst hK
  obtain ⟨g, ⟨rfl, rfl, hw⟩, hp⟩ := h
  dsimp only at hp hw
  refine ⟨_, (pss_cons (ps_if (PW.pt (pw_or (pt_cmpR op_eq (b_len T.len (pv 0)) pe_int (nomark _)) (pw_or1 (pt_cmpR op_ne (b_len T.len (pv 0)) (pe_kget (g_cls gITEMS) (pe_ix ix_tup (pv 0) pe_int (fun _ _ => rfl))) (nomark _)))))
      (pss_one (ps_ret pe_bl))
      pss_nil)
    (pss_cons (ps_if (pt_cmpR op_lt (b_minL T.min (pe_df dnamed_rows (hr.mono (by decide)) pass0 (pa_cons (pv 0) pa_nil))) pe_int (nomark _))
      (pss_one (ps_ret pe_bl))
      pss_nil)
    (pss_cons (ps_if (pt_cmpR op_eq (pe_ix ix_tup (pv 0) pe_int (fun _ _ => rfl)) pe_str (nomark _))
      (pss_one (ps_ret (pe_cmpR op_ne (pe_ix ix_tup (pv 0) pe_int (fun _ _ => rfl)) (pe_ix ix_tup (pv 0) pe_int (fun _ _ => rfl)) (nomark _))))
      pss_nil)
    (pss_one (ps_ret (pe_df dhas_right_numbers (hr.mono (by decide)) pass0 (pa_cons (pv 0) pa_nil))))))), ?_⟩
  try dsimp only [L2.cxOf, L2.Cx.nox]
  walk_at "gg"
  refine ⟨fun hb => absurd (eqI' hb) (by simp only [List.length_cons]; omega), fun _ => ?_⟩
  walk_at "gg"
  refine le_kget ?_
  walk_at "gg"
  refine ⟨It.kd, ?_⟩
  walk_at "gg"
  refine rr_ixT ix0 ?_
  cases hq : toS g with
  | none =>
    obtain ⟨d, v, h1, h2, h3, h4⟩ := bad_get It hw hq
    refine ⟨_, _, d, rfl, h1, h2, ?_⟩
    have el : (((D.str g.1 :: g.2.map D.int).length : Nat) : Int) = ((g.2.length + 1 : Nat) : Int) := by simp
    rw [el]
    refine rr_ne rfl h2 h3 ?_
    rw [decide_eq_false h4]
    walk_at "gg"
    refine ⟨fun _ => ?_, fun z => Bool.noConfusion z⟩
    walk_at "gg"
    exact hp _ _ ⟨by rw [lB_no hq], rfl⟩
  | some a =>
    have ea := g_toS hq
    subst ea
    rw [lB_g] at hp
    refine ⟨_, _, .int _, rfl, It.get a, rfl, ?_⟩
    walk_at "gg"
    refine ⟨fun hb => absurd (by simp) (neI hb), fun _ => ?_⟩
    walk_at "gg"
    refine named ?_
    walk_at "gg"
    refine rc_minL (.inl rfl) a.rows_pos fun m m1 m2 => ?_
    walk_at "gg"
    refine ⟨fun hb => ?_, fun hb => ?_⟩
    · walk_at "gg"
      refine hp _ _ ⟨?_, rfl⟩
      rw [Stp.lone, show a.rows.all (fun r => decide (0 ≤ r)) = false from List.all_eq_false.mpr ⟨m, m1, by have := of_decide_eq_true hb; simp; omega⟩]
      rfl
    have h0 : 0 ≤ m := by have := of_decide_eq_false hb; omega
    have e : a.lone = a.tail := by
      rw [Stp.lone, List.all_eq_true.mpr fun r hr => decide_eq_true (Int.le_trans h0 (m2 r hr))]
      rfl
    rw [e] at hp
    walk_at "gg"
    refine rr_ixT ix0 ?_
    walk_at "gg"
    cases a with
    | join r o =>
      refine ⟨fun _ => ?_, fun hb => (sT rfl hb).elim⟩
      walk_at "gg"
      exact hp _ _ ⟨by simp [Stp.tail], rfl⟩
    | _ =>
      refine ⟨fun hb => (sF (by dsimp only [Stp.g]; decide +kernel) hb).elim, fun _ => ?_⟩
      walk_at "gg"
      exact nums (by dsimp only [Stp.g]; decide +kernel) (hp _ _ ⟨rfl, rfl⟩)
theorem isStepG {w : Wd} {S : List Own} {E : XK} {k : KE} {g : GS} (hw : g.1 ∈ words) (h : k (.d (.bl (lB g))) S) : RS w dsIsStepG E [.d (gD g)] S k := r0 g ⟨rfl, rfl, hw⟩ fun e S' ⟨h1, h2⟩ => ⟨_, h2, h1, h⟩
theorem ok_isrightG {f : Addr} {fd : FuncData} (F : Fun K "is_right" "is_right" sis_right f fd) (T : Blt mg) (dis_step : Df P w0 K mg base CX0 2 "is_step" 1 dsIsStepG) (dnamed_rows : Df P w0 K mg base CX0 1 "named_rows" 1 dsNamed) :
    FnOk P w0 K mg base CX0 3 f fd ["step", "number"] (spD K dsIsRightG) := by
  refine fn0 F scis_right (fun es S p e h => by obtain ⟨a, ⟨h, _⟩, _⟩ := h; rw [h]; rfl) (fun cdv A outer s H E hr w es S p e hK hA h => ?_)
  subst hK
  obtain ⟨⟨g, n⟩, ⟨rfl, rfl, hw⟩, hp⟩ := h
  dsimp only at hp hw
  refine ⟨_, (pss_one (ps_ret (pe_and (pe_df dis_step (hr.mono (by decide)) pass0 (pa_cons (pv 0) pa_nil)) (pe_one (pe_cmpR op_le (b_maxL T.max (pe_df dnamed_rows (hr.mono (by decide)) pass0 (pa_cons (pv 0) pa_nil))) (pv 1) (nomark _)))))), ?_⟩
  try dsimp only [L2.cxOf, L2.Cx.nox]
  walk_at "gg"
  refine isStepG hw ?_
  walk_at "gg"
  cases hq : toS g with
  | none =>
    refine ⟨fun hb => ?_, fun hb => ?_⟩
    · rw [lB_no hq] at hb; cases hb
    · refine hp _ _ ⟨by rw [rB_no hq], rfl⟩
  | some a =>
    have ea := g_toS hq
    subst ea
    rw [rB_g, Stp.ok_lone] at hp
    rw [lB_g]
    refine ⟨fun hb => ?_, fun hb => ?_⟩
    · walk_at "gg"
      refine named ?_
      walk_at "gg"
      refine rc_maxL (.inl rfl) a.rows_pos fun m' m3 m4 => ?_
      walk_at "gg"
      refine hp _ _ ⟨?_, rfl⟩
      rw [hb, Bool.true_and]
      congr 2
      rw [Bool.eq_iff_iff, List.all_eq_true, decide_eq_true_iff]
      exact ⟨fun h r hr => decide_eq_true (Int.le_trans (m4 r hr) h), fun h => of_decide_eq_true (h m' m3)⟩
    · refine hp _ _ ⟨?_, rfl⟩
      rw [hb, Bool.false_and]
theorem isRightG {w : Wd} {S : List Own} {E : XK} {k : KE} {g : GS} {n : Int} (hw : g.1 ∈ words) (h : k (.d (.bl (rB g n))) S) : RS w dsIsRightG E [.d (gD g), .d (.int n)] S k := r0 (g, n) ⟨rfl, rfl, hw⟩ fun e S' ⟨h1, h2⟩ => ⟨_, h2, h1, h⟩
end

section
variable {P : Program} {w0 : World} {K : PySem.W.Frag} {mg : Str → Option Value} {base : Heap}
/-- the class of pipelines -/
structure PC (K : PySem.W.Frag) (mg : Str → Option Value) (C : Addr) : Prop where
  cls : Cls K C
  nS : NoAttr K C "_steps"
  mg : mg "Pipeline" = some (.ref C)
abbrev sL (gs : List Stp) : D := .lst (gs.map Stp.d)
abbrev pF (gs : List Stp) : List (Str × D) := [("_steps", sL gs)]
abbrev pD (C : Addr) (gs : List Stp) : D := .obj C (pF gs)
theorem pf_steps {gs : List Stp} : (pF gs).lookup ("_steps" : Str) = some (sL gs) := by
  rw [List.lookup_cons, show (("_steps" : Str) == "_steps") = true by decide +kernel]
theorem pf_no {gs : List Stp} {m : Str} (h : (m == "_steps") = false) : (pF gs).lookup m = none := by
  rw [List.lookup_cons, h]; rfl
def PipeOk (gs : List Stp) : Prop := ∀ (i : Nat) (x : Stp), gs[i]? = some x → x.ok i = true
theorem rc_listX {w : Wd} {S : List Own} {k : KE} {x : Ent} {ds : List D} (hx : IsLst x S ds) (q : k (.d (.lst ds)) S) : RC w (gList w.K) [x] S k := by
  rcases hx with rfl | ⟨i, rfl, hi⟩
  · exact rc_list rfl q
  · exact rc_listOD hi q
/-! data of steps -/
def gP (g : GS) : PyData := .tuple (.str g.1 :: g.2.map PyData.int)
abbrev Stp.p (x : Stp) : PyData := gP x.g
theorem toP_g (g : GS) : toP (gD g) = some (gP g) := by
  unfold gD gP
  simp only [toP, toPs, toPs_ints]
  rfl
theorem toPs_s : ∀ gs : List Stp, toPs (gs.map Stp.d) = some (gs.map Stp.p)
  | [] => rfl
  | g :: gs => by
    show toPs (g.d :: gs.map Stp.d) = _
    simp only [toPs, toPs_s gs]
    rw [show toP g.d = some g.p from toP_g _]
    rfl
theorem toP_s (gs : List Stp) : toP (sL gs) = some (.list (gs.map Stp.p)) := by
  simp only [toP, toPs_s]
  rfl
theorem lay_g {g : GS} (h : PyData.strOk g.1 = true) : PyData.canLay0 (gP g) = true := by
  unfold gP
  simp only [PyData.canLay0, PyData.canLayAll0, lay_ints, h]
  rfl
theorem Stp.wok (x : Stp) : PyData.strOk x.g.1 = true := by cases x <;> (dsimp only [Stp.g]; decide +kernel)
theorem lay_s : ∀ gs : List Stp, PyData.canLayAll0 (gs.map Stp.p) = true
  | [] => rfl
  | g :: gs => by
    show PyData.canLayAll0 (g.p :: gs.map Stp.p) = true
    simp only [PyData.canLayAll0, lay_s gs, Bool.and_true]
    exact lay_g g.wok
theorem depth_g (g : GS) : PyData.depth (gP g) = 1 := by
  unfold gP
  simp [PyData.depth, PyData.depthAll, depth_ints]
theorem depth_s : ∀ gs : List Stp, PyData.depthAll (gs.map Stp.p) ≤ 1
  | [] => by simp [PyData.depthAll]
  | g :: gs => by
    show PyData.depthAll (g.p :: gs.map Stp.p) ≤ 1
    have := depth_s gs
    simp only [PyData.depthAll, depth_g]
    omega
theorem shaped_s (gs : List Stp) : SeqAt.shaped (.list (gs.map Stp.p)) = true := by
  unfold SeqAt.shaped
  have := depth_s gs
  simp only [PyData.canLay0, lay_s, PyData.depth]
  simp
  omega
theorem Stp.g_inj : ∀ {x y : Stp}, x.g = y.g → x = y := by
  have ne : ∀ {a b : Str} {xs ys : List Int}, a ≠ b → (a, xs) ≠ (b, ys) := fun h e => h (congrArg Prod.fst e)
  intro x y h
  cases x <;> cases y <;> simp only [Stp.g, Prod.mk.injEq, List.cons.injEq, and_true, true_and, and_false, List.cons_ne_nil, reduceCtorEq, false_and] at h <;> first | (obtain ⟨rfl, rfl, rfl, rfl⟩ := h; rfl) | (obtain ⟨rfl, rfl, rfl⟩ := h; rfl) | (obtain ⟨rfl, rfl⟩ := h; rfl) | exact absurd h.1 (by decide +kernel) | exact absurd h (by decide +kernel) | exact h.elim
theorem eqv_g (g h : GS) : PyData.eqv (gP g) (gP h) = decide (g = h) := by
  obtain ⟨a, xs⟩ := g
  obtain ⟨b, ys⟩ := h
  unfold gP
  simp only [PyData.eqv, PyData.eqvAll, eqv_ints]
  rw [Bool.eq_iff_iff]
  simp
theorem eqv_s : ∀ gs hs : List Stp, PyData.eqvAll (gs.map Stp.p) (hs.map Stp.p) = decide (gs = hs)
  | [], [] => by simp [PyData.eqvAll]
  | [], _ :: _ => by simp [PyData.eqvAll]
  | _ :: _, [] => by simp [PyData.eqvAll]
  | g :: gs, h :: hs => by
    show PyData.eqvAll (g.p :: gs.map Stp.p) (h.p :: hs.map Stp.p) = _
    simp only [PyData.eqvAll, eqv_s gs hs, eqv_g]
    rw [Bool.eq_iff_iff]
    simp
    exact fun _ => ⟨Stp.g_inj, fun e => by rw [e]⟩
theorem eqv_sL (gs hs : List Stp) : PyData.eqv (.list (gs.map Stp.p)) (.list (hs.map Stp.p)) = decide (gs = hs) := eqv_s gs hs
end

/-! ### the law's draws -/
local macro_rules | `(tactic| walk_at "envle") => `(tactic| repeat (first | exact EnvLe.nil | refine EnvLe.same rfl ?_ | refine EnvLe.none ?_))
section
variable {P : Program} {w0 : World} {K : PySem.W.Frag} {mg : Str → Option Value} {base : Heap}
def Pool (n : Nat) (o : Own) : Prop := ∃ x y z : Int, o = .lst [.int x, .int y, .int z] ∧ 0 ≤ x ∧ 0 ≤ y ∧ y < 2 ^ 62 ∧ 0 ≤ z ∧ z ≤ n
theorem Pool.ng {n : Nat} {o : Own} (h : Pool n o) : o ≠ .gone := by obtain ⟨x, y, z, rfl, _⟩ := h; intro z; cases z
theorem Pool.mono {n m : Nat} {o : Own} (h : Pool n o) (l : n ≤ m) : Pool m o := by obtain ⟨x, y, z, h0, h1, h2, h3, h4, h5⟩ := h; exact ⟨x, y, z, h0, h1, h2, h3, h4, by omega⟩
def dsPool : DS := ds (α := List Int × Int) (fun a es S => es = [.d (.scr a.1), .d (.int a.2)] ∧ S = [] ∧ 0 ≤ a.2 ∧ a.2 < 1000) (fun a e S' => ∃ o, e = .own 0 ∧ S' = [o] ∧ Pool 0 o)
theorem ok_pool {f : Addr} {fd : FuncData} (F : Fun K "_law_pool" "_law_pool" s_law_pool f fd) (T : Blt mg) : FnOk P w0 K mg base CX0 1 f fd ["script", "at"] (spD K dsPool) := by
  refine fn0 F sc_law_pool (fun es S p e h => by obtain ⟨a, ⟨h, _⟩, _⟩ := h; rw [h]; rfl) (fun cdv A outer s H E hr w es S p e hK hA h => ?_)
  subst hK
  obtain ⟨⟨ns, a⟩, ⟨rfl, rfl, ha0, ha1⟩, hp⟩ := h
  dsimp only at ha0 ha1 hp
  have fin : ∀ g : Int, LS w (tRet (tLst (tCons (tCB gMax2 (tCons (tC (.int 0)) (tCons (tOp (rI0 fun i j => .int (i - j)) (tCB gAbs (tCons (tVar 2) tNil)) (tOp (rI CPowW fun i j => .int (i ^ j.toNat)) (tC (.int 10)) (tC (.int 18)))) tNil)))
      (tCons (tOp (rI0 fun i j => .int (i + j)) (tOp (rI (fun _ j => 0 < j) fun i j => .int (i % j)) (tCB gInt1 (tCons (tVar 2) tNil)) (tC (.int 2305843009213693951))) (tOp (rI CMulW fun i j => .int (i * j)) (tC (.int 3367900777)) (tOp (rI0 fun i j => .int (i + j)) (tVar 1) (tC (.int 1)))))
      (tCons (tC (.int 0)) tNil))))) [some (.d (.scr ns)), some (.d (.int a)), some (.d (.int g))] [] { nx := fun _ S' => p (.d .non) S', rt := p } := by
    intro g
    refine ls_ret (le_lstO ?_)
    walk_at "gg"
    refine rr_int (powW (b := 10) (by decide) (by decide) (by decide)) ?_
    walk_at "gg"
    refine rr_int (by decide) ?_
    walk_at "gg"
    refine rr_int (wide_mul (a := 40) (b := 20) (by decide) (by omega) (by decide) (by decide) (by decide)) ?_
    walk_at "gg"
    have h1 := Int.emod_nonneg g (show (2305843009213693951 : Int) ≠ 0 by decide)
    have h2 := Int.emod_lt_of_pos g (show (0 : Int) < 2305843009213693951 by decide)
    refine hp _ _ ⟨_, rfl, rfl, _, _, _, rfl, ?_, by omega, by omega, by decide, by decide⟩
    split <;> omega
  refine ⟨_, (pss_cons (sset 2 pe_int sc_law_pool.nd)
    (pss_cons (ps_if (pt_cmpR op_lt (pv 1) (b_len T.len (pv 0)) (nomark _))
      (pss_one (sset 2 (pe_ix ix_list (pv 0) (pv 1) (fun _ _ => rfl)) sc_law_pool.nd))
      pss_nil)
    (pss_one (ps_ret (pe_lst (pa_cons (b_max2 T.max pe_int (pe_op op_sub (b_abs T.abs (pv 2)) (pe_op op_powW pe_int pe_int))) (pa_cons (pe_op op_add (pe_op op_mod (b_int T.int (pv 2)) pe_int) (pe_op op_mulW pe_int (pe_op op_add (pv 1) pe_int))) (pa_cons pe_int pa_nil)))))))), ?_⟩
  try dsimp only [L2.cxOf, L2.Cx.nox]
  walk_at "gg"
  refine ⟨fun hb => ?_, fun hb => ?_⟩
  · have h1 := of_decide_eq_true hb
    walk_at "gg"
    refine rr_ixS (n := ns.getD a.toNat 0) ?_ ?_
    · unfold atI ixN
      rw [if_pos ha0, if_pos h1]
      show ns[a.toNat]? = _
      rw [List.getD_eq_getElem?_getD, List.getElem?_eq_getElem (show a.toNat < ns.length by omega)]
      rfl
    exact fin _
  · with_reducible refine ls_next ?_
    exact fin _
def dsDraw : DS := ds (α := Int × Nat) (fun a es S => ∃ o, es = [.own 0, .d (.int a.1)] ∧ S = [o] ∧ Pool a.2 o ∧ a.2 < 2 ^ 60 ∧ 0 < a.1 ∧ a.1 < 2 ^ 200) (fun a e S' => ∃ (d : Int) (o' : Own), e = .d (.int d) ∧ S' = [o'] ∧ 0 ≤ d ∧ d < a.1 ∧ Pool (a.2 + 1) o')
theorem ok_draw {f : Addr} {fd : FuncData} (F : Fun K "_law_draw" "_law_draw" s_law_draw f fd) (T : Blt mg) : FnOk P w0 K mg base CX0 1 f fd ["pool", "many"] (spD K dsDraw) := by
  refine fn0 F sc_law_draw (fun es S p e h => by obtain ⟨a, ⟨o, h, _⟩, _⟩ := h; rw [h]; rfl) (fun cdv A outer s H E hr w es S p e hK hA h => ?_)
  subst hK
  obtain ⟨⟨m, n⟩, ⟨o, rfl, rfl, ⟨x, y, z, rfl, hx, hy, hy2, hz, hzn⟩, hn, hm, hm2⟩, hp⟩ := h
  dsimp only at hzn hn hm hm2 hp
  refine ⟨_, (pss_cons (ps_if (pt_cmpR op_gt (pe_ix ix_list (pv 0) pe_int (fun _ _ => rfl)) pe_int (nomark _))
      (pss_cons (sset 2 (pe_op op_mod (b_int T.int (pe_ix ix_list (pv 0) pe_int (fun _ _ => rfl))) (pv 1)) sc_law_draw.nd)
      (pss_cons (ps_asg (pe_op op_fdivW (pe_ix ix_list (pv 0) pe_int (fun _ _ => rfl)) (pv 1)) (pg_sub (pv 0) pe_int set_list))
      (pss_one (ps_ret (pv 2)))))
      pss_nil)
    (pss_cons (ps_asg (pe_op op_add (pe_ix ix_list (pv 0) pe_int (fun _ _ => rfl)) pe_int) (pg_sub (pv 0) pe_int set_list))
    (pss_cons (sset 3 (pe_op op_mod (b_int T.int (pe_op op_powW (pe_op op_add (pe_ix ix_list (pv 0) pe_int (fun _ _ => rfl)) (pe_op op_mulW pe_int (pe_ix ix_list (pv 0) pe_int (fun _ _ => rfl)))) pe_int)) pe_int) sc_law_draw.nd)
    (pss_cons (sset 3 (pe_op op_mod (b_int T.int (pe_op op_powW (pe_op op_add (pv 3) (pe_op op_mulW pe_int (pe_ix ix_list (pv 0) pe_int (fun _ _ => rfl)))) pe_int)) pe_int) sc_law_draw.nd)
    (pss_one (ps_ret (pe_op op_mod (b_int T.int (pe_op op_fdivW (pv 3) pe_int)) (pv 1)))))))), ?_⟩
  try dsimp only [L2.cxOf, L2.Cx.nox]
  walk_at "gg"
  refine ⟨fun hb => ?_, fun hb => ?_⟩
  · have hx0 : 0 < x := of_decide_eq_true hb
    walk_at "gg"
    refine rr_int hm ?_
    walk_at "gg"
    refine rr_int (wide_div (b := 200) hm (by omega) (by decide) (by decide)) ?_
    walk_at "gg"
    refine ⟨_, _, _, _, rfl, rfl, rfl, rfl, ?_⟩
    walk_at "gg"
    exact hp _ _ ⟨_, _, rfl, rfl, Int.emod_nonneg _ (by omega), Int.emod_lt_of_pos _ hm, x / m, y, z, rfl, Int.ediv_nonneg hx (by omega), hy, hy2, hz, by omega⟩
  · walk_at "gg"
    refine ⟨_, _, _, _, rfl, rfl, rfl, rfl, ?_⟩
    walk_at "gg"
    refine rr_int (wide_mul (a := 30) (b := 62) (by decide) (by omega) (by decide) (by decide) (by decide)) ?_
    walk_at "gg"
    refine rr_int (powW (b := 100) (by decide) (by omega) (by decide)) ?_
    walk_at "gg"
    refine rr_int (by decide) ?_
    walk_at "gg"
    generalize hm1 : (y + 15488849 * (z + 1)) ^ (3 : Int).toNat % 162259276829213363391578010288127 = m1
    have m1a : 0 ≤ m1 := by rw [← hm1]; exact Int.emod_nonneg _ (by decide)
    have m1b : m1 < 162259276829213363391578010288127 := by rw [← hm1]; exact Int.emod_lt_of_pos _ (by decide)
    refine rr_int (wide_mul (a := 30) (b := 62) (by decide) (by omega) (by decide) (by decide) (by decide)) ?_
    walk_at "gg"
    refine rr_int (powW (b := 130) (by decide) (by omega) (by decide)) ?_
    walk_at "gg"
    refine rr_int (by decide) ?_
    walk_at "gg"
    refine rr_int (wide_div (b := 30) (by decide) (by decide) (by decide) (by decide)) ?_
    walk_at "gg"
    refine rr_int hm ?_
    exact hp _ _ ⟨_, _, rfl, rfl, Int.emod_nonneg _ (by omega), Int.emod_lt_of_pos _ hm, x, y, z + 1, rfl, hx, hy, hy2, by omega, by omega⟩
/-- a draw, as its callers have it -/
theorem draw {w : Wd} {E : XK} {o : Own} {rest : List Own} {k : KE} {m : Int} (n : Nat) (ho : Pool n o) (hn : n < 2 ^ 60) (hm : 0 < m) (hm2 : m < 2 ^ 200)
    (h : ∀ (d : Int) (o' : Own), 0 ≤ d → d < m → Pool (n + 1) o' → k (.d (.int d)) (o' :: rest)) : RS w dsDraw E [.own 0, .d (.int m)] (o :: rest) k :=
  rp (m, n) ⟨o, rfl, rfl, ho, hn, hm, hm2⟩ (fun e S' ⟨d, o', h1, h2, h3, h4, h5⟩ => ⟨o', _, h2, h5.ng, h1, h d o' h3 h4 h5⟩) ho.ng
end

section
variable {P : Program} {w0 : World} {K : PySem.W.Frag} {mg : Str → Option Value} {base : Heap}
/-! ### the law's pipelines -/
theorem ixM {α : Type} {f : α → D} {xs : List α} {i : Int} (h0 : 0 ≤ i) (h1 : i < xs.length) : ∃ x, x ∈ xs ∧ xs[i.toNat]? = some x ∧ atI (xs.map f) i = some (f x) := by
  have hl : i.toNat < xs.length := by omega
  refine ⟨xs[i.toNat], List.getElem_mem hl, List.getElem?_eq_getElem hl, ?_⟩
  unfold atI ixN
  rw [List.length_map, if_pos h0, if_pos h1]
  show (xs.map f)[i.toNat]? = _
  rw [List.getElem?_map, List.getElem?_eq_getElem hl]; rfl
def dsLesser : DS := ds (α := Nat × Nat) (fun a es S => es = [.d (.int a.1), .d (.int a.2)] ∧ S = [] ∧ 0 < a.1 ∧ 0 < a.2 ∧ a.1 < 2 ^ 20 ∧ a.2 < 2 ^ 20)
  (fun a e S' => ∃ x y : Nat, e = .d (.tup [.int x, .int y]) ∧ S' = [] ∧ 0 < x ∧ x ≤ a.1 ∧ 0 < y ∧ y ≤ a.2)
theorem ok_lesser {f : Addr} {fd : FuncData} (F : Fun K "_law_lesser" "_law_lesser" s_law_lesser f fd) (T : Blt mg) : FnOk P w0 K mg base CX0 1 f fd ["one", "two"] (spD K dsLesser) := by
  refine fn0 F sc_law_lesser (fun es S p e h => by obtain ⟨a, ⟨h, _⟩, _⟩ := h; rw [h]; rfl) (fun cdv A outer s H E hr w es S p e hK hA h => ?_)
  subst hK
  obtain ⟨⟨one, two⟩, ⟨rfl, rfl, h1, h2, h3, h4⟩, hp⟩ := h
  dsimp only at h1 h2 h3 h4 hp
  refine ⟨_, (pss_cons (ps_par (i := 2) (j := 3) (by rfl) sc_law_lesser.nd rfl rfl (by decide) rfl rfl (pa_cons (pv 0) (pa_cons (pv 1) pa_nil)) (by rfl))
    (pss_cons (ps_while PassesOwn.never (pt_cmpR op_gt (pv 3) pe_int (nomark _))
      (pss_one (ps_par (i := 2) (j := 3) (by rfl) sc_law_lesser.nd rfl rfl (by decide) rfl rfl (pa_cons (pv 3) (pa_cons (pe_op op_mod (b_int T.int (pv 2)) (pv 3)) pa_nil)) (by rfl))))
    (pss_one (ps_ret (pe_tup (pa_cons (pe_op op_fdivW (pv 0) (pv 2)) (pa_cons (pe_op op_fdivW (pv 1) (pv 2)) pa_nil))))))), ?_⟩
  try dsimp only [L2.cxOf, L2.Cx.nox]
  walk_at "gg"
  refine ⟨_, _, rfl, ?_⟩
  walk_at "gg"
  refine ls_while (fun m Γ S => S = [] ∧ ∃ a b : Nat, m = b ∧ 0 < a ∧ Nat.gcd a b = Nat.gcd one two ∧ a < 2 ^ 20 ∧ b < 2 ^ 20 ∧ Γ = [some (.d (.int one)), some (.d (.int two)), some (.d (.int a)), some (.d (.int b))]) two ⟨rfl, one, two, rfl, h1, rfl, h3, h4, rfl⟩ ?_
  rintro m _ _ ⟨rfl, a, b, rfl, ha, hg, ha2, hb2, rfl⟩
  walk_at "gg"
  refine ⟨fun hb => ?_, fun hb => ?_⟩
  · have hb0 : (0 : Int) < m := of_decide_eq_true hb
    walk_at "gg"
    refine rr_int (by omega) ?_
    walk_at "gg"
    have hlt := Nat.mod_lt a (show 0 < m by omega)
    refine ⟨_, _, rfl, a % m, hlt, rfl, m, a % m, rfl, by omega, ?_, hb2, by omega, ?_⟩
    · rw [← hg, Nat.gcd_comm m (a % m), ← Nat.gcd_rec, Nat.gcd_comm]
    · simp only [Int.natCast_emod]; rfl
  · have hb0 : m = 0 := by have := of_decide_eq_false hb; omega
    subst hb0
    rw [Nat.gcd_zero_right] at hg
    walk_at "gg"
    have d1 := Nat.gcd_dvd_left one two
    have d2 := Nat.gcd_dvd_right one two
    rw [← hg] at d1 d2
    refine rr_int (wide_div (b := 30) (by omega) (by omega) (by decide) (by decide)) ?_
    walk_at "gg"
    refine rr_int (wide_div (b := 30) (by omega) (by omega) (by decide) (by decide)) ?_
    walk_at "gg"
    refine hp _ _ ⟨one / a, two / a, ?_, rfl, Nat.div_pos (Nat.le_of_dvd h1 d1) ha, Nat.div_le_self _ _, Nat.div_pos (Nat.le_of_dvd h2 d2) ha, Nat.div_le_self _ _⟩
    rfl
theorem lesser {w : Wd} {S : List Own} {E : XK} {k : KE} {one two : Nat} (h1 : 0 < one) (h2 : 0 < two) (h3 : one < 2 ^ 20) (h4 : two < 2 ^ 20) (h : ∀ x y : Nat, 0 < x → x ≤ one → 0 < y → y ≤ two → k (.d (.tup [.int x, .int y])) S) : RS w dsLesser E [.d (.int one), .d (.int two)] S k :=
  r0 (one, two) ⟨rfl, rfl, h1, h2, h3, h4⟩ fun e S' ⟨x, y, q1, q2, q3, q4, q5, q6⟩ => ⟨_, q2, q1, h x y q3 q4 q5 q6⟩
def dsWindow : DS := ds (α := Nat × Nat) (fun a es S => ∃ o, es = [.own 0, .d (.int a.1)] ∧ S = [o] ∧ Pool a.2 o ∧ a.2 < 2 ^ 50 ∧ 0 < a.1 ∧ a.1 ≤ 60)
  (fun a e S' => ∃ (l s p : Nat) (o' : Own), e = .d (.tup [.int l, .int s, .int p]) ∧ S' = [o'] ∧ 1 ≤ s ∧ s ≤ 6 ∧ s ≤ l ∧ l ≤ 9 ∧ p < l ∧ a.1 * s ≤ 60 ∧ Pool (a.2 + 5) o')
theorem ok_window {f : Addr} {fd : FuncData} (F : Fun K "_law_window" "_law_window" s_law_window f fd) (T : Blt mg) (d_law_draw : Df P w0 K mg base CX0 1 "_law_draw" 2 dsDraw) : FnOk P w0 K mg base CX0 2 f fd ["pool", "strides"] (spD K dsWindow) := by
  refine fn0 F sc_law_window (fun es S p e h => by obtain ⟨a, ⟨o, h, _⟩, _⟩ := h; rw [h]; rfl) (fun cdv A outer s H E hr w es S p e hK hA h => ?_)
  subst hK
  obtain ⟨⟨m, n⟩, ⟨o, rfl, rfl, ho, hn, hm, hm2⟩, hp⟩ := h
  dsimp only at ho hn hm hm2 hp
  refine ⟨_, (pss_cons (sset 2 (pe_op op_add pe_int (pe_df d_law_draw (hr.mono (by decide)) pass0 (pa_cons (pv 0) (pa_cons pe_int pa_nil)))) sc_law_window.nd)
    (pss_cons (ps_if (pt_cmpR op_gt (pe_op op_mulW (pv 1) (pv 2)) pe_int (nomark _))
      (pss_one (sset 2 pe_int sc_law_window.nd))
      pss_nil)
    (pss_cons (sset 3 (pe_ix ix_list (pe_lst (pa_cons (pv 2) (pa_cons (b_min2 T.min pe_int (pe_op op_add (pv 2) pe_int)) (pa_cons (pe_op op_add (pv 2) (pe_df d_law_draw (hr.mono (by decide)) pass0 (pa_cons (pv 0) (pa_cons (pe_op op_sub pe_int (pv 2)) pa_nil)))) pa_nil)))) (pe_df d_law_draw (hr.mono (by decide)) pass0 (pa_cons (pv 0) (pa_cons pe_int pa_nil))) (fun _ _ => rfl)) sc_law_window.nd)
    (pss_one (ps_ret (pe_tup (pa_cons (pv 3) (pa_cons (pv 2) (pa_cons (pe_ix ix_list (pe_lst (pa_cons pe_int (pa_cons (pe_op op_fdivW (pe_op op_sub (pv 3) pe_int) pe_int) (pa_cons (pe_df d_law_draw (hr.mono (by decide)) pass0 (pa_cons (pv 0) (pa_cons (pv 3) pa_nil))) pa_nil)))) (pe_df d_law_draw (hr.mono (by decide)) pass0 (pa_cons (pv 0) (pa_cons pe_int pa_nil))) (fun _ _ => rfl)) pa_nil))))))))), ?_⟩
  try dsimp only [L2.cxOf, L2.Cx.nox]
  walk_at "gg"
  refine draw n ho (by omega) (by decide) (by decide) fun d o1 d0 d1 ho1 => ?_
  walk_at "gg"
  refine rr_int (wide_mul (a := 20) (b := 20) (by omega) (by omega) (by decide) (by decide) (by decide)) ?_
  walk_at "gg"
  refine if_join (fun Γ S => S = [o1] ∧ ∃ st : Nat, 1 ≤ st ∧ st ≤ 6 ∧ m * st ≤ 60 ∧ Γ = [some (.own 0), some (.d (.int m)), some (.d (.int st)), none]) (fun hb => ?_) (fun hb => ?_) ?_
  · walk_at "gg"
    exact ⟨rfl, 1, by omega, by omega, by omega, rfl⟩
  · walk_at "gg"
    have := of_decide_eq_false hb
    refine ⟨rfl, (1 + d).toNat, by omega, by omega, ?_, ?_⟩
    · have e : (((m * (1 + d).toNat : Nat)) : Int) = (m : Int) * (1 + d) := by rw [Int.natCast_mul, Int.toNat_of_nonneg (by omega)]
      omega
    · rw [Int.toNat_of_nonneg (by omega)]; rfl
  rintro _ _ ⟨rfl, st, hs1, hs2, hs3, rfl⟩
  walk_at "gg"
  refine draw _ ho1 (by omega) (by omega) (by omega) fun d2 o2 e0 e1 ho2 => ?_
  walk_at "gg"
  refine draw _ ho2 (by omega) (by decide) (by decide) fun d3 o3 f0 f1 ho3 => ?_
  obtain ⟨y, hy, l, rfl, hl0, hl1⟩ := ix_any (ds := [D.int st, D.int (if (st : Int) + 1 < 9 then (st : Int) + 1 else 9), D.int (st + d2)]) (i := d3) (fun x => ∃ z : Nat, x = .int z ∧ st ≤ z ∧ z ≤ 9) f0 (by simpa using f1) (by
    intro x hx
    simp only [List.mem_cons, List.not_mem_nil, or_false] at hx
    rcases hx with rfl | rfl | rfl
    · exact ⟨st, rfl, by omega, by omega⟩
    · exact ⟨if st + 1 < 9 then st + 1 else 9, by congr 1; split <;> split <;> omega, by split <;> omega, by split <;> omega⟩
    · exact ⟨(st + d2).toNat, by congr 1; omega, by omega, by omega⟩)
  refine rr_ixL hy ?_
  walk_at "gg"
  refine rr_int (wide_div (b := 30) (by decide) (by decide) (by decide) (by decide)) ?_
  walk_at "gg"
  refine draw _ ho3 (by omega) (by omega) (by omega) fun d4 o4 g0 g1 ho4 => ?_
  walk_at "gg"
  refine draw _ ho4 (by omega) (by decide) (by decide) fun d5 o5 i0 i1 ho5 => ?_
  obtain ⟨y, hy, p', rfl, hp1⟩ := ix_any (ds := [D.int 0, D.int (((l : Int) - 1) / 2), D.int d4]) (i := d5) (fun x => ∃ z : Nat, x = .int z ∧ z < l) i0 (by simpa using i1) (by
    intro x hx
    simp only [List.mem_cons, List.not_mem_nil, or_false] at hx
    rcases hx with rfl | rfl | rfl
    · exact ⟨0, rfl, by omega⟩
    · exact ⟨(((l : Int) - 1) / 2).toNat, by congr 1; omega, by omega⟩
    · exact ⟨d4.toNat, by congr 1; omega, by omega⟩)
  refine rr_ixL hy ?_
  walk_at "gg"
  exact hp _ _ ⟨l, st, p', o5, rfl, rfl, hs1, hs2, hl0, hl1, hp1, hs3, ho5.mono (by omega)⟩
theorem window {w : Wd} {E : XK} {o : Own} {rest : List Own} {k : KE} {m : Nat} (n : Nat) (ho : Pool n o) (hn : n < 2 ^ 50) (hm : 0 < m) (hm2 : m ≤ 60)
    (h : ∀ (l s p : Nat) (o' : Own), 1 ≤ s → s ≤ 6 → s ≤ l → l ≤ 9 → p < l → m * s ≤ 60 → Pool (n + 5) o' → k (.d (.tup [.int l, .int s, .int p])) (o' :: rest)) : RS w dsWindow E [.own 0, .d (.int m)] (o :: rest) k :=
  rp (m, n) ⟨o, rfl, rfl, ho, hn, hm, hm2⟩ (fun e S' ⟨l, s, p, o', h1, h2, q1, q2, q3, q4, q5, q6, q7⟩ => ⟨o', _, h2, q7.ng, h1, h l s p o' q1 q2 q3 q4 q5 q6 q7⟩) ho.ng
abbrev rD (r : Nat × Nat) : D := .tup [.int r.1, .int r.2]
abbrev rP (r : Nat × Nat) : PyData := .tuple [.int r.1, .int r.2]
theorem toPs_r : ∀ ps : List (Nat × Nat), toPs (ps.map rD) = some (ps.map rP)
  | [] => rfl
  | p :: ps => by
    show toPs (rD p :: ps.map rD) = _
    simp only [toPs, toPs_r ps, toP]
    rfl
theorem lay_r : ∀ ps : List (Nat × Nat), PyData.canLayAll0 (ps.map rP) = true
  | [] => rfl
  | p :: ps => by
    show PyData.canLayAll0 (rP p :: ps.map rP) = true
    simp [PyData.canLayAll0, lay_r ps, PyData.canLay0]
theorem depth_r : ∀ ps : List (Nat × Nat), PyData.depthAll (ps.map rP) ≤ 1
  | [] => by simp [PyData.depthAll]
  | p :: ps => by
    show PyData.depthAll (rP p :: ps.map rP) ≤ 1
    have := depth_r ps
    simp only [PyData.depthAll, PyData.depth]
    omega
theorem shaped_r (ps : List (Nat × Nat)) : SeqAt.shaped (.list (ps.map rP)) = true := by
  unfold SeqAt.shaped
  have := depth_r ps
  simp only [PyData.canLay0, lay_r, PyData.depth]
  simp
  omega
theorem eqv_r0 (ps : List (Nat × Nat)) : PyData.eqv (.list (ps.map rP)) (.list []) = decide (ps = []) := by
  cases ps <;> simp [PyData.eqv, PyData.eqvAll]
theorem rr_ixM {w : Wd} {α : Type} {f : α → D} {xs : List α} {n : Nat} {i : Int} {S : List Own} {k : KE} (hn : S[n]? = some (.lst (xs.map f))) (h0 : 0 ≤ i) (h1 : i < xs.length) (q : ∀ x, x ∈ xs → xs[i.toNat]? = some x → k (.d (f x)) S) : RR w (rIxL w.K) (.own n) (.d (.int i)) S k := by
  obtain ⟨x, hx, hi, ha⟩ := ixM (f := f) h0 h1
  exact rr_ixO hn ha (q x hx hi)
def dsJoined : DS := ds (α := List (Nat × Nat) × Nat) (fun a es S => ∃ o, es = [.own 0, .own 1] ∧ S = [o, .lst (a.1.map rD)] ∧ Pool a.2 o ∧ a.2 < 2 ^ 50 ∧ 2 ≤ a.1.length ∧ a.1.length ≤ 20)
  (fun a e S' => ∃ (x y : Nat) (o' : Own), e = .d (rD (x, y)) ∧ S' = [o', .lst (a.1.map rD)] ∧ x < a.1.length ∧ y < a.1.length ∧ x ≠ y ∧ Pool (a.2 + 3) o')
theorem ok_joined {f : Addr} {fd : FuncData} (F : Fun K "_law_joined" "_law_joined" s_law_joined f fd) (T : Blt mg) (d_law_draw : Df P w0 K mg base CX0 1 "_law_draw" 2 dsDraw) : FnOk P w0 K mg base CX0 2 f fd ["pool", "ratios"] (spD K dsJoined) := by
  refine fn0 F sc_law_joined (fun es S p e h => by obtain ⟨a, ⟨o, h, _⟩, _⟩ := h; rw [h]; rfl) (fun cdv A outer s H E hr w es S p e hK hA h => ?_)
  subst hK
  obtain ⟨⟨rs, n⟩, ⟨o, rfl, rfl, ho, hn, hm, hm2⟩, hp⟩ := h
  dsimp only at ho hn hm hm2 hp
  refine ⟨_, (pss_cons (sset 2 (pe_lst pa_nil) sc_law_joined.nd)
    (pss_cons (ps_for PassesOwn.never rfl (pi_range1 (by rfl) T.range (pa_cons (b_len T.len (pv 1)) pa_nil)) (gn 3 sc_law_joined.nd)
      (pss_one (ps_for PassesOwn.never rfl (pi_range1 (by rfl) T.range (pa_cons (b_len T.len (pv 1)) pa_nil)) (gn 4 sc_law_joined.nd)
        (pss_one (ps_if (PW.pt (pw_and (pt_cmpR op_ne (pv 3) (pv 4) (nomark _)) (pw_and1 (pt_cmpR (op_eqD hr.units) (pe_ix ix_list (pv 1) (pv 3) (fun _ _ => rfl)) (pe_ix ix_list (pv 1) (pv 4) (fun _ _ => rfl)) (nomark _)))))
          (pss_one (ps_expr (pe_bm PySem.F.plainAttrs_list PySem.F.slot_list_append PySem.F.type_list_append mt_append (pv 2) (pa_cons (pe_tup (pa_cons (pv 3) (pa_cons (pv 4) pa_nil))) pa_nil))))
          pss_nil)))))
    (pss_cons (ps_if (PW.pt (pw_and (pt_cmpR (op_neD hr.units) (pv 2) (pe_lst pa_nil) (nomark _)) (pw_and1 (pt_cmpR op_gt (pe_df d_law_draw (hr.mono (by decide)) pass0 (pa_cons (pv 0) (pa_cons pe_int pa_nil))) pe_int (nomark _)))))
      (pss_one (ps_ret (pe_ix ix_list (pv 2) (pe_df d_law_draw (hr.mono (by decide)) pass0 (pa_cons (pv 0) (pa_cons (b_len T.len (pv 2)) pa_nil))) (fun _ _ => rfl))))
      pss_nil)
    (pss_cons (sset 3 (pe_df d_law_draw (hr.mono (by decide)) pass0 (pa_cons (pv 0) (pa_cons (b_len T.len (pv 1)) pa_nil))) sc_law_joined.nd)
    (pss_one (ps_ret (pe_tup (pa_cons (pv 3) (pa_cons (pe_op op_mod (b_int T.int (pe_op op_add (pe_op op_add (pv 3) pe_int) (pe_df d_law_draw (hr.mono (by decide)) pass0 (pa_cons (pv 0) (pa_cons (pe_op op_sub (b_len T.len (pv 1)) pe_int) pa_nil))))) (b_len T.len (pv 1))) pa_nil))))))))), ?_⟩
  try dsimp only [L2.cxOf, L2.Cx.nox]
  refine ls_seq (ls_set (le_lstO ?_))
  walk_at "gg"
  refine ls_forR (lr_1 ?_)
  walk_at "gg"
  rw [List.length_map]
  refine ⟨by omega, by omega, ?_⟩
  refine ⟨fun i Γ S => ∃ (ps : List (Nat × Nat)) (x3 x4 : Option Ent), S = [o, .lst (rs.map rD), .lst (ps.map rD)] ∧ ps.length ≤ i * 20 ∧ (∀ q ∈ ps, q.1 < rs.length ∧ q.2 < rs.length ∧ q.1 ≠ q.2) ∧ Γ = [some (.own 0), some (.own 1), some (.own 2), x3, x4],
    ⟨[], none, none, rfl, by simp, fun q hq => (List.not_mem_nil hq).elim, rfl⟩, ?_, ?_⟩
  · rintro i _ _ hi ⟨ps, x3, x4, rfl, hl, hps, rfl⟩
    walk_at "gg"
    refine ls_forR (lr_1 ?_)
    walk_at "gg"
    rw [List.length_map]
    refine ⟨by omega, by omega, ?_⟩
    refine ⟨fun j Γ S => ∃ (ps : List (Nat × Nat)) (x4 : Option Ent), S = [o, .lst (rs.map rD), .lst (ps.map rD)] ∧ ps.length ≤ i * 20 + j ∧ (∀ q ∈ ps, q.1 < rs.length ∧ q.2 < rs.length ∧ q.1 ≠ q.2) ∧ Γ = [some (.own 0), some (.own 1), some (.own 2), some (.d (.int (0 + i))), x4],
      ⟨ps, _, rfl, by omega, hps, rfl⟩, ?_, ?_⟩
    · rintro j _ _ hj ⟨ps, x4, rfl, hl, hps, rfl⟩
      walk_at "gg"
      refine ⟨fun hb => ?_, fun hb => ?_⟩
      · have hne := neI hb
        walk_at "gg"
        refine rr_ixM (n := 1) rfl (by omega) (by omega) fun r1 hr1 _ => ?_
        walk_at "gg"
        refine rr_ixM (n := 1) rfl (by omega) (by omega) fun r2 hr2 _ => ?_
        refine rr_eqD (d := rP r1) (e := rP r2) rfl rfl rfl rfl ?_
        walk_at "gg"
        refine ⟨fun _ => ?_, fun _ => ?_⟩
        · walk_at "gg"
          refine ⟨⟨_, .inr ⟨2, rfl, rfl⟩⟩, ?_⟩
          walk_at "gg"
          refine rm_append (ds := ps.map rD) rfl (by rw [List.length_map]; unfold sizeLine; have := Nat.mul_le_mul (show i ≤ 20 by omega) (Nat.le_refl 20); omega) ?_
          refine ⟨ps ++ [(i, j)], _, ?_, ?_, ?_, rfl⟩
          · rw [List.map_append]
            simp only [Int.zero_add]
            rfl
          · rw [List.length_append]; simp only [List.length_cons, List.length_nil]; omega
          · intro q hq
            rcases List.mem_append.mp hq with hq | hq
            · exact hps q hq
            · simp only [List.mem_cons, List.not_mem_nil, or_false] at hq
              subst hq
              exact ⟨hi, hj, by show i ≠ j; omega⟩
        · walk_at "gg"
          exact ⟨ps, _, rfl, by omega, hps, rfl⟩
      · walk_at "gg"
        refine ⟨fun z => Bool.noConfusion z, fun _ => ?_⟩
        walk_at "gg"
        exact ⟨ps, _, rfl, by omega, hps, rfl⟩
    · rintro _ _ ⟨ps, x4, rfl, hl, hps, rfl⟩
      exact ⟨ps, _, _, rfl, by omega, hps, rfl⟩
  · rintro _ _ ⟨ps, x3, x4, rfl, hl, hps, rfl⟩
    have hl2 : ps.length ≤ 400 := by have := Nat.mul_le_mul hm2 (Nat.le_refl 20); omega
    refine frzL (S := [o, .lst (rs.map rD)]) (xs := ps.map rD) (Γ' := [some (.own 0), some (.own 1), some (.d (.lst (ps.map rD))), none, none]) 2 rfl ?_ (by walk_at "envle") (by rw [hA]; exact Nat.le_refl _)
    refine ls_cut (fun Γ S => ∃ o' : Own, S = [o', .lst (rs.map rD)] ∧ Pool (n + 1) o' ∧ Γ = [some (.own 0), some (.own 1), some (.d (.lst (ps.map rD))), none, none]) ?_ ?_
    · walk_at "gg"
      refine rr_neD (d := .list (ps.map rP)) (e := .list []) (by show (toPs (ps.map rD)).map PyData.list = _; rw [toPs_r]; rfl) rfl (shaped_r ps) rfl ?_
      rw [eqv_r0]
      walk_at "gg"
      refine ⟨fun hb => ?_, fun hb => ?_⟩
      · have hne : 0 < ps.length := by
          cases ps with
          | nil => simp at hb
          | cons q ps => simp
        walk_at "gg"
        refine draw n ho (by omega) (by decide) (by decide) fun d o1 d0 d1 ho1 => ?_
        walk_at "gg"
        refine ⟨fun hb2 => ?_, fun hb2 => ?_⟩
        · walk_at "gg"
          rw [List.length_map]
          refine draw _ ho1 (by omega) (by omega) (by omega) fun d2 o2 e0 e1 ho2 => ?_
          obtain ⟨q, hq, _, hq2⟩ := ixM (f := rD) e0 e1
          refine rr_ixL hq2 ?_
          obtain ⟨c1, c2, c3⟩ := hps q hq
          exact hp _ _ ⟨q.1, q.2, o2, rfl, rfl, c1, c2, c3, ho2.mono (by omega)⟩
        · walk_at "gg"
          exact ⟨ho1, rfl⟩
      · walk_at "gg"
        refine ⟨fun z => Bool.noConfusion z, fun _ => ?_⟩
        walk_at "gg"
        exact ⟨ho.mono (by omega), rfl⟩
    · rintro _ _ ⟨o1, rfl, ho1, rfl⟩
      walk_at "gg"
      rw [List.length_map]
      refine draw _ ho1 (by omega) (by omega) (by omega) fun d2 o2 e0 e1 ho2 => ?_
      walk_at "gg"
      rw [List.length_map]
      refine draw _ ho2 (by omega) (by omega) (by omega) fun d3 o3 f0 f1 ho3 => ?_
      walk_at "gg"
      rw [List.length_map]
      refine rr_int (by omega) ?_
      walk_at "gg"
      have hm3 := Int.emod_nonneg (d2 + 1 + d3) (show (rs.length : Int) ≠ 0 by omega)
      have hm4 := Int.emod_lt_of_pos (d2 + 1 + d3) (show (0 : Int) < rs.length by omega)
      refine hp _ _ ⟨d2.toNat, ((d2 + 1 + d3) % (rs.length : Int)).toNat, o3, ?_, rfl, by omega, by omega, ?_, ho3.mono (by omega)⟩
      · show Ent.d (D.tup [D.int d2, D.int ((d2 + 1 + d3) % (rs.length : Int))]) = Ent.d (D.tup [D.int d2.toNat, D.int ((d2 + 1 + d3) % (rs.length : Int)).toNat])
        rw [Int.toNat_of_nonneg e0, Int.toNat_of_nonneg hm3]
      · intro e
        have e' : d2 = (d2 + 1 + d3) % (rs.length : Int) := by omega
        by_cases hlt : d2 + 1 + d3 < rs.length
        · rw [Int.emod_eq_of_lt (by omega) hlt] at e'; omega
        · have e2 : (d2 + 1 + d3) % (rs.length : Int) = d2 + 1 + d3 - rs.length := by
            rw [← Int.sub_emod_right, Int.emod_eq_of_lt (by omega) (by omega)]
          omega
theorem joined {w : Wd} {E : XK} {o : Own} {u : Own} {k : KE} {rs : List (Nat × Nat)} (n : Nat) (ho : Pool n o) (hn : n < 2 ^ 50) (h2 : 2 ≤ rs.length) (h3 : rs.length ≤ 20) (hu : u ≠ .gone)
    (h : ∀ (x y : Nat) (o' : Own), x < rs.length → y < rs.length → x ≠ y → Pool (n + 3) o' → k (.d (rD (x, y))) [o', u, .lst (rs.map rD)]) : RS w dsJoined E [.own 0, .own 2] [o, u, .lst (rs.map rD)] k := by
  refine rs_call (ex0 (w := w) (E := E)) [0, 2] (Pick.two (by decide) rfl ho.ng rfl (by intro z; cases z)) (es' := [.own 0, .own 1]) rfl rfl ⟨(rs, n), ⟨o, rfl, rfl, ho, hn, h2, h3⟩, fun e S' ⟨x, y, o', q1, q2, q3, q4, q5, q6⟩ => ?_⟩
  refine ⟨_, [], q2.trans (List.append_nil _).symm, rfl, ?_, ?_⟩
  · intro a ha
    simp only [List.mem_cons, List.not_mem_nil, or_false] at ha
    rcases ha with rfl | rfl
    · exact q6.ng
    · intro z; cases z
  · subst q1
    exact h x y o' q3 q4 q5 q6
end

section
variable {P : Program} {w0 : World} {K : PySem.W.Frag} {mg : Str → Option Value} {base : Heap}
def Stp.str : Stp → Nat | .win _ _ s _ => s.toNat | _ => 1
def Stp.tms : Stp → Nat | .rep _ t => t.toNat | _ => 1
def Stp.jn : Stp → Nat | .join _ _ => 1 | _ => 0
def Stp.small : Stp → Prop
  | .win _ l s _ => l ≤ 9 ∧ s ≤ 6
  | .rep _ t => t ≤ 6
  | .crop _ a b => a ≤ 30 ∧ b ≤ 30
  | .pad _ a b => a ≤ 30 ∧ b ≤ 30
  | .join _ _ => True
def Sp (gs : List Stp) : Nat := gs.foldl (fun a x => a * x.str) 1
def Tp (gs : List Stp) : Nat := gs.foldl (fun a x => a * x.tms) 1
def Jp (gs : List Stp) : Nat := gs.foldl (fun a x => a + x.jn) 0
theorem Sp_app {gs : List Stp} {x : Stp} : Sp (gs ++ [x]) = Sp gs * x.str := by simp [Sp]
theorem Tp_app {gs : List Stp} {x : Stp} : Tp (gs ++ [x]) = Tp gs * x.tms := by simp [Tp]
theorem Jp_app {gs : List Stp} {x : Stp} : Jp (gs ++ [x]) = Jp gs + x.jn := by simp [Jp]
/-- a drawn pipeline -/
structure Drawn (m : Nat) (gs : List Stp) : Prop where
  ok : PipeOk gs
  len : gs.length ≤ m
  small : ∀ x ∈ gs, x.small
  st : Sp gs ≤ 60
  ti : Tp gs ≤ 24
  jo : Jp gs ≤ 3
theorem pipe_app {gs : List Stp} {x : Stp} (h : PipeOk gs) (hx : x.ok gs.length = true) : PipeOk (gs ++ [x]) := by
  intro i y hy
  by_cases hi : i < gs.length
  · rw [List.getElem?_append_left hi] at hy; exact h i y hy
  · have : i = gs.length := by
      have := (List.getElem?_eq_some_iff.mp hy).1
      rw [List.length_append] at this; simp only [List.length_cons, List.length_nil] at this; omega
    subst this
    rw [List.getElem?_concat_length] at hy
    cases hy; exact hx
/-- what stands between the turns -/
structure StI (gs : List Stp) (rs : List (Nat × Nat)) (a b c : Nat) : Prop where
  ok : PipeOk gs
  len : rs.length = gs.length + 1
  small : ∀ x ∈ gs, x.small
  rat : ∀ r ∈ rs, 0 < r.1 ∧ r.1 ≤ b ∧ 0 < r.2 ∧ r.2 ≤ a
  st : Sp gs = a
  ti : Tp gs = b
  jo : Jp gs = c
  a1 : 0 < a
  a2 : a ≤ 60
  b1 : 0 < b
  b2 : b ≤ 24
  c1 : c ≤ 3
theorem mem_app1 {α : Type} {P : α → Prop} {xs : List α} {x : α} (h : ∀ y ∈ xs, P y) (hx : P x) : ∀ y ∈ xs ++ [x], P y := fun y hy => by
  rcases List.mem_append.mp hy with hy | hy
  · exact h y hy
  · simp only [List.mem_cons, List.not_mem_nil, or_false] at hy; subst hy; exact hx
theorem StI.add {gs : List Stp} {rs : List (Nat × Nat)} {a b c a' b' c' : Nat} {x : Stp} {r : Nat × Nat} (h : StI gs rs a b c) (hx : x.ok gs.length = true) (hs : x.small) (ha : a' = a * x.str) (hb : b' = b * x.tms) (hc : c' = c + x.jn)
    (q1 : 0 < a') (q2 : a' ≤ 60) (q3 : 0 < b') (q4 : b' ≤ 24) (q5 : c' ≤ 3) (q6 : a ≤ a') (q7 : b ≤ b') (hr : 0 < r.1 ∧ r.1 ≤ b' ∧ 0 < r.2 ∧ r.2 ≤ a') : StI (gs ++ [x]) (rs ++ [r]) a' b' c' :=
  ⟨pipe_app h.ok hx, by rw [List.length_append, List.length_append, h.len]; rfl, mem_app1 h.small hs, mem_app1 (fun y hy => by have := h.rat y hy; omega) hr, by rw [Sp_app, h.st, ha], by rw [Tp_app, h.ti, hb], by rw [Jp_app, h.jo, hc], q1, q2, q3, q4, q5⟩
def dsDSteps : DS := ds (α := Nat × Nat) (fun a es S => ∃ o, es = [.own 0, .d (.int a.1)] ∧ S = [o] ∧ Pool a.2 o ∧ a.2 < 2 ^ 49 ∧ a.1 ≤ 8)
  (fun a e S' => ∃ (gs : List Stp) (o' : Own), e = .own 1 ∧ S' = [o', .lst (gs.map Stp.d)] ∧ Drawn a.1 gs ∧ Pool (a.2 + 100) o')
theorem ok_dsteps {f : Addr} {fd : FuncData} (F : Fun K "_law_steps" "_law_steps" s_law_steps f fd) (T : Blt mg) (d_law_draw : Df P w0 K mg base CX0 1 "_law_draw" 2 dsDraw) (d_law_lesser : Df P w0 K mg base CX0 1 "_law_lesser" 2 dsLesser) (d_law_window : Df P w0 K mg base CX0 2 "_law_window" 2 dsWindow) (d_law_joined : Df P w0 K mg base CX0 2 "_law_joined" 2 dsJoined) :
    FnOk P w0 K mg base CX0 3 f fd ["pool", "many"] (spD K dsDSteps) := by
  refine fn0 F sc_law_steps (fun es S p e h => by obtain ⟨a, ⟨o, h, _⟩, _⟩ := h; rw [h]; rfl) (fun cdv A outer s H E hr w es S p e hK hA h => ?_)
  subst hK
  obtain ⟨⟨m, n⟩, ⟨o, rfl, rfl, ho, hn, hm⟩, hp⟩ := h
  dsimp only at ho hn hm hp
  refine ⟨_, (pss_cons (ps_asg (pe_tup (pa_cons (pe_lst pa_nil) (pa_cons (pe_lst (pa_cons (pe_tup (pa_cons pe_int (pa_cons pe_int pa_nil))) pa_nil)) (pa_cons pe_int (pa_cons pe_int (pa_cons pe_int pa_nil)))))) (pg_tup (n := 5) (by rfl) (pgs_cons (gn 2 sc_law_steps.nd) (pgs_cons (gn 3 sc_law_steps.nd) (pgs_cons (gn 4 sc_law_steps.nd) (pgs_cons (gn 5 sc_law_steps.nd) (pgs_cons (gn 6 sc_law_steps.nd) pgs_nil)))))))
    (pss_cons (ps_for PassesOwn.never rfl (pi_range1 (by rfl) T.range (pa_cons (pe_df d_law_draw (hr.mono (by decide)) pass0 (pa_cons (pv 0) (pa_cons (pe_op op_add (pv 1) pe_int) pa_nil))) pa_nil)) (gn 7 sc_law_steps.nd)
      (pss_cons (sset 8 (pe_ifExp (pt_cmpR op_gt (pe_df d_law_draw (hr.mono (by decide)) pass0 (pa_cons (pv 0) (pa_cons pe_int pa_nil))) pe_int (nomark _)) (b_len T.len (pv 2)) (pe_df d_law_draw (hr.mono (by decide)) pass0 (pa_cons (pv 0) (pa_cons (pe_op op_add (b_len T.len (pv 2)) pe_int) pa_nil)))) sc_law_steps.nd)
      (pss_cons (ps_asg (pe_ix ix_list (pv 3) (pv 8) (fun _ _ => rfl)) (pg_tup (n := 2) (by rfl) (pgs_cons (gn 9 sc_law_steps.nd) (pgs_cons (gn 10 sc_law_steps.nd) pgs_nil))))
      (pss_cons (sset 11 (pe_df d_law_draw (hr.mono (by decide)) pass0 (pa_cons (pv 0) (pa_cons pe_int pa_nil))) sc_law_steps.nd)
      (pss_one (ps_if (pt_cmpR op_lt (pv 11) pe_int (nomark _))
        (pss_cons (ps_asg (pe_df d_law_window (hr.mono (by decide)) pass0 (pa_cons (pv 0) (pa_cons (pv 4) pa_nil))) (pg_tup (n := 3) (by rfl) (pgs_cons (gn 12 sc_law_steps.nd) (pgs_cons (gn 13 sc_law_steps.nd) (pgs_cons (gn 14 sc_law_steps.nd) pgs_nil)))))
        (pss_cons (sset 4 (pe_op op_mulW (pv 4) (pv 13)) sc_law_steps.nd)
        (pss_cons (ps_expr (pe_bm PySem.F.plainAttrs_list PySem.F.slot_list_append PySem.F.type_list_append mt_append (pv 2) (pa_cons (pe_tup (pa_cons pe_str (pa_cons (pv 8) (pa_cons (pv 12) (pa_cons (pv 13) (pa_cons (pv 14) pa_nil)))))) pa_nil)))
        (pss_one (ps_expr (pe_bm PySem.F.plainAttrs_list PySem.F.slot_list_append PySem.F.type_list_append mt_append (pv 3) (pa_cons (pe_df d_law_lesser (hr.mono (by decide)) pass0 (pa_cons (pv 9) (pa_cons (pe_op op_mulW (pv 10) (pv 13)) pa_nil))) pa_nil)))))))
        (pss_one (ps_if (PW.pt (pw_and (pt_cmpR op_eq (pv 11) pe_int (nomark _)) (pw_and1 (pt_cmpR op_lt (pv 5) pe_int (nomark _)))))
          (pss_cons (sset 15 (pe_op op_add pe_int (pe_df d_law_draw (hr.mono (by decide)) pass0 (pa_cons (pv 0) (pa_cons (b_min2 T.min pe_int (pe_op op_fdivW pe_int (pv 5))) pa_nil)))) sc_law_steps.nd)
          (pss_cons (sset 5 (pe_op op_mulW (pv 5) (pv 15)) sc_law_steps.nd)
          (pss_cons (ps_expr (pe_bm PySem.F.plainAttrs_list PySem.F.slot_list_append PySem.F.type_list_append mt_append (pv 2) (pa_cons (pe_tup (pa_cons pe_str (pa_cons (pv 8) (pa_cons (pv 15) pa_nil)))) pa_nil)))
          (pss_one (ps_expr (pe_bm PySem.F.plainAttrs_list PySem.F.slot_list_append PySem.F.type_list_append mt_append (pv 3) (pa_cons (pe_df d_law_lesser (hr.mono (by decide)) pass0 (pa_cons (pe_op op_mulW (pv 9) (pv 15)) (pa_cons (pv 10) pa_nil))) pa_nil)))))))
          (pss_one (ps_if (PW.pt (pw_and (pt_cmpR op_eq (pv 11) pe_int (nomark _)) (pw_and (pt_cmpR op_lt (pv 6) pe_int (nomark _)) (pw_and1 (pt_cmpR (op_neD hr.units) (pv 2) (pe_lst pa_nil) (nomark _))))))
            (pss_cons (sset 6 (pe_op op_add (pv 6) pe_int) sc_law_steps.nd)
            (pss_cons (ps_asg (pe_df d_law_joined (hr.mono (by decide)) pass0 (pa_cons (pv 0) (pa_cons (pv 3) pa_nil))) (pg_tup (n := 2) (by rfl) (pgs_cons (gn 16 sc_law_steps.nd) (pgs_cons (gn 17 sc_law_steps.nd) pgs_nil))))
            (pss_cons (ps_expr (pe_bm PySem.F.plainAttrs_list PySem.F.slot_list_append PySem.F.type_list_append mt_append (pv 2) (pa_cons (pe_tup (pa_cons pe_str (pa_cons (pv 16) (pa_cons (pv 17) pa_nil)))) pa_nil)))
            (pss_one (ps_expr (pe_bm PySem.F.plainAttrs_list PySem.F.slot_list_append PySem.F.type_list_append mt_append (pv 3) (pa_cons (pe_ix ix_list (pv 3) (pv 16) (fun _ _ => rfl)) pa_nil)))))))
            (pss_cons (ps_setLc (i := 18) (own := [("turn_here", 19)]) (g := gName 19) rfl sc_law_steps.nd rfl rfl (sw_true rfl rfl rfl (by decide +kernel)) (pi_range1 (by rfl) T.range (pa_cons pe_int pa_nil)) (blkOk_by (own := [("turn_here", 19)]) (N := N_law_steps) (sc := defScope s_law_steps) (by decide +kernel)) (fun _ _ _ _ _ => gn 19 sc_law_steps.nd) (fun _ _ _ _ _ => pts_nil) (fun _ _ _ _ _ => (pe_ix (ix_listB w.K) (pe_lst (pa_cons pe_int (pa_cons pe_int (pa_cons pe_int (pa_cons (pe_dfB d_law_draw (hr.mono (by decide)) pass0 (pa_cons (pv 0) (pa_cons pe_int pa_nil))) pa_nil))))) (pe_dfB d_law_draw (hr.mono (by decide)) pass0 (pa_cons (pv 0) (pa_cons pe_int pa_nil))) (fun _ _ => rfl))))
            (pss_cons (ps_expr (pe_bm PySem.F.plainAttrs_list PySem.F.slot_list_append PySem.F.type_list_append mt_append (pv 2) (pa_cons (pe_tup (pa_cons (pe_ix ix_list (pe_lst (pa_cons pe_str (pa_cons pe_str pa_nil))) (pe_op op_mod (b_int T.int (pv 11)) pe_int) (fun _ _ => rfl)) (pa_cons (pv 8) (pa_cons (pe_ix ix_list (pv 18) pe_int (fun _ _ => rfl)) (pa_cons (pe_ix ix_list (pv 18) pe_int (fun _ _ => rfl)) pa_nil))))) pa_nil)))
            (pss_one (ps_expr (pe_bm PySem.F.plainAttrs_list PySem.F.slot_list_append PySem.F.type_list_append mt_append (pv 3) (pa_cons (pe_ix ix_list (pv 3) (pv 8) (fun _ _ => rfl)) pa_nil))))))))))))))))
    (pss_one (ps_ret (pv 2))))), ?_⟩
  try dsimp only [L2.cxOf, L2.Cx.nox]
  refine ls_seq (ls_asg (le_tupE (la_cons (le_lstO (la_nil ⟨_, rfl, sz rfl, ?_⟩)))))
  refine la_cons (le_lstO ?_)
  walk_at "gg"
  refine ⟨by simp only [List.length_cons, List.length_nil]; exact sz rfl, ?_⟩
  refine lg_tupE rfl (lgs_cons (lg_name (lgs_cons (lg_name (lgs_cons (lg_name (lgs_cons (lg_name (lgs_cons (lg_name (lgs_nil ?_)))))))))))
  walk_at "gg"
  refine ls_forR (lr_1 ?_)
  walk_at "gg"
  refine draw n ho (by omega) (by omega) (by omega) fun d0 o1 a0 a1 ho1 => ?_
  walk_at "gg"
  refine ⟨by omega, by omega, ?_⟩
  refine ⟨fun i Γ S => ∃ (oi : Own) (gs : List Stp) (rs : List (Nat × Nat)) (a b c : Nat) (x7 x8 x9 x10 x11 x12 x13 x14 x15 x16 x17 x18 : Option Ent), S = [oi, .lst (gs.map Stp.d), .lst (rs.map rD)] ∧ Pool (n + 1 + 12 * i) oi ∧ StI gs rs a b c ∧ gs.length = i ∧
    Γ = [some (.own 0), some (.d (.int m)), some (.own 1), some (.own 2), some (.d (.int a)), some (.d (.int b)), some (.d (.int c)), x7, x8, x9, x10, x11, x12, x13, x14, x15, x16, x17, x18, none],
    ⟨o1, [], [(1, 1)], 1, 1, 0, _, _, _, _, _, _, _, _, _, _, _, _, rfl, ho1, ⟨fun i x h => by simp at h, rfl, fun x h => (List.not_mem_nil h).elim, fun r hr => by simp at hr; subst hr; decide, rfl, rfl, rfl, by decide, by decide, by decide, by decide, by decide⟩, rfl, rfl⟩, ?_, ?_⟩
  · rintro i _ _ hi ⟨oi, gs, rs, a, b, c, x7, x8, x9, x10, x11, x12, x13, x14, x15, x16, x17, x18, rfl, hoi, I, hgl, rfl⟩
    have hrl := I.len
    refine lg_name (ls_cut (fun Γ S => ∃ (oj : Own) (sp : Nat), S = [oj, .lst (gs.map Stp.d), .lst (rs.map rD)] ∧ Pool (n + 1 + 12 * i + 2) oj ∧ sp ≤ gs.length ∧
      Γ = [some (.own 0), some (.d (.int m)), some (.own 1), some (.own 2), some (.d (.int a)), some (.d (.int b)), some (.d (.int c)), some (.d (.int (0 + i))), some (.d (.int sp)), x9, x10, x11, x12, x13, x14, x15, x16, x17, x18, none]) ?_ ?_)
    · walk_at "gg"
      refine draw _ hoi (by omega) (by decide) (by decide) fun d1 o2 b0 b1 ho2 => ?_
      walk_at "gg"
      refine ⟨fun hb => ?_, fun hb => ?_⟩
      · walk_at "gg"
        rw [List.length_map]
        exact ⟨o2, gs.length, rfl, ho2.mono (by omega), Nat.le_refl _, rfl⟩
      · walk_at "gg"
        rw [List.length_map]
        refine draw _ ho2 (by omega) (by omega) (by omega) fun d2 o3 c0 c1 ho3 => ?_
        walk_at "gg"
        refine ⟨o3, d2.toNat, rfl, ho3.mono (by omega), by omega, ?_⟩
        rw [Int.toNat_of_nonneg c0]; rfl
    rintro _ _ ⟨o2, sp, rfl, ho2, hsp, rfl⟩
    walk_at "gg"
    refine rr_ixM (n := 2) rfl (by omega) (by omega) fun r hr _ => ?_
    obtain ⟨r1, r2, r3, r4⟩ := I.rat r hr
    have hb2 := I.b2
    have ha2 := I.a2
    have hb1 := I.b1
    have ha1 := I.a1
    walk_at "gg"
    refine draw _ ho2 (by omega) (by decide) (by decide) fun d3 o3 c0 c1 ho3 => ?_
    walk_at "gg"
    refine ⟨fun hb => ?_, fun hb => ?_⟩
    · walk_at "gg"
      refine window _ ho3 (by omega) I.a1 I.a2 fun l s' p' o4 w1 w2 w3 w4 w5 w6 ho4 => ?_
      walk_at "gg"
      refine rr_int (wide_mul (a := 20) (b := 20) (by omega) (by omega) (by decide) (by decide) (by decide)) ?_
      walk_at "gg"
      refine ⟨⟨_, .inr ⟨1, rfl, rfl⟩⟩, ?_⟩
      walk_at "gg"
      refine rm_append (ds := gs.map Stp.d) rfl (by rw [List.length_map]; unfold sizeLine; omega) ?_
      walk_at "gg"
      refine ⟨⟨_, .inr ⟨2, rfl, rfl⟩⟩, ?_⟩
      walk_at "gg"
      refine rr_int (wide_mul (a := 20) (b := 20) (by omega) (by omega) (by decide) (by decide) (by decide)) ?_
      have hrs : r.2 * s' ≤ a * s' := Nat.mul_le_mul_right _ r4
      have hrs0 : 0 < r.2 * s' := Nat.mul_pos r3 (by omega)
      rw [← Int.natCast_mul]
      walk_at "gg"
      refine lesser r1 hrs0 (by omega) (by omega) fun x y l1 l2 l3 l4 => ?_
      walk_at "gg"
      refine rm_append (ds := rs.map rD) rfl (by rw [List.length_map]; unfold sizeLine; omega) ?_
      refine ⟨o4, gs ++ [.win sp l s' p'], rs ++ [(x, y)], a * s', b, c, _, _, _, _, _, _, _, _, _, _, _, _, by rw [List.map_append, List.map_append]; rfl, ho4.mono (by omega), ?_, by rw [List.length_append, hgl]; rfl, by rw [Int.natCast_mul]; rfl⟩
      refine I.add (by simp [Stp.ok, Stp.nums]; omega) ⟨by omega, by omega⟩ (by simp [Stp.str]) (by simp [Stp.tms]) (by simp [Stp.jn]) (Nat.mul_pos I.a1 (by omega)) w6 I.b1 I.b2 I.c1 (Nat.le_mul_of_pos_right _ (by omega)) (Nat.le_refl _) ⟨l1, by omega, l3, by omega⟩
    refine ls_ifB (decide (d3 = 2) && decide ((b : Int) < 13)) ?_ (fun hc => ?_) (fun hc => ?_)
    · walk_at "gg"
      refine ⟨fun hb1 => ?_, fun hb1 => ?_⟩
      · have := eqI' hb1
        walk_at "gg"
        exact ⟨by rw [decide_eq_true this, Bool.true_and], rfl⟩
      · have := neI' hb1
        exact ⟨by rw [decide_eq_false this, Bool.false_and], rfl⟩
    · rw [Bool.and_eq_true] at hc
      have hb13 : (b : Int) < 13 := of_decide_eq_true hc.2
      walk_at "gg"
      refine rr_int (wide_div (b := 30) (by omega) (by omega) (by decide) (by decide)) ?_
      walk_at "gg"
      have e24 : (24 : Int) / b = ((24 / b : Nat) : Int) := by simp
      have h24 : 0 < 24 / b := Nat.div_pos hb2 hb1
      have h24b : b * (24 / b) ≤ 24 := Nat.mul_div_le 24 b
      rw [e24]
      refine draw _ ho3 (by omega) (by split <;> omega) (by split <;> omega) fun d4 o4 w0 w1 ho4 => ?_
      walk_at "gg"
      obtain ⟨t, ht⟩ : ∃ t : Nat, 1 + d4 = t := ⟨(1 + d4).toNat, by omega⟩
      rw [ht]
      have ht1 : 1 ≤ t ∧ t ≤ 6 ∧ t ≤ 24 / b := by split at w1 <;> omega
      have htb : b * t ≤ 24 := Nat.le_trans (Nat.mul_le_mul_left b ht1.2.2) h24b
      refine rr_int (wide_mul (a := 20) (b := 20) (by omega) (by omega) (by decide) (by decide) (by decide)) ?_
      walk_at "gg"
      refine ⟨⟨_, .inr ⟨1, rfl, rfl⟩⟩, ?_⟩
      walk_at "gg"
      refine rm_append (ds := gs.map Stp.d) rfl (by rw [List.length_map]; unfold sizeLine; omega) ?_
      walk_at "gg"
      refine ⟨⟨_, .inr ⟨2, rfl, rfl⟩⟩, ?_⟩
      walk_at "gg"
      refine rr_int (wide_mul (a := 20) (b := 20) (by omega) (by omega) (by decide) (by decide) (by decide)) ?_
      have hrt : r.1 * t ≤ b * t := Nat.mul_le_mul_right _ r2
      have hrt0 : 0 < r.1 * t := Nat.mul_pos r1 (by omega)
      rw [← Int.natCast_mul]
      walk_at "gg"
      refine lesser hrt0 r3 (by omega) (by omega) fun x y l1 l2 l3 l4 => ?_
      walk_at "gg"
      refine rm_append (ds := rs.map rD) rfl (by rw [List.length_map]; unfold sizeLine; omega) ?_
      refine ⟨o4, gs ++ [.rep sp t], rs ++ [(x, y)], a, b * t, c, _, _, _, _, _, _, _, _, _, _, _, _, by rw [List.map_append, List.map_append]; rfl, ho4.mono (by omega), ?_, by rw [List.length_append, hgl]; rfl, by rw [Int.natCast_mul]; rfl⟩
      refine I.add (by simp [Stp.ok, Stp.nums]; omega) (show (t : Int) ≤ 6 by omega) (by simp [Stp.str]) (by simp [Stp.tms]) (by simp [Stp.jn]) I.a1 I.a2 (Nat.mul_pos I.b1 (by omega)) htb I.c1 (Nat.le_refl _) (Nat.le_mul_of_pos_right _ (by omega)) ⟨l1, by omega, l3, by omega⟩
    refine ls_ifB (decide (d3 = 3) && (decide ((c : Int) < 3) && !decide (gs = []))) ?_ (fun hc => ?_) (fun hc => ?_)
    · walk_at "gg"
      refine ⟨fun hb1 => ?_, fun hb1 => ?_⟩
      · have := eqI' hb1
        walk_at "gg"
        refine ⟨fun hb2 => ?_, fun hb2 => ?_⟩
        · walk_at "gg"
          refine rr_neD (d := .list (gs.map Stp.p)) (e := .list []) (by show (toPs (gs.map Stp.d)).map PyData.list = _; rw [toPs_s]; rfl) rfl (shaped_s gs) rfl ?_
          walk_at "gg"
          exact ⟨by rw [decide_eq_true this, hb2, show PyData.eqv (.list (gs.map Stp.p)) (.list []) = decide (gs = []) from eqv_sL gs [], Bool.true_and, Bool.true_and], rfl⟩
        · exact ⟨by rw [hb2, Bool.false_and, Bool.and_false], rfl⟩
      · have := neI' hb1
        exact ⟨by rw [decide_eq_false this, Bool.false_and], rfl⟩
    · rw [Bool.and_eq_true, Bool.and_eq_true] at hc
      obtain ⟨_, hc2, hc3⟩ := hc
      have hc4 : (c : Int) < 3 := of_decide_eq_true hc2
      have hc5 : 0 < gs.length := by
        cases gs with
        | nil => simp at hc3
        | cons g gs => simp
      walk_at "gg"
      refine joined _ ho3 (by omega) (by omega) (by omega) (by intro z; cases z) fun x y o4 j1 j2 j3 ho4 => ?_
      walk_at "gg"
      refine ⟨⟨_, .inr ⟨1, rfl, rfl⟩⟩, ?_⟩
      walk_at "gg"
      refine rm_append (ds := gs.map Stp.d) rfl (by rw [List.length_map]; unfold sizeLine; omega) ?_
      walk_at "gg"
      refine ⟨⟨_, .inr ⟨2, rfl, rfl⟩⟩, ?_⟩
      walk_at "gg"
      refine rr_ixM (n := 2) rfl (by omega) (by omega) fun r' hr' _ => ?_
      walk_at "gg"
      refine rm_append (ds := rs.map rD) rfl (by rw [List.length_map]; unfold sizeLine; omega) ?_
      refine ⟨o4, gs ++ [.join x y], rs ++ [r'], a, b, c + 1, _, _, _, _, _, _, _, _, _, _, _, _, by rw [List.map_append, List.map_append]; rfl, ho4.mono (by omega), ?_, by rw [List.length_append, hgl]; rfl, rfl⟩
      refine I.add (by simp [Stp.ok]; omega) trivial (by simp [Stp.str]) (by simp [Stp.tms]) (by simp [Stp.jn]) I.a1 I.a2 I.b1 I.b2 (by omega) (Nat.le_refl _) (Nat.le_refl _) (I.rat r' hr')
    · walk_at "gg"
      refine le_lcR (lr_1 ?_)
      walk_at "gg"
      refine ⟨by omega, by omega, ?_⟩
      refine ⟨fun j acc S => ∃ (o' : Own) (zs : List Int), S = [o', .lst (gs.map Stp.d), .lst (rs.map rD)] ∧ acc = zs.map D.int ∧ zs.length = j ∧ (∀ z ∈ zs, 0 ≤ z ∧ z ≤ 20) ∧ Pool (n + 1 + 12 * i + 3 + 2 * j) o', ⟨o3, [], rfl, rfl, rfl, fun z hz => (List.not_mem_nil hz).elim, ho3⟩, ?_, ?_⟩
      · rintro j acc _ hj _ ⟨o4, zs, rfl, rfl, hz, hzs, ho4⟩
        unfold LcT
        walk_at "gg"
        refine ⟨fun _ => ?_, fun z => Bool.noConfusion z⟩
        walk_at "gg"
        refine draw _ ho4 (by omega) (by decide) (by decide) fun d4 o5 w0 w1 ho5 => ?_
        walk_at "gg"
        refine draw _ ho5 (by omega) (by decide) (by decide) fun d5 o6 y0 y1 ho6 => ?_
        obtain ⟨y, hy, z, rfl, hz0, hz1⟩ := ix_any (ds := [D.int 0, D.int 1, D.int 2, D.int d4]) (i := d5) (fun x => ∃ z : Int, x = .int z ∧ 0 ≤ z ∧ z ≤ 20) y0 (by simpa using y1) (by
          intro x hx
          simp only [List.mem_cons, List.not_mem_nil, or_false] at hx
          rcases hx with rfl | rfl | rfl | rfl
          · exact ⟨_, rfl, by omega, by omega⟩
          · exact ⟨_, rfl, by omega, by omega⟩
          · exact ⟨_, rfl, by omega, by omega⟩
          · exact ⟨_, rfl, by omega, by omega⟩)
        refine rr_ixL hy ?_
        refine ⟨.int z, [o6, .lst (gs.map Stp.d), .lst (rs.map rD)], rfl, rfl, rfl, by rw [List.length_map]; unfold sizeLine; omega, o6, zs ++ [z], rfl, by rw [List.map_append]; rfl, by rw [List.length_append, hz]; rfl, mem_app1 hzs ⟨hz0, hz1⟩, ho6.mono (by omega)⟩
      · rintro acc _ ⟨o4, zs, rfl, rfl, hz, hzs, ho4⟩
        obtain ⟨z0, z1, rfl⟩ : ∃ z0 z1, zs = [z0, z1] := by
          match zs, hz with
          | [z0, z1], _ => exact ⟨z0, z1, rfl⟩
        obtain ⟨h00, h01⟩ := hzs z0 (by simp)
        obtain ⟨h10, h11⟩ := hzs z1 (by simp)
        have fin : ∀ x : Stp, x.ok gs.length = true → x.small → x.str = 1 → x.tms = 1 → x.jn = 0 → ∀ r' ∈ rs, ∃ oi gs' rs' a' b' c', [o4, Own.lst (gs.map Stp.d ++ [x.d]), Own.lst (rs.map rD ++ [rD r'])] = [oi, .lst (gs'.map Stp.d), .lst (rs'.map rD)] ∧ Pool (n + 1 + 12 * (i + 1)) oi ∧ StI gs' rs' a' b' c' ∧ gs'.length = i + 1 ∧ a' = a ∧ b' = b ∧ c' = c := fun x e1 e2 e3 e4 e5 r' hr' =>
          ⟨o4, gs ++ [x], rs ++ [r'], a, b, c, by rw [List.map_append, List.map_append]; rfl, ho4.mono (by omega), I.add e1 e2 (by rw [e3, Nat.mul_one]) (by rw [e4, Nat.mul_one]) (by rw [e5]; rfl) I.a1 I.a2 I.b1 I.b2 I.c1 (Nat.le_refl _) (Nat.le_refl _) (I.rat r' hr'), by rw [List.length_append, hgl]; rfl, rfl, rfl, rfl⟩
        walk_at "gg"
        refine ⟨⟨_, .inr ⟨1, rfl, rfl⟩⟩, ?_⟩
        walk_at "gg"
        refine rr_int (by decide) ?_
        rcases (show d3 % 2 = 0 ∨ d3 % 2 = 1 by omega) with e2 | e2
        · rw [e2]
          refine rr_ixL (d := .str "crop") rfl ?_
          walk_at "gg"
          refine rr_ixL (d := .int z0) rfl ?_
          walk_at "gg"
          refine rr_ixL (d := .int z1) rfl ?_
          walk_at "gg"
          refine rm_append (ds := gs.map Stp.d) rfl (by rw [List.length_map]; unfold sizeLine; omega) ?_
          walk_at "gg"
          refine ⟨⟨_, .inr ⟨2, rfl, rfl⟩⟩, ?_⟩
          walk_at "gg"
          refine rr_ixM (n := 2) rfl (by omega) (by omega) fun r' hr' _ => ?_
          walk_at "gg"
          refine rm_append (ds := rs.map rD) rfl (by rw [List.length_map]; unfold sizeLine; omega) ?_
          obtain ⟨oi, gs', rs', a', b', c', f1, f2, f3, f4, rfl, rfl, rfl⟩ := fin (.crop sp z0 z1) (by simp [Stp.ok, Stp.nums]; omega) ⟨by omega, by omega⟩ rfl rfl rfl r' hr'
          exact ⟨oi, gs', rs', _, _, _, _, _, _, _, _, _, _, _, _, _, _, _, f1, f2, f3, f4, rfl⟩
        · rw [e2]
          refine rr_ixL (d := .str "pad") rfl ?_
          walk_at "gg"
          refine rr_ixL (d := .int z0) rfl ?_
          walk_at "gg"
          refine rr_ixL (d := .int z1) rfl ?_
          walk_at "gg"
          refine rm_append (ds := gs.map Stp.d) rfl (by rw [List.length_map]; unfold sizeLine; omega) ?_
          walk_at "gg"
          refine ⟨⟨_, .inr ⟨2, rfl, rfl⟩⟩, ?_⟩
          walk_at "gg"
          refine rr_ixM (n := 2) rfl (by omega) (by omega) fun r' hr' _ => ?_
          walk_at "gg"
          refine rm_append (ds := rs.map rD) rfl (by rw [List.length_map]; unfold sizeLine; omega) ?_
          obtain ⟨oi, gs', rs', a', b', c', f1, f2, f3, f4, rfl, rfl, rfl⟩ := fin (.pad sp z0 z1) (by simp [Stp.ok, Stp.nums]; omega) ⟨by omega, by omega⟩ rfl rfl rfl r' hr'
          exact ⟨oi, gs', rs', _, _, _, _, _, _, _, _, _, _, _, _, _, _, _, f1, f2, f3, f4, rfl⟩
  · rintro _ _ ⟨oi, gs, rs, a, b, c, x7, x8, x9, x10, x11, x12, x13, x14, x15, x16, x17, x18, rfl, hoi, I, hgl, rfl⟩
    have hE : EnvLe 2 [none, none, some (.own 1), none, none, none, none, none, none, none, none, none, none, none, none, none, none, none, none, none] [some (.own 0), some (.d (.int m)), some (.own 1), some (.own 2), some (.d (.int a)), some (.d (.int b)), some (.d (.int c)), x7, x8, x9, x10, x11, x12, x13, x14, x15, x16, x17, x18, none] := by walk_at "envle"
    refine ls_forget (S := [oi, .lst (gs.map Stp.d)]) (by rw [hA]; exact Nat.le_succ 1) hE.len hE.at_ ?_
    walk_at "gg"
    exact hp _ _ ⟨gs, oi, rfl, rfl, ⟨I.ok, by omega, I.small, by have := I.st; have := I.a2; omega, by have := I.ti; have := I.b2; omega, by have := I.jo; have := I.c1; omega⟩, hoi.mono (by omega)⟩
theorem dsteps {w : Wd} {E : XK} {o : Own} {rest : List Own} {k : KE} {m : Nat} (n : Nat) (ho : Pool n o) (hn : n < 2 ^ 49) (hm : m ≤ 8)
    (h : ∀ (gs : List Stp) (o' : Own), Drawn m gs → Pool (n + 100) o' → k (.own (rest.length + 1)) (o' :: rest ++ [.lst (gs.map Stp.d)])) : RS w dsDSteps E [.own 0, .d (.int m)] (o :: rest) k :=
  rpO (m, n) ⟨o, rfl, rfl, ho, hn, hm⟩ (fun e S' ⟨gs, o', h1, h2, h3, h4⟩ => ⟨o', _, h2, h4.ng, h1, h gs o' h3 h4⟩) ho.ng
end

section
variable {P : Program} {w0 : World} {K : PySem.W.Frag} {mg : Str → Option Value} {base : Heap}
abbrev gL (gs : List GS) : D := .lst (gs.map gD)
/-- the first step that is none -/
def badFrom : Nat → List GS → Option Nat
  | _, [] => none
  | n, g :: gs => if rB g n = true then badFrom (n + 1) gs else some n
theorem badFrom_some : ∀ (gs : List GS) (n i : Nat) (g : GS), (∀ j h, j < i → gs[j]? = some h → rB h ((n + j : Nat) : Int) = true) → gs[i]? = some g → rB g ((n + i : Nat) : Int) = false → badFrom n gs = some (n + i)
  | [], _, _, _, _, e, _ => by simp at e
  | h :: gs, n, 0, g, _, e, hb => by
    simp at e; subst e
    rw [Nat.add_zero] at hb
    unfold badFrom
    rw [if_neg (by rw [hb]; exact Bool.false_ne_true)]; rfl
  | h :: gs, n, i + 1, g, ha, e, hb => by
    have h0 := ha 0 h (by omega) rfl
    rw [Nat.add_zero] at h0
    unfold badFrom
    rw [if_pos h0, show n + (i + 1) = n + 1 + i by omega]
    refine badFrom_some gs (n + 1) i g (fun j h' hj q => ?_) (by simpa using e) (by rw [show n + 1 + i = n + (i + 1) by omega]; exact hb)
    rw [show n + 1 + j = n + (j + 1) by omega]
    exact ha (j + 1) h' (by omega) (by simpa using q)
theorem badFrom_none : ∀ (gs : List GS) (n : Nat), (∀ (j : Nat) h, gs[j]? = some h → rB h ((n + j : Nat) : Int) = true) → badFrom n gs = none
  | [], _, _ => rfl
  | h :: gs, n, ha => by
    have h0 := ha 0 h rfl
    rw [Nat.add_zero] at h0
    unfold badFrom
    rw [if_pos h0]
    refine badFrom_none gs (n + 1) fun j h' q => ?_
    rw [show n + 1 + j = n + (j + 1) by omega]
    exact ha (j + 1) h' (by simpa using q)
def badAt (gs : List GS) : Option Nat := badFrom 0 gs
theorem badAt_some {gs : List GS} {i : Nat} {g : GS} (ha : ∀ j h, j < i → gs[j]? = some h → rB h j = true) (e : gs[i]? = some g) (hb : rB g i = false) : badAt gs = some i := by
  have := badFrom_some gs 0 i g (fun j h hj q => by rw [Nat.zero_add]; exact ha j h hj q) e (by rw [Nat.zero_add]; exact hb)
  rw [Nat.zero_add] at this
  exact this
theorem badAt_none {gs : List GS} (ha : ∀ (j : Nat) h, gs[j]? = some h → rB h j = true) : badAt gs = none := badFrom_none gs 0 fun j h q => by rw [Nat.zero_add]; exact ha j h q
def dsPInitX (C CI : Addr) : DS := dsX (α := List GS) (fun a es S => es = [.own 0, .d (gL a)] ∧ S = [.ins C []] ∧ ∀ g ∈ a, g.1 ∈ words) (fun a e S' => e = .d .non ∧ S' = [.ins C [("_steps", gL a)]] ∧ badAt a = none)
  (fun a C' u S' => C' = CI ∧ S' = [.ins C []] ∧ ∃ i : Nat, u = .int i ∧ badAt a = some i)
theorem ok_pinitX {f C CI : Addr} {fd : FuncData} (F : Fun K "__init__" "Pipeline.__init__" sPipelineinit f fd) (T : Blt mg) (L : PC K mg C) (dis_right : Df P w0 K mg base CX0 3 "is_right" 2 dsIsRightG) (dxInvalidPipeline : Xt P w0 K mg base 1 "InvalidPipeline" CI) :
    FnOk P w0 K mg base (L2.CX P w0) 4 f fd ["self", "steps"] (spD K (dsPInitX C CI)) := by
  refine fnX F scPipelineinit (fun es S p e h => by obtain ⟨a, ⟨h, _⟩, _⟩ := h; rw [h]; rfl) (fun cdv A outer s H E hr w es S p e hK hA hE h => ?_)
  subst hK
  obtain ⟨gs, ⟨rfl, rfl, hw⟩, hp, hx⟩ := h
  refine ⟨_, (pss_cons (ps_for (passes_of rfl) rfl (pi_enum (by rfl) T.enumerate (pa_cons (pv 1) pa_nil)) (pg_tup (n := 2) (by rfl) (pgs_cons (gn 2 scPipelineinit.nd) (pgs_cons (gn 3 scPipelineinit.nd) pgs_nil)))
      (pss_one (ps_if (pt_not (pt_val (pe_df dis_right (hr.mono (by decide)) pass0 (pa_cons (pv 3) (pa_cons (pv 2) pa_nil)))))
        (pss_one (ps_err dxInvalidPipeline (hr.mono (by decide)) pass0 takesX (pa_cons (pv 2) pa_nil)))
        pss_nil)))
    (pss_one (ps_fld (pv 0) (b_list T.list (pv 1)) rfl))), ?_⟩
  try dsimp only [L2.cxOf, L2.Cx.nox]
  refine ls_seq (ls_forE ?_)
  walk_at "gg"
  refine ⟨_, _, rfl, .inl rfl, fun i Γ S => S = [.ins C []] ∧ (∀ j h, j < i → gs[j]? = some h → rB h j = true) ∧ ∃ x1 x2, Γ = [some (.own 0), some (.d (gL gs)), x1, x2], ⟨rfl, fun j h hj => by omega, _, _, rfl⟩, ?_, ?_, ?_⟩
  · rintro i _ _ ⟨rfl, hI, x1, x2, rfl⟩
    exact .inl rfl
  · rintro i d _ _ hd ⟨rfl, hI, x1, x2, rfl⟩
    rw [List.getElem?_map] at hd
    obtain ⟨g, hg, rfl⟩ := Option.map_eq_some_iff.mp hd
    walk_at "gg"
    refine isRightG (hw g (List.mem_of_getElem? hg)) ?_
    walk_at "gg"
    refine ⟨fun hb => ?_, fun hb => ?_⟩
    · refine ls_err dxInvalidPipeline hE ?_
      walk_at "gg"
      refine hx _ _ _ ⟨rfl, rfl, i, rfl, badAt_some hI hg (by simpa using hb)⟩
    · walk_at "gg"
      refine ⟨rfl, fun j h hj q => ?_, _, _, rfl⟩
      by_cases e : j = i
      · subst e; rw [hg] at q; cases q; simpa using hb
      · exact hI j h (by omega) q
  · rintro _ _ ⟨rfl, hI, x1, x2, rfl⟩
    walk_at "gg"
    refine rc_listX (.inl rfl) ?_
    walk_at "gg"
    refine ⟨_, _, _, _, rfl, rfl, rfl, L.cls, L.nS, by show 0 < 1000; decide, ?_⟩
    refine hp _ _ ⟨rfl, rfl, badAt_none fun j h q => hI j h ?_ q⟩
    rw [List.length_map]
    exact (List.getElem?_eq_some_iff.mp q).1
/-- what a caught InvalidPipeline says of itself -/
structure ErrP (K : PySem.W.Frag) (mg : Str → Option Value) (CI CS c1 c2 c3 c4 c5 c6 c7 c8 c9 : Addr) : Prop where
  gI : mg "InvalidPipeline" = some (.ref CI)
  gS : mg "SizeError" = some (.ref CS)
  g1 : mg "InvalidCell" = some (.ref c1)
  g2 : mg "InvalidNumber" = some (.ref c2)
  g3 : mg "InvalidLine" = some (.ref c3)
  g4 : mg "InvalidPlaces" = some (.ref c4)
  g5 : mg "InvalidRow" = some (.ref c5)
  g6 : mg "NotFitting" = some (.ref c6)
  g7 : mg "NothingToUndo" = some (.ref c7)
  g8 : mg "NotSteady" = some (.ref c8)
  g9 : mg "Unreadable" = some (.ref c9)
  ex : ExcC K CI
  xf : XfC K CI
  val : PySem.W.findIn K (.ref CI) "value" = some none
  exm : PySem.W.exmOne K (.ref CI) (.ref CS) = some true
  no1 : PySem.W.kitAny K (.ref CI) [.ref c1, .ref c2, .ref c3, .ref c4, .ref c5, .ref c6] = some false
  no2 : PySem.W.kitAny K (.ref CI) [.ref c7, .ref c8, .ref c9] = some false
  yes : PySem.W.kitOne K (.ref CI) (.ref CI) = some true
  ve : PySem.W.kitOne K (.ref CI) (.type "ValueError") = some true
def optD : Option Nat → D | none => .non | some i => .int i
def dsTold : DS := ds (α := List GS) (fun a es S => es = [.d (gL a)] ∧ S = [] ∧ ∀ g ∈ a, g.1 ∈ words) (fun a e S' => e = .d (optD (badAt a)) ∧ S' = [])
theorem ok_told {f C CI CS c1 c2 c3 c4 c5 c6 c7 c8 c9 : Addr} {fd : FuncData} (F : Fun K "_law_told" "_law_told" s_law_told f fd) (T : Blt mg) (Q : ErrP K mg CI CS c1 c2 c3 c4 c5 c6 c7 c8 c9) (dPipeline : Ct P w0 K mg base (L2.CX P w0) 4 "Pipeline" C (dsPInitX C CI)) : FnOk P w0 K mg base CX0 6 f fd ["some"] (spD K dsTold) := by
  refine fn0 F sc_law_told (fun es S p e h => by obtain ⟨a, ⟨h, _⟩, _⟩ := h; rw [h]; rfl) (fun cdv A outer s H E hr w es S p e hK hA h => ?_)
  subst hK
  obtain ⟨gs, ⟨rfl, rfl, hw⟩, hp⟩ := h
  have gSizeError := Q.gS
  have gInvalidPipeline := Q.gI
  have gInvalidCell := Q.g1
  have gInvalidNumber := Q.g2
  have gInvalidLine := Q.g3
  have gInvalidPlaces := Q.g4
  have gInvalidRow := Q.g5
  have gNotFitting := Q.g6
  have gNothingToUndo := Q.g7
  have gNotSteady := Q.g8
  have gUnreadable := Q.g9
  refine ⟨_, (pss_cons (ps_try (i := 1) sc_law_told.nd ⟨rfl, by decide, .inl gSizeError⟩ (fun W pn xe tk =>
      (pss_one (ps_expr (pe_mkB dPipeline (hr.mono (by decide)) (passT tk rfl) (pa_cons (pv 0) pa_nil)))))
      (fun a oe cls d pn hz hf =>
      (pss_cons (sset 2 (b_isX w.K hz hf T.isinstance (pv 1) (pe_tup (pa_cons (g_cls gInvalidCell) (pa_cons (g_cls gInvalidNumber) (pa_cons (g_cls gInvalidLine) (pa_cons (g_cls gInvalidPlaces) (pa_cons (g_cls gInvalidRow) (pa_cons (g_cls gNotFitting) pa_nil)))))))) sc_law_told.nd)
        (pss_cons (sset 2 (pe_or (pv 2) (pe_one (b_isX w.K hz hf T.isinstance (pv 1) (pe_tup (pa_cons (g_cls gNothingToUndo) (pa_cons (g_cls gNotSteady) (pa_cons (g_cls gUnreadable) pa_nil))))))) sc_law_told.nd)
        (pss_cons (ps_if (PW.pt (pw_or (pt_val (pv 2)) (pw_or (pt_not (pt_val (b_isX w.K hz hf T.isinstance (pv 1) (g_cls gInvalidPipeline)))) (pw_or1 (pt_not (pt_val (b_isX w.K hz hf T.isinstance (pv 1) (g_VE T.ValueError))))))))
          (pss_one (ps_ret pe_str))
          pss_nil)
        (pss_one (ps_ret (pe_xv w.K hz hf (pv 1)))))))))
    (pss_one (ps_ret pe_non))), ?_⟩
  try dsimp only [L2.cxOf, L2.Cx.nox]
  walk_at "gg"
  refine ls_try (fun C u S1 => C = CI ∧ S1 = [] ∧ ∃ i : Nat, u = .int i ∧ badAt gs = some i) ?_ ?_ rfl
  · intro rr W hE
    refine ls_drop (mk0X hE ?_)
    walk_at "gg"
    refine ⟨rfl, gs, ⟨rfl, rfl, hw⟩, fun e S' ⟨q, h1, h2⟩ => ⟨q, _, h1, ?_⟩, fun C' u S' ⟨h1, h2, h3⟩ => ⟨by rw [h2]; simp, h1, rfl, h3⟩⟩
    walk_at "gg"
    refine hp _ _ ⟨?_, rfl⟩
    rw [h2]; rfl
  · rintro C' u S1 ⟨rfl, rfl, i, rfl, hu⟩
    refine ⟨Q.exm, fun a dd => ?_⟩
    walk_at "gg"
    refine rc_isXT Q.ex rfl Q.no1 ?_
    walk_at "gg"
    refine ⟨fun z => Bool.noConfusion z, fun _ => ?_⟩
    walk_at "gg"
    refine rc_isXT Q.ex rfl Q.no2 ?_
    walk_at "gg"
    refine ⟨fun z => Bool.noConfusion z, fun _ => ?_⟩
    walk_at "gg"
    refine rc_isX Q.ex rfl Q.yes ?_
    walk_at "gg"
    refine ⟨fun z => Bool.noConfusion z, fun _ => ?_⟩
    walk_at "gg"
    refine rc_isX Q.ex rfl Q.ve ?_
    walk_at "gg"
    refine ⟨fun z => Bool.noConfusion z, fun _ => ?_⟩
    walk_at "gg"
    refine le_xv (u := .int i) Q.xf Q.val ?_
    walk_at "gg"
    refine ⟨rfl, ?_⟩
    walk_at "gg"
    refine hp _ _ ⟨?_, rfl⟩
    rw [hu]; rfl
theorem told {w : Wd} {S : List Own} {E : XK} {k : KE} {gs : List GS} (hw : ∀ g ∈ gs, g.1 ∈ words) (h : k (.d (optD (badAt gs))) S) : RS w dsTold E [.d (gL gs)] S k :=
  r0 gs ⟨rfl, rfl, hw⟩ fun e S' ⟨h1, h2⟩ => ⟨_, h2, h1, h⟩
end

section
variable {P : Program} {w0 : World} {K : PySem.W.Frag} {mg : Str → Option Value} {base : Heap}
theorem toS_none {w : Str} {ns : List Int} (h : ∀ x : Stp, x.g.1 = w → x.g.2.length ≠ ns.length) : toS (w, ns) = none := by
  cases hq : toS (w, ns) with
  | none => rfl
  | some x =>
    have e := g_toS hq
    exact absurd (by rw [e]) (h x (by rw [e]))
theorem rB_short {w : Str} {ns : List Int} {n : Int} (h : ns.length < 2) : rB (w, ns) n = false :=
  rB_no (toS_none fun x _ e => by cases x <;> simp [Stp.g] at e <;> omega)
theorem rB_row {w : Str} {r n : Int} {ns : List Int} (h : ¬(0 ≤ r ∧ r ≤ n)) : rB (w, r :: ns) n = false := by
  cases hq : toS (w, r :: ns) with
  | none => exact rB_no hq
  | some x =>
    have e := g_toS hq
    rw [← e, rB_g]
    rw [Bool.eq_false_iff]
    intro hx
    apply h
    cases x <;> simp [Stp.g] at e <;> simp [Stp.ok, Stp.nums] at hx <;> omega
theorem ix1 {x y : D} {xs : List D} : atI (x :: y :: xs) 1 = some y := by
  unfold atI ixN
  rw [if_pos (by decide), if_pos (by simp only [List.length_cons]; omega)]
  rfl
theorem eB {a b : Bool} (h : a = true ↔ b = true) : Ent.d (D.bl a) = Ent.d (D.bl b) := by rw [Bool.eq_iff_iff.mpr h]
def dsIsStep : DS := ds (α := GS × Int) (fun a es S => es = [.d (gD a.1), .d (.int a.2)] ∧ S = [] ∧ a.1.1 ∈ words) (fun a e S' => e = .d (.bl (rB a.1 a.2)) ∧ S' = [])
theorem ok_isstep {f : Addr} {fd : FuncData} (F : Fun K "_law_is_step" "_law_is_step" s_law_is_step f fd) (T : Blt mg) : FnOk P w0 K mg base CX0 1 f fd ["step", "spot"] (spD K dsIsStep) := by
  refine fn0 F sc_law_is_step (fun es S p e h => by obtain ⟨a, ⟨h, _⟩, _⟩ := h; rw [h]; rfl) (fun cdv A outer s H E hr w es S p e hK hA h => ?_)
  subst hK
  obtain ⟨⟨⟨wd, ns⟩, n⟩, ⟨rfl, rfl, hw⟩, hp⟩ := h
  dsimp only at hp hw
  refine ⟨_, (pss_cons (ps_if (pt_cmpR op_eq (pe_ix ix_tup (pv 0) pe_int (fun _ _ => rfl)) pe_str (nomark _))
      (pss_cons (sset 2 (pe_and (pe_cmpR op_eq (b_len T.len (pv 0)) pe_int (nomark _)) (pe_one (pe_cmpR op_ne (pe_ix ix_tup (pv 0) pe_int (fun _ _ => rfl)) (pe_ix ix_tup (pv 0) pe_int (fun _ _ => rfl)) (nomark _)))) sc_law_is_step.nd)
      (pss_one (ps_ret (pe_and (pv 2) (pe_and (pe_cmpR op_ge (b_min2 T.min (pe_ix ix_tup (pv 0) pe_int (fun _ _ => rfl)) (pe_ix ix_tup (pv 0) pe_int (fun _ _ => rfl))) pe_int (nomark _)) (pe_one (pe_cmpR op_le (b_max2 T.max (pe_ix ix_tup (pv 0) pe_int (fun _ _ => rfl)) (pe_ix ix_tup (pv 0) pe_int (fun _ _ => rfl))) (pv 1) (nomark _))))))))
      pss_nil)
    (pss_cons (ps_if (PW.pt (pw_or (pt_cmpR op_lt (b_len T.len (pv 0)) pe_int (nomark _)) (pw_or1 (pt_not (pt_chain op_le op_le pe_int (pe_ix ix_tup (pv 0) pe_int (fun _ _ => rfl)) (pv 1))))))
      (pss_one (ps_ret pe_bl))
      pss_nil)
    (pss_cons (ps_if (pt_cmpR op_eq (pe_ix ix_tup (pv 0) pe_int (fun _ _ => rfl)) pe_str (nomark _))
      (pss_one (ps_ret (pe_and (pe_cmpR op_eq (b_len T.len (pv 0)) pe_int (nomark _)) (pe_and (pe_chain op_le op_le pe_int (pe_ix ix_tup (pv 0) pe_int (fun _ _ => rfl)) (pe_ix ix_tup (pv 0) pe_int (fun _ _ => rfl))) (pe_one (pe_chain op_le op_lt pe_int (pe_ix ix_tup (pv 0) pe_int (fun _ _ => rfl)) (pe_ix ix_tup (pv 0) pe_int (fun _ _ => rfl))))))))
      pss_nil)
    (pss_cons (ps_if (pt_cmpR op_eq (pe_ix ix_tup (pv 0) pe_int (fun _ _ => rfl)) pe_str (nomark _))
      (pss_one (ps_ret (pe_and (pe_cmpR op_eq (b_len T.len (pv 0)) pe_int (nomark _)) (pe_one (pe_cmpR op_ge (pe_ix ix_tup (pv 0) pe_int (fun _ _ => rfl)) pe_int (nomark _))))))
      pss_nil)
    (pss_one (ps_ret (pe_and (pe_cmpR op_in_seq (pe_ix ix_tup (pv 0) pe_int (fun _ _ => rfl)) (pe_tup (pa_cons pe_str (pa_cons pe_str pa_nil))) (by with_unfolding_all rfl)) (pe_and (pe_cmpR op_eq (b_len T.len (pv 0)) pe_int (nomark _)) (pe_one (pe_cmpR op_ge (b_min2 T.min (pe_ix ix_tup (pv 0) pe_int (fun _ _ => rfl)) (pe_ix ix_tup (pv 0) pe_int (fun _ _ => rfl))) pe_int (nomark _))))))))))), ?_⟩
  try dsimp only [L2.cxOf, L2.Cx.nox]
  walk_at "gg"
  refine rr_ixT ix0 ?_
  walk_at "gg"
  refine ⟨fun hb => ?_, fun hb => ?_⟩
  · obtain rfl : wd = "join" := by simpa using hb
    walk_at "gg"
    refine ⟨fun hl => ?_, fun hl => ?_⟩
    · have hl2 := eqI' hl
      simp at hl2
      have hl3 : ns.length = 2 := by omega
      match ns, hl3 with
      | [r, o], _ =>
        rw [show rB ("join", [r, o]) n = (Stp.join r o).ok n from rB_g (.join r o) n] at hp
        walk_at "gg"
        refine ⟨fun h1 => ?_, fun h1 => ?_⟩
        · have h1' := neI h1
          walk_at "gg"
          refine ⟨fun h2 => ?_, fun h2 => ?_⟩
          · have h2' := of_decide_eq_true h2
            walk_at "gg"
            exact hp _ _ ⟨eB (by simp [Stp.ok]; split at h2' <;> split <;> omega), rfl⟩
          · have h2' := of_decide_eq_false h2
            exact hp _ _ ⟨eB (by simp [Stp.ok]; split at h2' <;> omega), rfl⟩
        · have h1' := eqI h1
          exact hp _ _ ⟨eB (by simp [Stp.ok]; omega), rfl⟩
    · have hl2 := neI' hl
      simp at hl2
      have er : rB ("join", ns) n = false := rB_no (toS_none fun x hx e => by cases x <;> first | exact absurd hx (by dsimp only [Stp.g]; decide +kernel) | (simp [Stp.g] at e; omega))
      rw [er] at hp
      walk_at "gg"
      refine ⟨fun z => Bool.noConfusion z, fun _ => ?_⟩
      exact hp _ _ ⟨rfl, rfl⟩
  · have hnj : wd ≠ "join" := by simpa using hb
    walk_at "gg"
    match ns with
    | [] =>
      rw [rB_short (by simp)] at hp
      refine ⟨fun _ => ⟨fun _ => ?_, fun z => Bool.noConfusion z⟩, fun z => absurd (of_decide_eq_false z) (by simp)⟩
      walk_at "gg"
      exact hp _ _ ⟨rfl, rfl⟩
    | r :: rest =>
      refine ⟨fun z => absurd (of_decide_eq_true z) (by simp only [List.length_cons, List.length_map]; omega), fun _ => ?_⟩
      walk_at "gg"
      refine rr_ixT ix1 ?_
      walk_at "gg"
      refine ⟨fun h1 => ?_, fun h1 => ?_⟩
      · have r0 := of_decide_eq_true h1
        walk_at "gg"
        refine ⟨fun h2 => ?_, fun h2 => ?_⟩
        · have r1 : ¬ r ≤ n := by simpa using h2
          walk_at "gg"
          rw [rB_row (by omega)] at hp
          exact hp _ _ ⟨rfl, rfl⟩
        have r1 : r ≤ n := by simpa using h2
        walk_at "gg"
        refine rr_ixT ix0 ?_
        walk_at "gg"
        clear h1 h2 hb
        unfold words at hw
        simp only [List.mem_cons, List.not_mem_nil, or_false] at hw
        rcases hw with rfl | rfl | rfl | rfl | rfl | rfl | rfl | rfl
        · refine ⟨fun _ => ?_, fun hb => (sT rfl hb).elim⟩
          walk_at "gg"
          by_cases hl : rest.length = 3
          · match rest, hl with
            | [l, s', p'], _ =>
              rw [show rB ("window", [r, l, s', p']) n = (Stp.win r l s' p').ok n from rB_g (.win r l s' p') n] at hp
              refine ⟨fun _ => ?_, fun hb => absurd rfl (neI' hb)⟩
              walk_at "gg"
              refine ⟨fun h1 => ?_, fun h1 => ?_⟩
              · have h1' := of_decide_eq_true h1
                walk_at "gg"
                refine ⟨fun h2 => ?_, fun h2 => ?_⟩
                · have h2' := of_decide_eq_true h2
                  walk_at "gg"
                  refine ⟨fun h3 => ?_, fun h3 => ?_⟩
                  · have h3' := of_decide_eq_true h3
                    walk_at "gg"
                    exact hp _ _ ⟨eB (by simp [Stp.ok, Stp.nums]; omega), rfl⟩
                  · have h3' := of_decide_eq_false h3
                    exact hp _ _ ⟨eB (by simp [Stp.ok, Stp.nums]; omega), rfl⟩
                · have h2' := of_decide_eq_false h2
                  walk_at "gg"
                  exact hp _ _ ⟨eB (by simp [Stp.ok, Stp.nums]; omega), rfl⟩
              · have h1' := of_decide_eq_false h1
                walk_at "gg"
                refine ⟨fun z => Bool.noConfusion z, fun _ => ?_⟩
                exact hp _ _ ⟨eB (by simp [Stp.ok, Stp.nums]; omega), rfl⟩
          · rw [show rB ("window", r :: rest) n = false from rB_no (toS_none fun x hx e => by cases x <;> first | exact absurd hx (by dsimp only [Stp.g]; decide +kernel) | (simp [Stp.g] at e; omega))] at hp
            refine ⟨fun hb => absurd (eqI' hb) (by simp only [List.length_cons, List.length_map]; omega), fun _ => ?_⟩
            exact hp _ _ ⟨rfl, rfl⟩
        · refine ⟨fun hb => (sF (by dsimp only; decide +kernel) hb).elim, fun _ => ?_⟩
          walk_at "gg"
          refine rr_ixT ix0 ?_
          walk_at "gg"
          refine ⟨fun _ => ?_, fun hb => (sT rfl hb).elim⟩
          walk_at "gg"
          by_cases hl : rest.length = 1
          · match rest, hl with
            | [t], _ =>
              rw [show rB ("repeat", [r, t]) n = (Stp.rep r t).ok n from rB_g (.rep r t) n] at hp
              refine ⟨fun _ => ?_, fun hb => absurd rfl (neI' hb)⟩
              walk_at "gg"
              exact hp _ _ ⟨eB (by simp [Stp.ok, Stp.nums]; omega), rfl⟩
          · rw [show rB ("repeat", r :: rest) n = false from rB_no (toS_none fun x hx e => by cases x <;> first | exact absurd hx (by dsimp only [Stp.g]; decide +kernel) | (simp [Stp.g] at e; omega))] at hp
            refine ⟨fun hb => absurd (eqI' hb) (by simp only [List.length_cons, List.length_map]; omega), fun _ => ?_⟩
            exact hp _ _ ⟨rfl, rfl⟩
        · refine ⟨fun hb => (sF (by dsimp only; decide +kernel) hb).elim, fun _ => ?_⟩
          walk_at "gg"
          refine rr_ixT ix0 ?_
          walk_at "gg"
          refine ⟨fun hb => (sF (by dsimp only; decide +kernel) hb).elim, fun _ => ?_⟩
          walk_at "gg"
          refine rr_ixT ix0 ?_
          walk_at "gg"
          refine rr_inStr (as := ["crop", "pad"]) ?_
          rw [decide_eq_true (show ("crop" : Str) ∈ (["crop", "pad"] : List Str) by decide +kernel)]
          walk_at "gg"
          refine ⟨fun _ => ?_, fun z => Bool.noConfusion z⟩
          walk_at "gg"
          by_cases hl : rest.length = 2
          · match rest, hl with
            | [a, b], _ =>
              rw [show rB ("crop", [r, a, b]) n = (Stp.crop r a b).ok n from rB_g (.crop r a b) n] at hp
              refine ⟨fun _ => ?_, fun hb => absurd rfl (neI' hb)⟩
              walk_at "gg"
              exact hp _ _ ⟨eB (by simp [Stp.ok, Stp.nums]; split <;> omega), rfl⟩
          · rw [show rB ("crop", r :: rest) n = false from rB_no (toS_none fun x hx e => by cases x <;> first | exact absurd hx (by dsimp only [Stp.g]; decide +kernel) | (simp [Stp.g] at e; omega))] at hp
            refine ⟨fun hb => absurd (eqI' hb) (by simp only [List.length_cons, List.length_map]; omega), fun _ => ?_⟩
            exact hp _ _ ⟨rfl, rfl⟩
        · refine ⟨fun hb => (sF (by dsimp only; decide +kernel) hb).elim, fun _ => ?_⟩
          walk_at "gg"
          refine rr_ixT ix0 ?_
          walk_at "gg"
          refine ⟨fun hb => (sF (by dsimp only; decide +kernel) hb).elim, fun _ => ?_⟩
          walk_at "gg"
          refine rr_ixT ix0 ?_
          walk_at "gg"
          refine rr_inStr (as := ["crop", "pad"]) ?_
          rw [decide_eq_true (show ("pad" : Str) ∈ (["crop", "pad"] : List Str) by decide +kernel)]
          walk_at "gg"
          refine ⟨fun _ => ?_, fun z => Bool.noConfusion z⟩
          walk_at "gg"
          by_cases hl : rest.length = 2
          · match rest, hl with
            | [a, b], _ =>
              rw [show rB ("pad", [r, a, b]) n = (Stp.pad r a b).ok n from rB_g (.pad r a b) n] at hp
              refine ⟨fun _ => ?_, fun hb => absurd rfl (neI' hb)⟩
              walk_at "gg"
              exact hp _ _ ⟨eB (by simp [Stp.ok, Stp.nums]; split <;> omega), rfl⟩
          · rw [show rB ("pad", r :: rest) n = false from rB_no (toS_none fun x hx e => by cases x <;> first | exact absurd hx (by dsimp only [Stp.g]; decide +kernel) | (simp [Stp.g] at e; omega))] at hp
            refine ⟨fun hb => absurd (eqI' hb) (by simp only [List.length_cons, List.length_map]; omega), fun _ => ?_⟩
            exact hp _ _ ⟨rfl, rfl⟩
        · exact absurd rfl hnj
        · refine ⟨fun hb => (sF (by dsimp only; decide +kernel) hb).elim, fun _ => ?_⟩
          walk_at "gg"
          refine rr_ixT ix0 ?_
          walk_at "gg"
          refine ⟨fun hb => (sF (by dsimp only; decide +kernel) hb).elim, fun _ => ?_⟩
          walk_at "gg"
          refine rr_ixT ix0 ?_
          walk_at "gg"
          refine rr_inStr (as := ["crop", "pad"]) ?_
          rw [decide_eq_false (show ¬ ("windows" : Str) ∈ (["crop", "pad"] : List Str) by decide +kernel)]
          walk_at "gg"
          refine ⟨fun z => Bool.noConfusion z, fun _ => ?_⟩
          rw [show rB ("windows", r :: rest) n = false from rB_no (toS_none fun x hx e => by cases x <;> first | exact absurd hx (by dsimp only [Stp.g]; decide +kernel) | (simp [Stp.g] at e; omega))] at hp
          exact hp _ _ ⟨rfl, rfl⟩
        · refine ⟨fun hb => (sF (by dsimp only; decide +kernel) hb).elim, fun _ => ?_⟩
          walk_at "gg"
          refine rr_ixT ix0 ?_
          walk_at "gg"
          refine ⟨fun hb => (sF (by dsimp only; decide +kernel) hb).elim, fun _ => ?_⟩
          walk_at "gg"
          refine rr_ixT ix0 ?_
          walk_at "gg"
          refine rr_inStr (as := ["crop", "pad"]) ?_
          rw [decide_eq_false (show ¬ ("" : Str) ∈ (["crop", "pad"] : List Str) by decide +kernel)]
          walk_at "gg"
          refine ⟨fun z => Bool.noConfusion z, fun _ => ?_⟩
          rw [show rB ("", r :: rest) n = false from rB_no (toS_none fun x hx e => by cases x <;> first | exact absurd hx (by dsimp only [Stp.g]; decide +kernel) | (simp [Stp.g] at e; omega))] at hp
          exact hp _ _ ⟨rfl, rfl⟩
        · refine ⟨fun hb => (sF (by dsimp only; decide +kernel) hb).elim, fun _ => ?_⟩
          walk_at "gg"
          refine rr_ixT ix0 ?_
          walk_at "gg"
          refine ⟨fun hb => (sF (by dsimp only; decide +kernel) hb).elim, fun _ => ?_⟩
          walk_at "gg"
          refine rr_ixT ix0 ?_
          walk_at "gg"
          refine rr_inStr (as := ["crop", "pad"]) ?_
          rw [decide_eq_false (show ¬ ("Pad" : Str) ∈ (["crop", "pad"] : List Str) by decide +kernel)]
          walk_at "gg"
          refine ⟨fun z => Bool.noConfusion z, fun _ => ?_⟩
          rw [show rB ("Pad", r :: rest) n = false from rB_no (toS_none fun x hx e => by cases x <;> first | exact absurd hx (by dsimp only [Stp.g]; decide +kernel) | (simp [Stp.g] at e; omega))] at hp
          exact hp _ _ ⟨rfl, rfl⟩
      · have r0 := of_decide_eq_false h1
        walk_at "gg"
        refine ⟨fun _ => ?_, fun z => Bool.noConfusion z⟩
        walk_at "gg"
        rw [rB_row (by omega)] at hp
        exact hp _ _ ⟨rfl, rfl⟩
theorem isStep {w : Wd} {S : List Own} {E : XK} {k : KE} {g : GS} {n : Int} (hw : g.1 ∈ words) (h : k (.d (.bl (rB g n))) S) : RS w dsIsStep E [.d (gD g), .d (.int n)] S k := r0 (g, n) ⟨rfl, rfl, hw⟩ fun e S' ⟨h1, h2⟩ => ⟨_, h2, h1, h⟩
end

section
variable {P : Program} {w0 : World} {K : PySem.W.Frag} {mg : Str → Option Value} {base : Heap}
theorem cutT {xs : List D} {p : Nat} : cutD xs none (some (p : Int)) = xs.take p := by
  unfold cutD
  rw [HT.sIx_none, HT.sIx_nat, List.drop_zero, Nat.sub_zero]
  by_cases h : p ≤ xs.length
  · rw [Nat.min_eq_left h]
  · rw [Nat.min_eq_right (by omega), List.take_of_length_le (Nat.le_refl _), List.take_of_length_le (by omega)]
theorem cutF {xs : List D} {p : Nat} : cutD xs (some (p : Int)) none = xs.drop p := by
  unfold cutD
  rw [HT.sIx_none, HT.sIx_nat]
  by_cases h : p ≤ xs.length
  · rw [Nat.min_eq_left h, List.take_of_length_le (by rw [List.length_drop]; exact Nat.le_refl _)]
  · rw [Nat.min_eq_right (by omega), List.drop_of_length_le (Nat.le_refl _), List.drop_of_length_le (by omega)]; simp
theorem noT {xs : List D} {p : Nat} {q : Prop} (h : p < xs.length) : ¬(q ∧ HT.sIx xs.length xs.length (some (p : Int)) = xs.length) := fun z => by
  have := z.2
  rw [HT.sIx_nat] at this
  omega
theorem noF {xs : List D} {p : Nat} {q : Prop} (h : 0 < p) (h' : 0 < xs.length) : ¬(HT.sIx xs.length 0 (some (p : Int)) = 0 ∧ q) := fun z => by
  have := z.1
  rw [HT.sIx_nat] at this
  omega
theorem sixM {n d : Nat} (h : 0 < n) : HT.sIx n d (some (-1)) = n - 1 := by
  show (if (-1 : Int) < 0 then ((-1 : Int) + (n : Int)).toNat else min ((-1 : Int)).toNat n) = n - 1
  rw [if_pos (by decide)]; omega
theorem noM {xs : List D} {q : Prop} (h : 0 < xs.length) : ¬(q ∧ HT.sIx xs.length xs.length (some (-1)) = xs.length) := fun z => by
  have := z.2
  rw [sixM h] at this
  omega
theorem cutM {xs : List D} (h : 0 < xs.length) : cutD xs none (some (-1)) = xs.dropLast := by
  unfold cutD
  rw [HT.sIx_none, sixM h, List.drop_zero, Nat.sub_zero, List.dropLast_eq_take]
theorem dropLast_g {wd : Str} {ns : List Int} (h : 0 < ns.length) : (D.str wd :: ns.map D.int).dropLast = .str wd :: ns.dropLast.map D.int := by
  cases ns with
  | nil => simp at h
  | cons r ns => rw [List.map_dropLast]; rfl
theorem ixS {wd : Str} {ns : List Int} {j : Nat} (h : j < ns.length) : ∃ z : Int, atI (D.str wd :: ns.map D.int) ((j : Int) + 1) = some (.int z) := by
  refine ⟨ns[j], ?_⟩
  unfold atI ixN
  rw [if_pos (by omega), if_pos (by simp only [List.length_cons, List.length_map]; omega)]
  show (D.str wd :: ns.map D.int)[((j : Int) + 1).toNat]? = _
  rw [show ((j : Int) + 1).toNat = j + 1 by omega, List.getElem?_cons_succ, List.getElem?_map, List.getElem?_eq_getElem h]; rfl
/-- a step that may be wrong -/
structure Odd (lo hi : Nat) (g : GS) : Prop where
  wd : g.1 ∈ words
  lo : lo ≤ g.2.length
  hi : g.2.length ≤ hi
def dsBent : DS := ds (α := GS × Int × Nat × Nat) (fun a es S => ∃ o, es = [.own 0, .d (gD a.1), .d (.int a.2.1)] ∧ S = [o] ∧ Pool a.2.2.1 o ∧ a.2.2.1 < 2 ^ 45 ∧ Odd 1 6 a.1 ∧ 0 ≤ a.2.1 ∧ a.2.1 < 1000)
  (fun a e S' => ∃ (g : GS) (o' : Own), e = .d (gD g) ∧ S' = [o'] ∧ g.1 ∈ words ∧ min a.1.2.length 3 ≤ g.2.length + 1 ∧ g.2.length ≤ max 4 (a.1.2.length + 1) ∧ Pool (a.2.2.1 + 4) o')
theorem ok_bent {f : Addr} {fd : FuncData} (F : Fun K "_law_bent" "_law_bent" s_law_bent f fd) (T : Blt mg) (d_law_draw : Df P w0 K mg base CX0 1 "_law_draw" 2 dsDraw) : FnOk P w0 K mg base CX0 2 f fd ["pool", "step", "spot"] (spD K dsBent) := by
  refine fn0 F sc_law_bent (fun es S p e h => by obtain ⟨a, ⟨o, h, _⟩, _⟩ := h; rw [h]; rfl) (fun cdv A outer s H E hr w es S p e hK hA h => ?_)
  subst hK
  obtain ⟨⟨⟨wd, ns⟩, sp, n, _⟩, ⟨o, rfl, rfl, ho, hn, odd, h0, h1⟩, hp⟩ := h
  dsimp only at ho hn odd h0 h1 hp
  have hw := odd.wd
  have hlo := odd.lo
  have hhi := odd.hi
  dsimp only at hw hlo hhi
  refine ⟨_, (pss_cons (ps_par (i := 3) (j := 4) (by rfl) sc_law_bent.nd rfl rfl (by decide) rfl rfl (pa_cons (pe_df d_law_draw (hr.mono (by decide)) pass0 (pa_cons (pv 0) (pa_cons pe_int pa_nil))) (pa_cons (pe_op op_add (pe_df d_law_draw (hr.mono (by decide)) pass0 (pa_cons (pv 0) (pa_cons (pe_op op_sub (b_len T.len (pv 1)) pe_int) pa_nil))) pe_int) pa_nil)) (by rfl))
    (pss_cons (ps_if (pt_cmpR op_eq (pv 3) pe_int (nomark _))
      (pss_one (ps_ret (pe_op op_catT (pe_tup (pa_cons (pe_ix ix_list (pe_lst (pa_cons pe_str (pa_cons pe_str (pa_cons pe_str (pa_cons pe_str (pa_cons pe_str (pa_cons pe_str pa_nil))))))) (pe_df d_law_draw (hr.mono (by decide)) pass0 (pa_cons (pv 0) (pa_cons pe_int pa_nil))) (fun _ _ => rfl)) pa_nil)) (pe_slice sl_tup (pv 1) (po_some pe_int) po_none))))
      pss_nil)
    (pss_cons (ps_if (pt_cmpR op_eq (pv 3) pe_int (nomark _))
      (pss_one (ps_ret (pe_op op_catT (pv 1) (pe_tup (pa_cons pe_int pa_nil)))))
      pss_nil)
    (pss_cons (ps_if (pt_cmpR op_eq (pv 3) pe_int (nomark _))
      (pss_one (ps_ret (pe_slice sl_tup (pv 1) po_none (po_some (pe_un un_neg pe_int)))))
      pss_nil)
    (pss_cons (ps_if (pt_cmpR op_eq (pv 3) pe_int (nomark _))
      (pss_one (ps_ret (pe_op op_catT (pe_op op_catT (pe_slice sl_tup (pv 1) po_none (po_some pe_int)) (pe_tup (pa_cons (pe_ix ix_list (pe_lst (pa_cons (pe_op op_add (pv 2) pe_int) (pa_cons (pv 2) (pa_cons (pe_un un_neg pe_int) (pa_cons pe_int pa_nil))))) (pe_df d_law_draw (hr.mono (by decide)) pass0 (pa_cons (pv 0) (pa_cons pe_int pa_nil))) (fun _ _ => rfl)) pa_nil))) (pe_slice sl_tup (pv 1) (po_some pe_int) po_none))))
      pss_nil)
    (pss_cons (ps_if (pt_cmpR op_eq (pv 3) pe_int (nomark _))
      (pss_one (ps_ret (pe_ix ix_list (pe_lst (pa_cons (pe_tup (pa_cons pe_str (pa_cons (pv 2) (pa_cons (pv 2) pa_nil)))) (pa_cons (pe_tup (pa_cons pe_str (pa_cons pe_int (pa_cons (pe_op op_add (pv 2) pe_int) pa_nil)))) (pa_cons (pe_tup (pa_cons pe_str (pa_cons (pe_un un_neg pe_int) (pa_cons pe_int pa_nil)))) (pa_cons (pe_tup (pa_cons pe_str (pa_cons pe_int (pa_cons pe_int pa_nil)))) pa_nil))))) (pe_df d_law_draw (hr.mono (by decide)) pass0 (pa_cons (pv 0) (pa_cons pe_int pa_nil))) (fun _ _ => rfl))))
      pss_nil)
    (pss_cons (ps_if (pt_cmpR op_eq (pv 3) pe_int (nomark _))
      (pss_cons (sset 5 (pe_lst (pa_cons (pe_tup (pa_cons pe_int (pa_cons pe_int (pa_cons pe_int pa_nil)))) (pa_cons (pe_tup (pa_cons pe_int (pa_cons pe_int (pa_cons pe_int pa_nil)))) (pa_cons (pe_tup (pa_cons pe_int (pa_cons pe_int (pa_cons pe_int pa_nil)))) (pa_cons (pe_tup (pa_cons pe_int (pa_cons pe_int (pa_cons (pe_un un_neg pe_int) pa_nil)))) pa_nil))))) sc_law_bent.nd)
      (pss_one (ps_ret (pe_op op_catT (pe_tup (pa_cons pe_str (pa_cons pe_int pa_nil))) (pe_ix ix_list (pv 5) (pe_op op_mod (b_int T.int (pv 2)) pe_int) (fun _ _ => rfl))))))
      pss_nil)
    (pss_cons (sset 6 (pe_ix ix_list (pe_lst (pa_cons (pe_un un_neg pe_int) (pa_cons pe_int (pa_cons (b_min2 T.min pe_int (pe_op op_add (pe_ix ix_tup (pv 1) (pv 4) (fun _ _ => rfl)) pe_int)) pa_nil)))) (pe_df d_law_draw (hr.mono (by decide)) pass0 (pa_cons (pv 0) (pa_cons pe_int pa_nil))) (fun _ _ => rfl)) sc_law_bent.nd)
    (pss_one (ps_ret (pe_op op_catT (pe_op op_catT (pe_slice sl_tup (pv 1) po_none (po_some (pv 4))) (pe_tup (pa_cons (pv 6) pa_nil))) (pe_slice sl_tup (pv 1) (po_some (pe_op op_add (pv 4) pe_int)) po_none)))))))))))), ?_⟩
  try dsimp only [L2.cxOf, L2.Cx.nox]
  walk_at "gg"
  refine draw n ho (by omega) (by decide) (by decide) fun way o1 a0 a1 ho1 => ?_
  walk_at "gg"
  have el : (((D.str wd :: ns.map D.int).length : Nat) : Int) - 1 = (ns.length : Int) := by simp
  rw [el]
  refine draw _ ho1 (by omega) (by omega) (by omega) fun nh o2 b0 b1 ho2 => ?_
  walk_at "gg"
  refine ⟨_, _, rfl, ?_⟩
  walk_at "gg"
  refine ⟨fun hb => ?_, fun hb => ?_⟩
  · walk_at "gg"
    refine draw _ ho2 (by omega) (by decide) (by decide) fun d o3 c0 c1 ho3 => ?_
    obtain ⟨y, hy, s', rfl, hs'⟩ := ix_any (ds := [D.str "windows", D.str "", D.str "Pad", D.str "crop", D.str "join", D.str "repeat"]) (i := d) (fun x => ∃ z : Str, x = .str z ∧ z ∈ words) c0 (by simpa using c1) (by
      intro x hx
      simp only [List.mem_cons, List.not_mem_nil, or_false] at hx
      rcases hx with rfl | rfl | rfl | rfl | rfl | rfl <;> exact ⟨_, rfl, by decide +kernel⟩)
    refine rr_ixL hy ?_
    walk_at "gg"
    rw [show (some (1 : Int)) = some ((1 : Nat) : Int) from rfl]
    refine ⟨noF (by decide) (by simp), ?_⟩
    rw [cutF]
    refine rr_catT (ys := ns.map D.int) (by simp) (by rw [List.length_map]; exact Nat.le_trans (show _ ≤ 20 by simp only [List.length_cons, List.length_nil]; omega) (by decide)) ?_
    exact hp _ _ ⟨(s', ns), o3, rfl, rfl, hs', by dsimp only; omega, by dsimp only; omega, ho3.mono (by omega)⟩
  walk_at "gg"
  refine ⟨fun hb => ?_, fun hb => ?_⟩
  · walk_at "gg"
    refine rr_catT (xs := D.str wd :: ns.map D.int) (ys := [.int 1]) (by simp) (by simp only [List.length_cons, List.length_map]; exact Nat.le_trans (show _ ≤ 20 by simp only [List.length_nil]; omega) (by decide)) ?_
    refine hp _ _ ⟨(wd, ns ++ [1]), o2, ?_, rfl, hw, by dsimp only; rw [List.length_append]; omega, by dsimp only; rw [List.length_append]; simp only [List.length_cons, List.length_nil]; omega, ho2.mono (by omega)⟩
    show Ent.d (D.tup (D.str wd :: ns.map D.int ++ [D.int 1])) = Ent.d (D.tup (D.str wd :: (ns ++ [1]).map D.int))
    rw [List.map_append]; rfl
  walk_at "gg"
  refine ⟨fun hb => ?_, fun hb => ?_⟩
  · walk_at "gg"
    refine ⟨noM (by simp), ?_⟩
    rw [cutM (by simp), dropLast_g (show 0 < ns.length from hlo)]
    exact hp _ _ ⟨(wd, ns.dropLast), o2, rfl, rfl, hw, by dsimp only; rw [List.length_dropLast]; omega, by dsimp only; rw [List.length_dropLast]; omega, ho2.mono (by omega)⟩
  walk_at "gg"
  refine ⟨fun hb => ?_, fun hb => ?_⟩
  · walk_at "gg"
    rw [show (some (1 : Int)) = some ((1 : Nat) : Int) from rfl]
    refine ⟨noT (by simp; omega), ?_⟩
    rw [cutT]
    walk_at "gg"
    refine draw _ ho2 (by omega) (by decide) (by decide) fun d o3 c0 c1 ho3 => ?_
    obtain ⟨y, hy, z, rfl⟩ := ix_any (ds := [D.int (sp + 1), D.int sp, D.int (-1), D.int 9]) (i := d) (fun x => ∃ z : Int, x = .int z) c0 (by simpa using c1) (by
      intro x hx
      simp only [List.mem_cons, List.not_mem_nil, or_false] at hx
      rcases hx with rfl | rfl | rfl | rfl <;> exact ⟨_, rfl⟩)
    refine rr_ixL hy ?_
    walk_at "gg"
    refine rr_catT (xs := [D.str wd]) (ys := [D.int z]) (by simp) (sz rfl) ?_
    walk_at "gg"
    rw [show (some (2 : Int)) = some ((2 : Nat) : Int) from rfl]
    refine ⟨noF (by decide) (by simp), ?_⟩
    rw [cutF]
    refine rr_catT (xs := [D.str wd, D.int z]) (by simp) (by rw [List.length_drop]; exact Nat.le_trans (show _ ≤ 20 by simp only [List.length_cons, List.length_nil, List.length_map]; omega) (by decide)) ?_
    refine hp _ _ ⟨(wd, z :: ns.drop 1), o3, ?_, rfl, hw, by dsimp only; rw [List.length_cons, List.length_drop]; omega, by dsimp only; rw [List.length_cons, List.length_drop]; omega, ho3.mono (by omega)⟩
    show Ent.d (D.tup (D.str wd :: D.int z :: (ns.map D.int).drop 1)) = Ent.d (D.tup (D.str wd :: D.int z :: (ns.drop 1).map D.int))
    rw [List.map_drop]
  walk_at "gg"
  refine ⟨fun hb => ?_, fun hb => ?_⟩
  · walk_at "gg"
    refine draw _ ho2 (by omega) (by decide) (by decide) fun d o3 c0 c1 ho3 => ?_
    obtain ⟨y, hy, g, rfl, hg1, hg2⟩ := ix_any (ds := [gD ("join", [sp, sp]), gD ("join", [0, sp + 1]), gD ("join", [-1, 0]), gD ("repeat", [0, 0])]) (i := d) (fun x => ∃ g : GS, x = gD g ∧ g.1 ∈ words ∧ g.2.length = 2) c0 (by simpa using c1) (by
      intro x hx
      simp only [List.mem_cons, List.not_mem_nil, or_false] at hx
      rcases hx with rfl | rfl | rfl | rfl <;> exact ⟨_, rfl, by dsimp only; decide +kernel, rfl⟩)
    refine rr_ixL hy ?_
    exact hp _ _ ⟨g, o3, rfl, rfl, hg1, by omega, by omega, ho3.mono (by omega)⟩
  walk_at "gg"
  refine ⟨fun hb => ?_, fun hb => ?_⟩
  · walk_at "gg"
    refine rr_int (by decide) ?_
    have c0 := Int.emod_nonneg sp (show (4 : Int) ≠ 0 by decide)
    have c1 := Int.emod_lt_of_pos sp (show (0 : Int) < 4 by decide)
    obtain ⟨y, hy, a, b, c, rfl⟩ := ix_any (ds := [D.tup [.int 2, .int 3, .int 0], D.tup [.int 2, .int 0, .int 0], D.tup [.int 2, .int 1, .int 2], D.tup [.int 3, .int 1, .int (-1)]]) (i := sp % 4) (fun x => ∃ a b c : Int, x = D.tup [.int a, .int b, .int c]) c0 (by simpa using c1) (by
      intro x hx
      simp only [List.mem_cons, List.not_mem_nil, or_false] at hx
      rcases hx with rfl | rfl | rfl | rfl <;> exact ⟨_, _, _, rfl⟩)
    refine rr_ixL hy ?_
    refine rr_catT (xs := [.str "window", .int 0]) (ys := [.int a, .int b, .int c]) (by simp) (sz rfl) ?_
    exact hp _ _ ⟨("window", [0, a, b, c]), o2, rfl, rfl, by dsimp only; decide +kernel, by dsimp only; simp only [List.length_cons, List.length_nil]; omega, by dsimp only; simp only [List.length_cons, List.length_nil]; omega, ho2.mono (by omega)⟩
  walk_at "gg"
  obtain ⟨j, rfl⟩ : ∃ j : Nat, nh = j := ⟨nh.toNat, by omega⟩
  have hj : j < ns.length := by omega
  obtain ⟨z, hz⟩ := ixS (wd := wd) hj
  refine rr_ixT hz ?_
  walk_at "gg"
  refine draw _ ho2 (by omega) (by decide) (by decide) fun d o3 c0 c1 ho3 => ?_
  obtain ⟨y, hy, f', rfl⟩ := ix_any (ds := [D.int (-1), D.int 0, D.int (if z + 1 < 6 then z + 1 else 6)]) (i := d) (fun x => ∃ z : Int, x = .int z) c0 (by simpa using c1) (by
    intro x hx
    simp only [List.mem_cons, List.not_mem_nil, or_false] at hx
    rcases hx with rfl | rfl | rfl <;> exact ⟨_, rfl⟩)
  refine rr_ixL hy ?_
  walk_at "gg"
  rw [show (some ((j : Int) + 1)) = some ((j + 1 : Nat) : Int) from rfl]
  refine ⟨noT (by simp; omega), ?_⟩
  rw [cutT]
  walk_at "gg"
  refine rr_catT (ys := [.int f']) (by simp) (by rw [List.length_take]; exact Nat.le_trans (show _ ≤ 20 by simp only [List.length_cons, List.length_nil, List.length_map]; omega) (by decide)) ?_
  walk_at "gg"
  rw [show (some ((j : Int) + 1 + 1)) = some ((j + 1 + 1 : Nat) : Int) from rfl]
  refine ⟨noF (by omega) (by simp), ?_⟩
  rw [cutF]
  refine rr_catT (by simp) (by rw [List.length_append, List.length_take, List.length_drop]; exact Nat.le_trans (show _ ≤ 30 by simp only [List.length_cons, List.length_nil, List.length_map]; omega) (by decide)) ?_
  refine hp _ _ ⟨(wd, ns.take j ++ [f'] ++ ns.drop (j + 1)), o3, ?_, rfl, hw, ?_, ?_, ho3.mono (by omega)⟩
  · show Ent.d (D.tup ((D.str wd :: ns.map D.int).take (j + 1) ++ [D.int f'] ++ (D.str wd :: ns.map D.int).drop (j + 1 + 1))) = Ent.d (D.tup (D.str wd :: (ns.take j ++ [f'] ++ ns.drop (j + 1)).map D.int))
    rw [List.take_succ_cons, List.drop_succ_cons, List.map_append, List.map_append, List.map_take, List.map_drop]; rfl
  · dsimp only; rw [List.length_append, List.length_append, List.length_take, List.length_drop]; simp only [List.length_cons, List.length_nil]; omega
  · dsimp only; rw [List.length_append, List.length_append, List.length_take, List.length_drop]; simp only [List.length_cons, List.length_nil]; omega
theorem bent {w : Wd} {E : XK} {o : Own} {rest : List Own} {k : KE} {g : GS} {sp : Int} (n : Nat) (ho : Pool n o) (hn : n < 2 ^ 45) (odd : Odd 1 6 g) (h0 : 0 ≤ sp) (h1 : sp < 1000)
    (h : ∀ (g' : GS) (o' : Own), g'.1 ∈ words → min g.2.length 3 ≤ g'.2.length + 1 → g'.2.length ≤ max 4 (g.2.length + 1) → Pool (n + 4) o' → k (.d (gD g')) (o' :: rest)) : RS w dsBent E [.own 0, .d (gD g), .d (.int sp)] (o :: rest) k :=
  rp (g, sp, n, 0) ⟨o, rfl, rfl, ho, hn, odd, h0, h1⟩ (fun e S' ⟨g', o', h1, h2, q1, q2, q3, q4⟩ => ⟨o', _, h2, q4.ng, h1, h g' o' q1 q2 q3 q4⟩) ho.ng
end

section
variable {P : Program} {w0 : World} {K : PySem.W.Frag} {mg : Str → Option Value} {base : Heap}
theorem toPs_gs : ∀ gs : List GS, toPs (gs.map gD) = some (gs.map gP)
  | [] => rfl
  | g :: gs => by
    show toPs (gD g :: gs.map gD) = _
    simp only [toPs, toPs_gs gs]
    rw [show toP (gD g) = some (gP g) from toP_g _]
    rfl
theorem words_ok {a : Str} (h : a ∈ words) : PyData.strOk a = true := by
  unfold words at h
  simp only [List.mem_cons, List.not_mem_nil, or_false] at h
  rcases h with rfl | rfl | rfl | rfl | rfl | rfl | rfl | rfl <;> decide +kernel
theorem lay_gs : ∀ gs : List GS, (∀ g ∈ gs, g.1 ∈ words) → PyData.canLayAll0 (gs.map gP) = true
  | [], _ => rfl
  | g :: gs, h => by
    show PyData.canLayAll0 (gP g :: gs.map gP) = true
    simp only [PyData.canLayAll0, lay_gs gs fun x hx => h x (List.mem_cons_of_mem _ hx), Bool.and_true]
    exact lay_g (words_ok (h g (List.mem_cons_self ..)))
theorem depth_gs : ∀ gs : List GS, PyData.depthAll (gs.map gP) ≤ 1
  | [] => by simp [PyData.depthAll]
  | g :: gs => by
    show PyData.depthAll (gP g :: gs.map gP) ≤ 1
    have := depth_gs gs
    simp only [PyData.depthAll, depth_g]
    omega
theorem shaped_gs {gs : List GS} (h : ∀ g ∈ gs, g.1 ∈ words) : SeqAt.shaped (.list (gs.map gP)) = true := by
  unfold SeqAt.shaped
  have := depth_gs gs
  simp only [PyData.canLay0, lay_gs gs h, PyData.depth]
  simp
  omega
theorem eqv_gs : ∀ gs : List GS, PyData.eqvAll (gs.map gP) (gs.map gP) = true
  | [] => by simp [PyData.eqvAll]
  | g :: gs => by
    show PyData.eqvAll (gP g :: gs.map gP) (gP g :: gs.map gP) = true
    simp [PyData.eqvAll, eqv_gs gs, eqv_g]
theorem rr_eqG {w : Wd} {S : List Own} {k : KE} {gs : List GS} (hw : ∀ g ∈ gs, g.1 ∈ words) (h : k (.d (.bl true)) S) : RR w (rEqD w.K) (.d (gL gs)) (.d (gL gs)) S k := by
  have e : entP S (.d (gL gs)) = some (.list (gs.map gP)) := by
    show (toPs (gs.map gD)).map PyData.list = _
    rw [toPs_gs]; rfl
  refine rr_eqD e e (shaped_gs hw) (shaped_gs hw) ?_
  rw [show PyData.eqv (.list (gs.map gP)) (.list (gs.map gP)) = true from eqv_gs gs]
  exact h
theorem badFrom_step {gs : List GS} {k : Nat} {g : GS} (h : gs[k]? = some g) : badFrom k (gs.drop k) = if rB g k = true then badFrom (k + 1) (gs.drop (k + 1)) else some k := by
  obtain ⟨hl, he⟩ := List.getElem?_eq_some_iff.mp h
  rw [List.drop_eq_getElem_cons hl, he]; rfl
theorem rr_eqO2 {w : Wd} {S : List Own} {k : KE} (o : Option Nat) (h : k (.d (.bl true)) S) : RR w rEq (.d (optD o)) (.d (optD o)) S k := by
  cases o with
  | none => exact rr_eq (u := .non) (v := .non) rfl rfl rfl (by rw [decide_eq_true rfl]; exact h)
  | some i => exact rr_eq (u := .int i) (v := .int i) rfl rfl rfl (by rw [decide_eq_true rfl]; exact h)
theorem word_g (x : Stp) : x.g.1 ∈ words := by cases x <;> (dsimp only [Stp.g]; decide +kernel)
theorem len_g (x : Stp) : 2 ≤ x.g.2.length ∧ x.g.2.length ≤ 4 := by cases x <;> simp [Stp.g]
def dsQRight : DS := ds (α := Nat) (fun a es S => ∃ o, es = [.own 0] ∧ S = [o] ∧ Pool a o ∧ a < 2 ^ 40) (fun a e S' => ∃ (o' : Own), e = .d (.bl true) ∧ S' = [o'] ∧ Pool (a + 300) o')
theorem ok_qright {f : Addr} {fd : FuncData} (F : Fun K "_law_right" "_law_right" s_law_right f fd) (T : Blt mg)
    (d_law_draw : Df P w0 K mg base CX0 1 "_law_draw" 2 dsDraw) (d_law_steps : Df P w0 K mg base CX0 3 "_law_steps" 2 dsDSteps) (d_law_bent : Df P w0 K mg base CX0 2 "_law_bent" 3 dsBent) (d_law_is_step : Df P w0 K mg base CX0 1 "_law_is_step" 2 dsIsStep) (d_law_told : Df P w0 K mg base CX0 6 "_law_told" 1 dsTold) :
    FnOk P w0 K mg base CX0 7 f fd ["pool"] (spD K dsQRight) := by
  refine fn0 F sc_law_right (fun es S p e h => by obtain ⟨a, ⟨o, h, _⟩, _⟩ := h; rw [h]; rfl) (fun cdv A outer s H E hr w es S p e hK hA h => ?_)
  subst hK
  obtain ⟨n, ⟨o, rfl, rfl, ho, hn⟩, hp⟩ := h
  refine ⟨_, (pss_cons (sset 1 (pe_df d_law_steps (hr.mono (by decide)) pass0 (pa_cons (pv 0) (pa_cons pe_int pa_nil))) sc_law_right.nd)
    (pss_cons (ps_for PassesOwn.never rfl (pi_range1 (by rfl) T.range (pa_cons (pe_op op_mulW (pe_df d_law_draw (hr.mono (by decide)) pass0 (pa_cons (pv 0) (pa_cons pe_int pa_nil))) (b_int T.int (pe_cmpR (op_neD hr.units) (pv 1) (pe_lst pa_nil) (nomark _)))) pa_nil)) (gn 2 sc_law_right.nd)
      (pss_cons (sset 3 (pe_df d_law_draw (hr.mono (by decide)) pass0 (pa_cons (pv 0) (pa_cons (b_len T.len (pv 1)) pa_nil))) sc_law_right.nd)
      (pss_one (ps_asg (pe_df d_law_bent (hr.mono (by decide)) pass0 (pa_cons (pv 0) (pa_cons (pe_ix ix_list (pv 1) (pv 3) (fun _ _ => rfl)) (pa_cons (pv 3) pa_nil)))) (pg_sub (pv 1) (pv 3) set_list)))))
    (pss_cons (ps_par (i := 4) (j := 5) (by rfl) sc_law_right.nd rfl rfl (by decide) rfl rfl (pa_cons (b_list T.list (pv 1)) (pa_cons pe_non pa_nil)) (by rfl))
    (pss_cons (ps_for PassesOwn.never rfl (pi_range3 (by rfl) T.range (pa_cons (pe_op op_sub (b_len T.len (pv 1)) pe_int) (pa_cons (pe_un un_neg pe_int) (pa_cons (pe_un un_neg pe_int) pa_nil)))) (gn 3 sc_law_right.nd)
      (pss_one (ps_if (pt_not (pt_val (pe_df d_law_is_step (hr.mono (by decide)) pass0 (pa_cons (pe_ix ix_list (pv 1) (pv 3) (fun _ _ => rfl)) (pa_cons (pv 3) pa_nil)))))
        (pss_one (sset 5 (pv 3) sc_law_right.nd))
        pss_nil)))
    (pss_one (ps_ret (pe_and (pe_cmpR op_eq (pe_df d_law_told (hr.mono (by decide)) pass0 (pa_cons (pv 1) pa_nil)) (pv 5) (nomark _)) (pe_one (pe_cmpR (op_eqD hr.units) (pv 1) (pv 4) (nomark _)))))))))), ?_⟩
  try dsimp only [L2.cxOf, L2.Cx.nox]
  walk_at "gg"
  refine dsteps (m := 8) n ho (by omega) (by omega) fun gs o1 dg ho1 => ?_
  have hgl := dg.len
  walk_at "gg"
  refine ls_forR (lr_1 ?_)
  walk_at "gg"
  refine draw _ ho1 (by omega) (by decide) (by decide) fun d0 o2 a0 a1 ho2 => ?_
  walk_at "gg"
  refine rr_neD (d := .list (gs.map Stp.p)) (e := .list []) (by show (toPs (gs.map Stp.d)).map PyData.list = _; rw [toPs_s]; rfl) rfl (shaped_s gs) rfl ?_
  rw [show PyData.eqv (.list (gs.map Stp.p)) (.list []) = decide (gs = []) from eqv_sL gs []]
  walk_at "gg"
  refine rc_intB ?_
  have hb01 : (if (!decide (gs = [])) = true then (1 : Int) else 0) = 0 ∨ (0 < gs.length ∧ (if (!decide (gs = [])) = true then (1 : Int) else 0) = 1) := by
    cases gs with
    | nil => left; rfl
    | cons g gs => right; exact ⟨by simp, by simp⟩
  generalize (if (!decide (gs = [])) = true then (1 : Int) else 0) = b01 at hb01 ⊢
  refine rr_int (wide_mul (a := 10) (b := 10) (by omega) (by omega) (by decide) (by decide) (by decide)) ?_
  have hN : 0 ≤ d0 * b01 ∧ d0 * b01 ≤ 2 ∧ (0 < d0 * b01 → 0 < gs.length) := by
    rcases hb01 with e | ⟨e0, e⟩ <;> rw [e] <;> simp <;> omega
  generalize d0 * b01 = N at hN ⊢
  obtain ⟨hN0, hN1, hN2⟩ := hN
  walk_at "gg"
  refine ⟨by omega, by omega, ?_⟩
  have isg : ∀ x ∈ gs.map Stp.g, Odd 2 4 x := fun x hx => by
    obtain ⟨y, hy, rfl⟩ := List.mem_map.mp hx
    exact ⟨word_g y, (len_g y).1, (len_g y).2⟩
  refine ⟨fun i Γ S => ∃ (oi : Own) (hs : List GS) (x2 x3 : Option Ent), S = [oi, .lst (hs.map gD)] ∧ Pool (n + 101 + 5 * i) oi ∧ hs.length = gs.length ∧ (∀ x ∈ hs, Odd (2 - i) (4 + i) x) ∧ Γ = [some (.own 0), some (.own 1), x2, x3, none, none],
    ⟨o2, gs.map Stp.g, none, none, by rw [List.map_map]; rfl, ho2, by rw [List.length_map], isg, rfl⟩, ?_, ?_⟩
  · rintro i _ _ hi ⟨oi, hs, x2, x3, rfl, hoi, hl, hO, rfl⟩
    have hg0 : 0 < gs.length := hN2 (by omega)
    walk_at "gg"
    rw [List.length_map]
    refine draw _ hoi (by omega) (by omega) (by omega) fun d o3 b0 b1 ho3 => ?_
    obtain ⟨j, rfl⟩ : ∃ j : Nat, d = j := ⟨d.toNat, by omega⟩
    walk_at "gg"
    refine rr_ixM (n := 1) rfl (by omega) (by omega) fun g hg hgj => ?_
    walk_at "gg"
    have hO1 := hO g hg
    have hlo := hO1.lo
    have hhi := hO1.hi
    refine bent _ ho3 (by omega) ⟨hO1.wd, by omega, by omega⟩ (by omega) (by omega) fun g' o4 q1 q2 q3 ho4 => ?_
    walk_at "gg"
    refine ⟨1, hs.map gD, j, j, rfl, rfl, rfl, ?_, ?_⟩
    · unfold ixN
      rw [if_pos (by omega), if_pos (by rw [List.length_map]; omega)]; rfl
    · refine ⟨o4, hs.set j g', _, _, by rw [List.map_set]; rfl, ho4.mono (by omega), by rw [List.length_set]; exact hl, fun x hx => ?_, rfl⟩
      rcases List.mem_or_eq_of_mem_set hx with hx | rfl
      · have := hO x hx
        exact ⟨this.wd, by have := this.lo; omega, by have := this.hi; omega⟩
      · exact ⟨q1, by omega, by omega⟩
  · rintro _ _ ⟨oi, hs, x2, x3, rfl, hoi, hl, hO, rfl⟩
    have hw : ∀ g ∈ hs, g.1 ∈ words := fun g hg => (hO g hg).wd
    refine frzL (S := [oi]) (xs := hs.map gD) (Γ' := [some (.own 0), some (.d (gL hs)), none, none, none, none]) 1 rfl ?_ (by walk_at "envle") (by rw [hA]; exact Nat.le_refl _)
    walk_at "gg"
    refine rc_list rfl ?_
    walk_at "gg"
    refine ⟨_, _, rfl, ?_⟩
    walk_at "gg"
    refine ls_forC ?_
    walk_at "gg"
    rw [List.length_map]
    refine ⟨_, _, _, _, rfl, RgC.neg (by omega) (by omega) (by decide) (by decide), ?_⟩
    have en : ((hs.length : Int) - 1 - -1).toNat = hs.length := by omega
    rw [en]
    refine ⟨fun t Γ S => S = [oi] ∧ ∃ x3, Γ = [some (.own 0), some (.d (gL hs)), none, x3, some (.d (gL hs)), some (.d (optD (badFrom (hs.length - t) (hs.drop (hs.length - t)))))], ⟨rfl, none, by rw [Nat.sub_zero, List.drop_length]; rfl⟩, ?_, ?_⟩
    · rintro t _ _ ht ⟨rfl, x3, rfl⟩
      have ek : (hs.length : Int) - 1 + (t : Int) * -1 = ((hs.length - (t + 1) : Nat) : Int) := by omega
      rw [ek]
      generalize hk : hs.length - (t + 1) = k
      have hkl : k < hs.length := by omega
      have hk2 : hs.length - t = k + 1 := by omega
      rw [hk2]
      walk_at "gg"
      obtain ⟨g, hg, hgk, hga⟩ := ixM (f := gD) (xs := hs) (i := (k : Int)) (by omega) (by omega)
      rw [Int.toNat_natCast] at hgk
      refine rr_ixL hga ?_
      walk_at "gg"
      refine isStep (hw g hg) ?_
      walk_at "gg"
      refine ⟨fun hb => ?_, fun hb => ?_⟩
      · walk_at "gg"
        refine ⟨rfl, some (.d (.int k)), ?_⟩
        rw [hk, badFrom_step hgk, if_neg (by simpa using hb)]
        rfl
      · walk_at "gg"
        refine ⟨rfl, some (.d (.int k)), ?_⟩
        rw [hk, badFrom_step hgk, if_pos (by simpa using hb)]
        rfl
    · rintro _ _ ⟨rfl, x3, rfl⟩
      rw [Nat.sub_self, List.drop_zero]
      walk_at "gg"
      refine told hw ?_
      walk_at "gg"
      refine rr_eqO2 (badAt hs) ?_
      walk_at "gg"
      refine ⟨fun _ => ?_, fun z => Bool.noConfusion z⟩
      walk_at "gg"
      refine rr_eqG hw ?_
      exact hp _ _ ⟨oi, rfl, rfl, hoi.mono (by omega)⟩
theorem qright {w : Wd} {E : XK} {o : Own} {rest : List Own} {k : KE} (n : Nat) (ho : Pool n o) (hn : n < 2 ^ 40) (h : ∀ (o' : Own), Pool (n + 300) o' → k (.d (.bl true)) (o' :: rest)) : RS w dsQRight E [.own 0] (o :: rest) k :=
  rp n ⟨o, rfl, rfl, ho, hn⟩ (fun e S' ⟨o', h1, h2, h3⟩ => ⟨o', _, h2, h3.ng, h1, h o' h3⟩) ho.ng
end

section
variable {P : Program} {w0 : World} {K : PySem.W.Frag} {mg : Str → Option Value} {base : Heap}
theorem pool {w : Wd} {E : XK} {S : List Own} {k : KE} {ns : List Int} {a : Int} (h0 : 0 ≤ a) (h1 : a < 1000) (h : ∀ o, Pool 0 o → k (.own S.length) (S ++ [o])) : RS w dsPool E [.d (.scr ns), .d (.int a)] S k :=
  r0O (ns, a) ⟨rfl, rfl, h0, h1⟩ fun e S' ⟨o, h1, h2, h3⟩ => ⟨o, h2, h1, h o h3⟩
def dsLaw : DS := ds (α := List Int) (fun a es S => es = [.d (.scr a)] ∧ S = [] ∧ a.length ≤ 63) (fun a e S' => e = .d (.bl true))
theorem ok_law {f : Addr} {fd : FuncData} (F : Fun K "law" "law" slaw f fd) (T : Blt mg) (d_law_pool : Df P w0 K mg base CX0 1 "_law_pool" 2 dsPool) (d_law_right : Df P w0 K mg base CX0 7 "_law_right" 1 dsQRight) (d_law_told : Df P w0 K mg base CX0 6 "_law_told" 1 dsTold) : FnOk P w0 K mg base CX0 8 f fd ["script"] (spD K dsLaw) := by
  refine fn0 F sclaw (fun es S p e h => by obtain ⟨a, ⟨h, _⟩, _⟩ := h; rw [h]; rfl) (fun cdv A outer s H E hr w es S p e hK hA h => ?_)
  subst hK
  obtain ⟨ns, ⟨rfl, rfl, hns⟩, hp⟩ := h
  refine ⟨_, (pss_cons (ps_for PassesOwn.never rfl (pi_range1 (by rfl) T.range (pa_cons (b_max2 T.max pe_int (b_min2 T.min pe_int (b_len T.len (pv 0)))) pa_nil)) (gn 1 sclaw.nd)
      (pss_cons (sset 2 (pe_df d_law_pool (hr.mono (by decide)) pass0 (pa_cons (pv 0) (pa_cons (pv 1) pa_nil))) sclaw.nd)
      (pss_one (ps_for PassesOwn.never rfl (pi_range1 (by rfl) T.range (pa_cons pe_int pa_nil)) (gn 3 sclaw.nd)
        (pss_one (ps_if (pt_not (pt_val (pe_df d_law_right (hr.mono (by decide)) pass0 (pa_cons (pv 2) pa_nil))))
          (pss_one (ps_ret pe_bl))
          pss_nil))))))
    (pss_cons (sset 4 (pe_lst (pa_cons (pe_lst (pa_cons (pe_tup (pa_cons pe_str (pa_cons pe_int (pa_cons pe_int pa_nil)))) pa_nil)) (pa_cons (pe_lst (pa_cons (pe_tup (pa_cons pe_str (pa_cons pe_int (pa_cons pe_int (pa_cons pe_int pa_nil))))) (pa_cons (pe_tup (pa_cons pe_str (pa_cons pe_int (pa_cons pe_int pa_nil)))) (pa_cons (pe_tup (pa_cons pe_str (pa_cons pe_int (pa_cons pe_int (pa_cons pe_int pa_nil))))) pa_nil)))) (pa_cons (pe_lst (pa_cons (pe_tup (pa_cons pe_str (pa_cons pe_int (pa_cons pe_int (pa_cons pe_int (pa_cons pe_int pa_nil)))))) pa_nil)) (pa_cons (pe_lst pa_nil) pa_nil))))) sclaw.nd)
    (pss_one (ps_ret (pe_cmpR (op_eqD hr.units) (pe_lc (own := [("one", 5)]) (g := gName 5) rfl sclaw.nd (pi_list (pv 4)) (blkOk_by (own := [("one", 5)]) (N := Nlaw) (sc := defScope slaw) (by decide +kernel)) (fun _ _ _ _ _ => gn 5 sclaw.nd) (fun _ _ _ _ _ => pts_nil) (fun _ _ _ _ _ => (pe_dfB d_law_told (hr.mono (by decide)) pass0 (pa_cons (pv 5) pa_nil)))) (pe_lst (pa_cons pe_int (pa_cons pe_int (pa_cons pe_int (pa_cons pe_non pa_nil))))) (nomark _)))))), ?_⟩
  try dsimp only [L2.cxOf, L2.Cx.nox]
  walk_at "gg"
  refine ls_forR (lr_1 ?_)
  walk_at "gg"
  generalize hN : (if (if (ns.length : Int) < 10 then (ns.length : Int) else 10) > 1 then (if (ns.length : Int) < 10 then (ns.length : Int) else 10) else 1) = N
  have hN1 : 0 ≤ N ∧ N < 100 := by rw [← hN]; split <;> split <;> omega
  refine ⟨by omega, by omega, ?_⟩
  refine ⟨fun i Γ S => ∃ x y : Option Ent, (S = [] ∧ Γ = [some (.d (.scr ns)), x, none, y, none, none]) ∨ ∃ o, S = [o] ∧ Γ = [some (.d (.scr ns)), x, some (.own 0), y, none, none], ⟨none, none, .inl ⟨rfl, rfl⟩⟩, ?_, ?_⟩
  · rintro i Γ1 S1 hi ⟨x, y, hI⟩
    refine lg_name (ls_either (Γ' := [some (.d (.scr ns)), some (.d (.int (0 + i))), none, none, none, none]) hI ?_ (by walk_at "envle") (by walk_at "envle") (by rw [hA]; exact Nat.le_refl _))
    walk_at "gg"
    refine pool (by omega) (by omega) fun o ho => ?_
    walk_at "gg"
    refine ls_forR (lr_1 ?_)
    walk_at "gg"
    refine ⟨by omega, by omega, ?_⟩
    refine ⟨fun j Γ S => ∃ (oj : Own) (x : Option Ent), S = [oj] ∧ Pool (300 * j) oj ∧ Γ = [some (.d (.scr ns)), some (.d (.int (0 + i))), some (.own 0), x, none, none], ⟨o, none, rfl, ho, rfl⟩, ?_, ?_⟩
    · rintro j _ _ hj ⟨oj, x, rfl, hoj, rfl⟩
      walk_at "gg"
      refine qright _ hoj (by omega) fun o' ho' => ?_
      walk_at "gg"
      refine ⟨fun hb => Bool.noConfusion hb, fun _ => ?_⟩
      walk_at "gg"
      exact ⟨o', _, rfl, ho'.mono (by omega), rfl⟩
    · rintro _ _ ⟨oj, x, rfl, hoj, rfl⟩
      exact ⟨_, _, .inr ⟨oj, rfl, rfl⟩⟩
  · rintro Γ1 S1 ⟨x, y, hI⟩
    refine ls_either0 (Γ' := [some (.d (.scr ns)), none, none, none, none, none]) hI ?_ (by walk_at "envle") (by walk_at "envle") (by rw [hA]; exact Nat.le_refl _)
    walk_at "gg"
    refine le_lcLM (α := List GS) gL (fun gs => optD (badAt gs)) ?_
    walk_at "gg"
    refine ⟨[[("join", [0, 0])], [("crop", [0, 0, 0]), ("join", [1, 0]), ("pad", [3, 0, 0])], [("window", [0, 3, 4, 0])], []], rfl, sz rfl, fun gs acc hgs => ?_, ?_⟩
    · walk_at "gg"
      have hw : ∀ g ∈ gs, g.1 ∈ words := by
        simp only [List.mem_cons, List.not_mem_nil, or_false] at hgs
        intro g hg
        rcases hgs with rfl | rfl | rfl | rfl
        · simp only [List.mem_cons, List.not_mem_nil, or_false] at hg; subst hg; dsimp only; decide +kernel
        · simp only [List.mem_cons, List.not_mem_nil, or_false] at hg; rcases hg with rfl | rfl | rfl <;> (dsimp only; decide +kernel)
        · simp only [List.mem_cons, List.not_mem_nil, or_false] at hg; subst hg; dsimp only; decide +kernel
        · cases hg
      exact told hw ⟨rfl, rfl⟩
    · have e1 : badAt [("join", [0, 0])] = some 0 := by decide +kernel
      have e2 : badAt [("crop", [0, 0, 0]), ("join", [1, 0]), ("pad", [3, 0, 0])] = some 2 := by decide +kernel
      have e3 : badAt [("window", [0, 3, 4, 0])] = some 0 := by decide +kernel
      have e4 : badAt [] = none := rfl
      simp only [List.map_cons, List.map_nil, e1, e2, e3, e4]
      walk_at "gg"
      refine rr_eqD (d := .list [.int 0, .int 2, .int 0, .none]) (e := .list [.int 0, .int 2, .int 0, .none]) rfl rfl rfl rfl ?_
      exact hp _ _ rfl
end

section
theorem all_mk {l : PySem.W.OpenLaw} {w : World} {K : PySem.W.Frag} {h : Heap} {mg : Str → Option Value} {fa DI f1 f2 f3 f4 f5 f6 f7 f8 f9 f10 f11 f12 f13 f14 f15 C f16 CS c1x c2x c3x c4x c5x c6x c7x c8x c9x CI f17 : Addr} (X : K.In h) (G : h.Ns mainGlobals mg) (hfa : mg "law" = some (.ref fa))
    {es : Array DictEntry} {ne : Nat} {t1 t2 t3 t4 t5 : Tok}
    {od1 an1 : Option Addr} {sl1 : Array (Option Value)} {oc1 kV1 dc1 pm1 cd1 ct1 : Value}
    {od2 an2 : Option Addr} {sl2 : Array (Option Value)} {oc2 kV2 dc2 pm2 cd2 ct2 : Value}
    {od3 an3 : Option Addr} {sl3 : Array (Option Value)} {oc3 kV3 dc3 pm3 cd3 ct3 : Value}
    {od4 an4 : Option Addr} {sl4 : Array (Option Value)} {oc4 kV4 dc4 pm4 cd4 ct4 : Value}
    {od5 an5 : Option Addr} {sl5 : Array (Option Value)} {oc5 kV5 dc5 pm5 cd5 ct5 : Value}
    {od6 an6 : Option Addr} {sl6 : Array (Option Value)} {oc6 kV6 dc6 pm6 cd6 ct6 : Value}
    {od7 an7 : Option Addr} {sl7 : Array (Option Value)} {oc7 kV7 dc7 pm7 cd7 ct7 : Value}
    {od8 an8 : Option Addr} {sl8 : Array (Option Value)} {oc8 kV8 dc8 pm8 cd8 ct8 : Value}
    {od9 an9 : Option Addr} {sl9 : Array (Option Value)} {oc9 kV9 dc9 pm9 cd9 ct9 : Value}
    {od10 an10 : Option Addr} {sl10 : Array (Option Value)} {oc10 kV10 dc10 pm10 cd10 ct10 : Value}
    {od11 an11 : Option Addr} {sl11 : Array (Option Value)} {oc11 kV11 dc11 pm11 cd11 ct11 : Value}
    {od12 an12 : Option Addr} {sl12 : Array (Option Value)} {oc12 kV12 dc12 pm12 cd12 ct12 : Value}
    {od13 an13 : Option Addr} {sl13 : Array (Option Value)} {oc13 kV13 dc13 pm13 cd13 ct13 : Value}
    {od14 an14 : Option Addr} {sl14 : Array (Option Value)} {oc14 kV14 dc14 pm14 cd14 ct14 : Value}
    {od15 an15 : Option Addr} {sl15 : Array (Option Value)} {oc15 kV15 dc15 pm15 cd15 ct15 : Value}
    {od16 an16 : Option Addr} {sl16 : Array (Option Value)} {oc16 kV16 dc16 pm16 cd16 ct16 : Value}
    {nmCI qCI : Str} {NCI : Addr} {bsCI bmCI : List Value} {snCI : List Str} {subCI : List Value} {abCI : Bool} {colCI : Option Bool} {ddCI : Option Addr} {u0CI u1CI u2CI u3CI u5CI : Option Value}
    {od17 an17 : Option Addr} {sl17 : Array (Option Value)} {oc17 kV17 dc17 pm17 cd17 ct17 : Value}
    (a1 : PySem.W.nsIn K mainGlobals "named_rows" = some (some (.ref f1)))
    (l1 : K.lookup f1 = some ⟨oc1, od1, .func (PySem.W.fnOf "named_rows" "named_rows" (defArgs snamed_rows) (defBody snamed_rows) (defScope snamed_rows) .none kV1 dc1 pm1 an1 cd1 ct1), sl1⟩)
    (c1 : PySem.W.codeIn K cd1 "named_rows" = true)
    (k1 : PySem.W.keepIn K (.ref f1) = true)
    (a2 : PySem.W.nsIn K mainGlobals "has_right_numbers" = some (some (.ref f2)))
    (l2 : K.lookup f2 = some ⟨oc2, od2, .func (PySem.W.fnOf "has_right_numbers" "has_right_numbers" (defArgs shas_right_numbers) (defBody shas_right_numbers) (defScope shas_right_numbers) .none kV2 dc2 pm2 an2 cd2 ct2), sl2⟩)
    (c2 : PySem.W.codeIn K cd2 "has_right_numbers" = true)
    (k2 : PySem.W.keepIn K (.ref f2) = true)
    (a3 : PySem.W.nsIn K mainGlobals "is_step" = some (some (.ref f3)))
    (l3 : K.lookup f3 = some ⟨oc3, od3, .func (PySem.W.fnOf "is_step" "is_step" (defArgs sis_step) (defBody sis_step) (defScope sis_step) .none kV3 dc3 pm3 an3 cd3 ct3), sl3⟩)
    (c3 : PySem.W.codeIn K cd3 "is_step" = true)
    (k3 : PySem.W.keepIn K (.ref f3) = true)
    (a4 : PySem.W.nsIn K mainGlobals "is_right" = some (some (.ref f4)))
    (l4 : K.lookup f4 = some ⟨oc4, od4, .func (PySem.W.fnOf "is_right" "is_right" (defArgs sis_right) (defBody sis_right) (defScope sis_right) .none kV4 dc4 pm4 an4 cd4 ct4), sl4⟩)
    (c4 : PySem.W.codeIn K cd4 "is_right" = true)
    (k4 : PySem.W.keepIn K (.ref f4) = true)
    (a5 : PySem.W.nsIn K mainGlobals "_law_pool" = some (some (.ref f5)))
    (l5 : K.lookup f5 = some ⟨oc5, od5, .func (PySem.W.fnOf "_law_pool" "_law_pool" (defArgs s_law_pool) (defBody s_law_pool) (defScope s_law_pool) .none kV5 dc5 pm5 an5 cd5 ct5), sl5⟩)
    (c5 : PySem.W.codeIn K cd5 "_law_pool" = true)
    (k5 : PySem.W.keepIn K (.ref f5) = true)
    (a6 : PySem.W.nsIn K mainGlobals "_law_draw" = some (some (.ref f6)))
    (l6 : K.lookup f6 = some ⟨oc6, od6, .func (PySem.W.fnOf "_law_draw" "_law_draw" (defArgs s_law_draw) (defBody s_law_draw) (defScope s_law_draw) .none kV6 dc6 pm6 an6 cd6 ct6), sl6⟩)
    (c6 : PySem.W.codeIn K cd6 "_law_draw" = true)
    (k6 : PySem.W.keepIn K (.ref f6) = true)
    (a7 : PySem.W.nsIn K mainGlobals "_law_lesser" = some (some (.ref f7)))
    (l7 : K.lookup f7 = some ⟨oc7, od7, .func (PySem.W.fnOf "_law_lesser" "_law_lesser" (defArgs s_law_lesser) (defBody s_law_lesser) (defScope s_law_lesser) .none kV7 dc7 pm7 an7 cd7 ct7), sl7⟩)
    (c7 : PySem.W.codeIn K cd7 "_law_lesser" = true)
    (k7 : PySem.W.keepIn K (.ref f7) = true)
    (a8 : PySem.W.nsIn K mainGlobals "_law_window" = some (some (.ref f8)))
    (l8 : K.lookup f8 = some ⟨oc8, od8, .func (PySem.W.fnOf "_law_window" "_law_window" (defArgs s_law_window) (defBody s_law_window) (defScope s_law_window) .none kV8 dc8 pm8 an8 cd8 ct8), sl8⟩)
    (c8 : PySem.W.codeIn K cd8 "_law_window" = true)
    (k8 : PySem.W.keepIn K (.ref f8) = true)
    (a9 : PySem.W.nsIn K mainGlobals "_law_joined" = some (some (.ref f9)))
    (l9 : K.lookup f9 = some ⟨oc9, od9, .func (PySem.W.fnOf "_law_joined" "_law_joined" (defArgs s_law_joined) (defBody s_law_joined) (defScope s_law_joined) .none kV9 dc9 pm9 an9 cd9 ct9), sl9⟩)
    (c9 : PySem.W.codeIn K cd9 "_law_joined" = true)
    (k9 : PySem.W.keepIn K (.ref f9) = true)
    (a10 : PySem.W.nsIn K mainGlobals "_law_steps" = some (some (.ref f10)))
    (l10 : K.lookup f10 = some ⟨oc10, od10, .func (PySem.W.fnOf "_law_steps" "_law_steps" (defArgs s_law_steps) (defBody s_law_steps) (defScope s_law_steps) .none kV10 dc10 pm10 an10 cd10 ct10), sl10⟩)
    (c10 : PySem.W.codeIn K cd10 "_law_steps" = true)
    (k10 : PySem.W.keepIn K (.ref f10) = true)
    (a11 : PySem.W.nsIn K mainGlobals "_law_told" = some (some (.ref f11)))
    (l11 : K.lookup f11 = some ⟨oc11, od11, .func (PySem.W.fnOf "_law_told" "_law_told" (defArgs s_law_told) (defBody s_law_told) (defScope s_law_told) .none kV11 dc11 pm11 an11 cd11 ct11), sl11⟩)
    (c11 : PySem.W.codeIn K cd11 "_law_told" = true)
    (k11 : PySem.W.keepIn K (.ref f11) = true)
    (a12 : PySem.W.nsIn K mainGlobals "_law_is_step" = some (some (.ref f12)))
    (l12 : K.lookup f12 = some ⟨oc12, od12, .func (PySem.W.fnOf "_law_is_step" "_law_is_step" (defArgs s_law_is_step) (defBody s_law_is_step) (defScope s_law_is_step) .none kV12 dc12 pm12 an12 cd12 ct12), sl12⟩)
    (c12 : PySem.W.codeIn K cd12 "_law_is_step" = true)
    (k12 : PySem.W.keepIn K (.ref f12) = true)
    (a13 : PySem.W.nsIn K mainGlobals "_law_bent" = some (some (.ref f13)))
    (l13 : K.lookup f13 = some ⟨oc13, od13, .func (PySem.W.fnOf "_law_bent" "_law_bent" (defArgs s_law_bent) (defBody s_law_bent) (defScope s_law_bent) .none kV13 dc13 pm13 an13 cd13 ct13), sl13⟩)
    (c13 : PySem.W.codeIn K cd13 "_law_bent" = true)
    (k13 : PySem.W.keepIn K (.ref f13) = true)
    (a14 : PySem.W.nsIn K mainGlobals "_law_right" = some (some (.ref f14)))
    (l14 : K.lookup f14 = some ⟨oc14, od14, .func (PySem.W.fnOf "_law_right" "_law_right" (defArgs s_law_right) (defBody s_law_right) (defScope s_law_right) .none kV14 dc14 pm14 an14 cd14 ct14), sl14⟩)
    (c14 : PySem.W.codeIn K cd14 "_law_right" = true)
    (k14 : PySem.W.keepIn K (.ref f14) = true)
    (a15 : PySem.W.nsIn K mainGlobals "law" = some (some (.ref f15)))
    (l15 : K.lookup f15 = some ⟨oc15, od15, .func (PySem.W.fnOf "law" "law" (defArgs slaw) (defBody slaw) (defScope slaw) .none kV15 dc15 pm15 an15 cd15 ct15), sl15⟩)
    (c15 : PySem.W.codeIn K cd15 "law" = true)
    (k15 : PySem.W.keepIn K (.ref f15) = true)
    (aC : PySem.W.nsIn K mainGlobals "Pipeline" = some (some (.ref C)))
    (pgC : PySem.W.plainGet K C Str.empty = true)
    (hdC : PySem.W.hasDictIn K C = true)
    (poC : PySem.W.plainOver K C = true)
    (saC : PySem.W.findIn K (.ref C) "__setattr__" = some (some (.builtin "object.__setattr__")))
    (mkC : PySem.W.makesIn K C = true)
    (kcC : PySem.W.keepIn K (.ref C) = true)
    (nC_steps : PySem.W.findIn K (.ref C) "_steps" = some none)
    (a16 : PySem.W.findIn K (.ref C) "__init__" = some (some (.ref f16)))
    (l16 : K.lookup f16 = some ⟨oc16, od16, .func (PySem.W.fnOf "__init__" "Pipeline.__init__" (defArgs sPipelineinit) (defBody sPipelineinit) (defScope sPipelineinit) .none kV16 dc16 pm16 an16 cd16 ct16), sl16⟩)
    (c16 : PySem.W.codeIn K cd16 "Pipeline.__init__" = true)
    (k16 : PySem.W.keepIn K (.ref f16) = true)
    (i16 : PySem.W.isFn K (.ref f16) = true)
    (aCS : PySem.W.nsIn K mainGlobals "SizeError" = some (some (.ref CS)))
    (ac1x : PySem.W.nsIn K mainGlobals "InvalidCell" = some (some (.ref c1x)))
    (ac2x : PySem.W.nsIn K mainGlobals "InvalidNumber" = some (some (.ref c2x)))
    (ac3x : PySem.W.nsIn K mainGlobals "InvalidLine" = some (some (.ref c3x)))
    (ac4x : PySem.W.nsIn K mainGlobals "InvalidPlaces" = some (some (.ref c4x)))
    (ac5x : PySem.W.nsIn K mainGlobals "InvalidRow" = some (some (.ref c5x)))
    (ac6x : PySem.W.nsIn K mainGlobals "NotFitting" = some (some (.ref c6x)))
    (ac7x : PySem.W.nsIn K mainGlobals "NothingToUndo" = some (some (.ref c7x)))
    (ac8x : PySem.W.nsIn K mainGlobals "NotSteady" = some (some (.ref c8x)))
    (ac9x : PySem.W.nsIn K mainGlobals "Unreadable" = some (some (.ref c9x)))
    (aCI : PySem.W.nsIn K mainGlobals "InvalidPipeline" = some (some (.ref CI)))
    (lkCI : K.lookup CI = some (excClassObj nmCI qCI CI NCI bsCI bmCI true snCI subCI abCI colCI ddCI u0CI u1CI u2CI u3CI u5CI "ValueError.__new__"))
    (rvCI : PySem.HandSPX.refsVE bmCI = true)
    (saCI : PySem.W.findIn K (.ref CI) "__setattr__" = some (some (.builtin "object.__setattr__")))
    (xeCI : PySem.W.subIn K (.ref CI) (.type "BaseException") = some true)
    (tyCI : PySem.W.typeIn K (.ref CI) = some (.type "type"))
    (kcCI : PySem.W.keepIn K (.ref CI) = true)
    (vaCI : PySem.W.findIn K (.ref CI) "value" = some none)
    (a17 : PySem.W.findIn K (.ref CI) "__init__" = some (some (.ref f17)))
    (l17 : K.lookup f17 = some ⟨oc17, od17, .func (PySem.W.fnOf "__init__" "SizeError.__init__" (defArgs sSizeErrorinit) (defBody sSizeErrorinit) (defScope sSizeErrorinit) .none kV17 dc17 pm17 an17 cd17 ct17), sl17⟩)
    (c17 : PySem.W.codeIn K cd17 "SizeError.__init__" = true)
    (k17 : PySem.W.keepIn K (.ref f17) = true)
    (tyf : PySem.W.typeIn K (.ref f17) = some (.type "function"))
    (gaCI : PySem.W.findIn K (.ref CI) "__getattribute__" = some (some (.builtin "BaseException.__getattribute__")))
    (gtCI : PySem.W.findIn K (.ref CI) "__getattr__" = some none)
    (hdCI : PySem.W.hasDictIn K CI = true)
    (ckCI : PySem.W.findIn K (.ref CI) "__class__" = some (some (.builtin "object.__class__")))
    (cnCI : PySem.W.specialIn K (.builtin "object.__class__") "__get__" = some (some (.builtin "getset_descriptor.__get__")))
    (ctCI : PySem.W.takesIn K (.builtin "object.__class__") = some true)
    (mrCI : PySem.W.mroIn K CI (.type "object") = some true)
    (b_len : PySem.W.nsIn K mainGlobals "len" = some none)
    (b_int : PySem.W.nsIn K mainGlobals "int" = some none)
    (b_range : PySem.W.nsIn K mainGlobals "range" = some none)
    (b_abs : PySem.W.nsIn K mainGlobals "abs" = some none)
    (b_max : PySem.W.nsIn K mainGlobals "max" = some none)
    (b_min : PySem.W.nsIn K mainGlobals "min" = some none)
    (b_list : PySem.W.nsIn K mainGlobals "list" = some none)
    (b_isinstance : PySem.W.nsIn K mainGlobals "isinstance" = some none)
    (b_tuple : PySem.W.nsIn K mainGlobals "tuple" = some none)
    (b_enumerate : PySem.W.nsIn K mainGlobals "enumerate" = some none)
    (b_ValueError : PySem.W.nsIn K mainGlobals "ValueError" = some none)
    (s1 : PySem.W.subIn K (.ref CS) (.type "BaseException") = some true)
    (s2 : PySem.W.hasDictIn K CS = true)
    (s3 : PySem.W.typeIn K (.ref CS) = some (.type "type"))
    (s4 : PySem.W.subIn K (.ref CI) (.ref CS) = some true)
    (no1 : PySem.W.kitAny K (.ref CI) [.ref c1x, .ref c2x, .ref c3x, .ref c4x, .ref c5x, .ref c6x] = some false)
    (no2 : PySem.W.kitAny K (.ref CI) [.ref c7x, .ref c8x, .ref c9x] = some false)
    (yes : PySem.W.kitOne K (.ref CI) (.ref CI) = some true)
    (vee : PySem.W.kitOne K (.ref CI) (.type "ValueError") = some true)
    (aDI : PySem.W.nsIn K mainGlobals "ITEMS" = some (some (.ref DI)))
    (lkDI : K.lookup DI = some ⟨.type "dict", none, .dict es ne, #[]⟩)
    (klDI : PySem.W.KeysLit w.params es.toList)
    (syDI : (DI == sysModules) = false)
    (itw : PySem.W.nsIn K DI "window" = some (some (.int 5 t1)))
    (itr : PySem.W.nsIn K DI "repeat" = some (some (.int 3 t2)))
    (itc : PySem.W.nsIn K DI "crop" = some (some (.int 4 t3)))
    (itp : PySem.W.nsIn K DI "pad" = some (some (.int 4 t4)))
    (itj : PySem.W.nsIn K DI "join" = some (some (.int 3 t5)))
    (ito1 : PySem.W.nsIn K DI "windows" = some none)
    (ito2 : PySem.W.nsIn K DI "" = some none)
    (ito3 : PySem.W.nsIn K DI "Pad" = some none)
    : ∃ fd : FuncData, (∀ (s : Shared) (v : Value), BindsTo s fd ⟨[v], []⟩ [("script", v)]) ∧ ∀ base : Heap, K.In base → base.Ns mainGlobals mg → FnOk l.prog w K mg base CX0 8 fa fd ["script"] (spD K dsLaw) := by
  have e := hfa.symm.trans (PySem.W.mg_of X G a15)
  cases e
  have T : Blt mg := ⟨PySem.W.mg_none_of X G b_len, PySem.W.mg_none_of X G b_int, PySem.W.mg_none_of X G b_range, PySem.W.mg_none_of X G b_abs, PySem.W.mg_none_of X G b_max, PySem.W.mg_none_of X G b_min, PySem.W.mg_none_of X G b_list, PySem.W.mg_none_of X G b_isinstance, PySem.W.mg_none_of X G b_tuple, PySem.W.mg_none_of X G b_enumerate, PySem.W.mg_none_of X G b_ValueError⟩
  have Fnamed_rows := fun_mk (st := snamed_rows) l1 c1 k1
  have Fhas_right_numbers := fun_mk (st := shas_right_numbers) l2 c2 k2
  have Fis_step := fun_mk (st := sis_step) l3 c3 k3
  have Fis_right := fun_mk (st := sis_right) l4 c4 k4
  have F_law_pool := fun_mk (st := s_law_pool) l5 c5 k5
  have F_law_draw := fun_mk (st := s_law_draw) l6 c6 k6
  have F_law_lesser := fun_mk (st := s_law_lesser) l7 c7 k7
  have F_law_window := fun_mk (st := s_law_window) l8 c8 k8
  have F_law_joined := fun_mk (st := s_law_joined) l9 c9 k9
  have F_law_steps := fun_mk (st := s_law_steps) l10 c10 k10
  have F_law_told := fun_mk (st := s_law_told) l11 c11 k11
  have F_law_is_step := fun_mk (st := s_law_is_step) l12 c12 k12
  have F_law_bent := fun_mk (st := s_law_bent) l13 c13 k13
  have F_law_right := fun_mk (st := s_law_right) l14 c14 k14
  have Flaw := fun_mk (st := slaw) l15 c15 k15
  have FPipelineinit := fun_mk (st := sPipelineinit) l16 c16 k16
  have FSizeErrorinit := fun_mk (st := sSizeErrorinit) l17 c17 k17
  have Bnamed_rows := Fnamed_rows.binds (ps := ["step"]) fun _ _ _ _ _ _ us hl => match us, hl with | [_], _ => rfl
  have Bhas_right_numbers := Fhas_right_numbers.binds (ps := ["step"]) fun _ _ _ _ _ _ us hl => match us, hl with | [_], _ => rfl
  have Bis_step := Fis_step.binds (ps := ["step"]) fun _ _ _ _ _ _ us hl => match us, hl with | [_], _ => rfl
  have Bis_right := Fis_right.binds (ps := ["step", "number"]) fun _ _ _ _ _ _ us hl => match us, hl with | [_, _], _ => rfl
  have B_law_pool := F_law_pool.binds (ps := ["script", "at"]) fun _ _ _ _ _ _ us hl => match us, hl with | [_, _], _ => rfl
  have B_law_draw := F_law_draw.binds (ps := ["pool", "many"]) fun _ _ _ _ _ _ us hl => match us, hl with | [_, _], _ => rfl
  have B_law_lesser := F_law_lesser.binds (ps := ["one", "two"]) fun _ _ _ _ _ _ us hl => match us, hl with | [_, _], _ => rfl
  have B_law_window := F_law_window.binds (ps := ["pool", "strides"]) fun _ _ _ _ _ _ us hl => match us, hl with | [_, _], _ => rfl
  have B_law_joined := F_law_joined.binds (ps := ["pool", "ratios"]) fun _ _ _ _ _ _ us hl => match us, hl with | [_, _], _ => rfl
  have B_law_steps := F_law_steps.binds (ps := ["pool", "many"]) fun _ _ _ _ _ _ us hl => match us, hl with | [_, _], _ => rfl
  have B_law_told := F_law_told.binds (ps := ["some"]) fun _ _ _ _ _ _ us hl => match us, hl with | [_], _ => rfl
  have B_law_is_step := F_law_is_step.binds (ps := ["step", "spot"]) fun _ _ _ _ _ _ us hl => match us, hl with | [_, _], _ => rfl
  have B_law_bent := F_law_bent.binds (ps := ["pool", "step", "spot"]) fun _ _ _ _ _ _ us hl => match us, hl with | [_, _, _], _ => rfl
  have B_law_right := F_law_right.binds (ps := ["pool"]) fun _ _ _ _ _ _ us hl => match us, hl with | [_], _ => rfl
  have BPipelineinit := FPipelineinit.binds (ps := ["self", "steps"]) fun _ _ _ _ _ _ us hl => match us, hl with | [_, _], _ => rfl
  have BSizeErrorinit := FSizeErrorinit.binds (ps := ["self", "value"]) fun _ _ _ _ _ _ us hl => match us, hl with | [_, _], _ => rfl
  have LcC : Cls K C := ⟨pgC, hdC, poC, saC⟩
  have gC := PySem.W.mg_of X G aC
  have MPipelineinit : Meth K C "__init__" f16 := ⟨a16, i16, k16⟩
  have KC : Mk K C f16 := ⟨mkC, a16, i16, kcC⟩
  refine ⟨PySem.W.fnOf "law" "law" (defArgs slaw) (defBody slaw) (defScope slaw) .none kV15 dc15 pm15 an15 cd15 ct15, fun s v => .of_eq rfl, fun base _ _ => ?_⟩
  have gnamed_rows := PySem.W.mg_of X G a1
  have ghas_right_numbers := PySem.W.mg_of X G a2
  have gis_step := PySem.W.mg_of X G a3
  have gis_right := PySem.W.mg_of X G a4
  have g_law_pool := PySem.W.mg_of X G a5
  have g_law_draw := PySem.W.mg_of X G a6
  have g_law_lesser := PySem.W.mg_of X G a7
  have g_law_window := PySem.W.mg_of X G a8
  have g_law_joined := PySem.W.mg_of X G a9
  have g_law_steps := PySem.W.mg_of X G a10
  have g_law_told := PySem.W.mg_of X G a11
  have g_law_is_step := PySem.W.mg_of X G a12
  have g_law_bent := PySem.W.mg_of X G a13
  have g_law_right := PySem.W.mg_of X G a14
  have gCS := PySem.W.mg_of X G aCS
  have gc1x := PySem.W.mg_of X G ac1x
  have gc2x := PySem.W.mg_of X G ac2x
  have gc3x := PySem.W.mg_of X G ac3x
  have gc4x := PySem.W.mg_of X G ac4x
  have gc5x := PySem.W.mg_of X G ac5x
  have gc6x := PySem.W.mg_of X G ac6x
  have gc7x := PySem.W.mg_of X G ac7x
  have gc8x := PySem.W.mg_of X G ac8x
  have gc9x := PySem.W.mg_of X G ac9x
  have gxinit := ok_xinit (P := l.prog) (w0 := w) (mg := mg) (base := base) FSizeErrorinit
  have gCI := PySem.W.mg_of X G aCI
  have oxCI : OexC K CI := ⟨⟨_, _, _, _, _, _, _, _, _, _, _, _, _, _, _, lkCI, rvCI⟩, saCI, xeCI, tyCI, kcCI⟩
  have dxCI : Xt l.prog w K mg base 1 "InvalidPipeline" CI := ⟨oxCI, vaCI, gCI, _, _, a17, tyf, gxinit, BSizeErrorinit⟩
  have exCI : ExcC K CI := ⟨gaCI, gtCI, xeCI, hdCI, ckCI, cnCI, ctCI, mrCI⟩
  have xfCI : XfC K CI := ⟨gaCI, gtCI, xeCI, hdCI⟩
  have LL : PC K mg C := ⟨LcC, nC_steps, gC⟩
  have gITEMS := PySem.W.mg_of X G aDI
  have It : Items K w DI := ⟨⟨⟨_, _, lkDI, klDI⟩, syDI⟩, ⟨_, itw, ⟨_, rfl⟩⟩, ⟨_, itr, ⟨_, rfl⟩⟩, ⟨_, itc, ⟨_, rfl⟩⟩, ⟨_, itp, ⟨_, rfl⟩⟩, ⟨_, itj, ⟨_, rfl⟩⟩, ⟨_, ito1, rfl⟩, ⟨_, ito2, rfl⟩, ⟨_, ito3, rfl⟩⟩
  have QQ : ErrP K mg CI CS c1x c2x c3x c4x c5x c6x c7x c8x c9x := ⟨gCI, gCS, gc1x, gc2x, gc3x, gc4x, gc5x, gc6x, gc7x, gc8x, gc9x, exCI, xfCI, vaCI, PySem.W.exm_ref s1 s2 s3 s4, no1, no2, yes, vee⟩
  have dnamed : Df l.prog w K mg base CX0 1 "named_rows" 1 dsNamed := ⟨_, _, _, rfl, ok_named Fnamed_rows T, gnamed_rows, Fnamed_rows.kp, Bnamed_rows⟩
  have dnums : Df l.prog w K mg base CX0 1 "has_right_numbers" 1 dsNums := ⟨_, _, _, rfl, ok_nums Fhas_right_numbers T, ghas_right_numbers, Fhas_right_numbers.kp, Bhas_right_numbers⟩
  have dist : Df l.prog w K mg base CX0 2 "is_step" 1 dsIsStepG := ⟨_, _, _, rfl, ok_isstepG Fis_step T gITEMS It dnamed dnums, gis_step, Fis_step.kp, Bis_step⟩
  have disr : Df l.prog w K mg base CX0 3 "is_right" 2 dsIsRightG := ⟨_, _, _, rfl, ok_isrightG Fis_right T dist dnamed, gis_right, Fis_right.kp, Bis_right⟩
  have gi := ok_pinitX (P := l.prog) (w0 := w) (base := base) FPipelineinit T LL disr dxCI
  have dPipeline : Ct l.prog w K mg base (L2.CX l.prog w) 4 "Pipeline" C (dsPInitX C CI) := ⟨_, _, _, gi, KC, gC, BPipelineinit⟩
  have dpool : Df l.prog w K mg base CX0 1 "_law_pool" 2 dsPool := ⟨_, _, _, rfl, ok_pool F_law_pool T, g_law_pool, F_law_pool.kp, B_law_pool⟩
  have ddraw : Df l.prog w K mg base CX0 1 "_law_draw" 2 dsDraw := ⟨_, _, _, rfl, ok_draw F_law_draw T, g_law_draw, F_law_draw.kp, B_law_draw⟩
  have dlesser : Df l.prog w K mg base CX0 1 "_law_lesser" 2 dsLesser := ⟨_, _, _, rfl, ok_lesser F_law_lesser T, g_law_lesser, F_law_lesser.kp, B_law_lesser⟩
  have dwindow : Df l.prog w K mg base CX0 2 "_law_window" 2 dsWindow := ⟨_, _, _, rfl, ok_window F_law_window T ddraw, g_law_window, F_law_window.kp, B_law_window⟩
  have djoined : Df l.prog w K mg base CX0 2 "_law_joined" 2 dsJoined := ⟨_, _, _, rfl, ok_joined F_law_joined T ddraw, g_law_joined, F_law_joined.kp, B_law_joined⟩
  have ddsteps : Df l.prog w K mg base CX0 3 "_law_steps" 2 dsDSteps := ⟨_, _, _, rfl, ok_dsteps F_law_steps T ddraw dlesser dwindow djoined, g_law_steps, F_law_steps.kp, B_law_steps⟩
  have dtold : Df l.prog w K mg base CX0 6 "_law_told" 1 dsTold := ⟨_, _, _, rfl, ok_told F_law_told T QQ dPipeline, g_law_told, F_law_told.kp, B_law_told⟩
  have disstep : Df l.prog w K mg base CX0 1 "_law_is_step" 2 dsIsStep := ⟨_, _, _, rfl, ok_isstep F_law_is_step T, g_law_is_step, F_law_is_step.kp, B_law_is_step⟩
  have dbent : Df l.prog w K mg base CX0 2 "_law_bent" 3 dsBent := ⟨_, _, _, rfl, ok_bent F_law_bent T ddraw, g_law_bent, F_law_bent.kp, B_law_bent⟩
  have dright : Df l.prog w K mg base CX0 7 "_law_right" 1 dsQRight := ⟨_, _, _, rfl, ok_qright F_law_right T ddraw ddsteps dbent disstep dtold, g_law_right, F_law_right.kp, B_law_right⟩
  exact ok_law Flaw T dpool dright dtold
end
theorem walk {l : PySem.W.OpenLaw} {q : Program} {loose : List Str} {XP : (Str → Option Value) → Heap → Prop} {YP : World → Heap → Prop} {d : DefRec} {K : Params → PySem.W.Frag} (hn : l.most = some 63) (hdf : d.params.defaults = [])
    (hY : ∀ (w : World) (h : Heap), YP w h → (K w.params).In h)
    (F : ∀ (w : World) (mg : Str → Option Value) (fa : Addr) (h : Heap), (K w.params).In h → h.Ns mainGlobals mg → mg d.name = some (.ref fa) →
      ∃ fd : FuncData, (∀ (s : Shared) (u : Value), BindsTo s fd ⟨[u], []⟩ [("script", u)]) ∧ ∀ base : Heap, (K w.params).In base → base.Ns mainGlobals mg → FnOk l.prog w (K w.params) mg base CX0 8 fa fd ["script"] (spD (K w.params) dsLaw)) :
    PySem.W.WalkO q loose XP YP l.row.toRowW d [] (fun f vs => PySem.call f vs) :=
  L2.walk_of (n := 63) (k := 8) (x := "script") (CX := fun _ => CX0) (sp := fun w => spD (K w.params) dsLaw) hn (by decide) hdf ⟨rfl, by decide, by decide⟩ hY F (fun _ _ a ns hl _ hS => law_sp hS ⟨ns, ⟨rfl, rfl, hl⟩, fun e S' h => h⟩) fun _ _ _ _ _ z => z
end My
open PySem PySem.W PyProof.Rows
set_option maxRecDepth 100000 in
set_option maxHeartbeats 0 in
theorem PySem.Challenge.cw_fitsizes_k07_errors_of_pipelines_holds : PySem.Challenge.rw_fitsizes_k07_errors_of_pipelines.Holds := by
  w_on; o_law; k_head; (case hw => w_witness2)
  k_fill
  refine My.walk (l := PySem.Challenge.rw_fitsizes_k07_errors_of_pipelines) rfl rfl (fun w h Y => PySem.W.kIn_of Y) ?F
  case F =>
    intro w mg fa h KX G hmg
    refine' My.all_mk KX G hmg ?a1 ?l1 ?c1 ?k1 ?a2 ?l2 ?c2 ?k2 ?a3 ?l3 ?c3 ?k3 ?a4 ?l4 ?c4 ?k4 ?a5 ?l5 ?c5 ?k5 ?a6 ?l6 ?c6 ?k6 ?a7 ?l7 ?c7 ?k7 ?a8 ?l8 ?c8 ?k8 ?a9 ?l9 ?c9 ?k9 ?a10 ?l10 ?c10 ?k10 ?a11 ?l11 ?c11 ?k11 ?a12 ?l12 ?c12 ?k12 ?a13 ?l13 ?c13 ?k13 ?a14 ?l14 ?c14 ?k14 ?a15 ?l15 ?c15 ?k15 ?aC ?pgC ?hdC ?poC ?saC ?mkC ?kcC ?nC_steps ?a16 ?l16 ?c16 ?k16 ?i16 ?aCS ?ac1x ?ac2x ?ac3x ?ac4x ?ac5x ?ac6x ?ac7x ?ac8x ?ac9x ?aCI ?lkCI ?rvCI ?saCI ?xeCI ?tyCI ?kcCI ?vaCI ?a17 ?l17 ?c17 ?k17 ?tyf ?gaCI ?gtCI ?hdCI ?ckCI ?cnCI ?ctCI ?mrCI ?b_len ?b_int ?b_range ?b_abs ?b_max ?b_min ?b_list ?b_isinstance ?b_tuple ?b_enumerate ?b_ValueError ?s1 ?s2 ?s3 ?s4 ?no1 ?no2 ?yes ?vee ?aDI ?lkDI ?klDI ?syDI ?itw ?itr ?itc ?itp ?itj ?ito1 ?ito2 ?ito3
    (case a1 => first | k_is | kit_is | rfl)
    (case l1 => first | k_is | kit_is | rfl)
    (case c1 => first | k_is | kit_is | rfl)
    (case k1 => first | k_is | kit_is | rfl)
    (case a2 => first | k_is | kit_is | rfl)
    (case l2 => first | k_is | kit_is | rfl)
    (case c2 => first | k_is | kit_is | rfl)
    (case k2 => first | k_is | kit_is | rfl)
    (case a3 => first | k_is | kit_is | rfl)
    (case l3 => first | k_is | kit_is | rfl)
    (case c3 => first | k_is | kit_is | rfl)
    (case k3 => first | k_is | kit_is | rfl)
    (case a4 => first | k_is | kit_is | rfl)
    (case l4 => first | k_is | kit_is | rfl)
    (case c4 => first | k_is | kit_is | rfl)
    (case k4 => first | k_is | kit_is | rfl)
    (case a5 => first | k_is | kit_is | rfl)
    (case l5 => first | k_is | kit_is | rfl)
    (case c5 => first | k_is | kit_is | rfl)
    (case k5 => first | k_is | kit_is | rfl)
    (case a6 => first | k_is | kit_is | rfl)
    (case l6 => first | k_is | kit_is | rfl)
    (case c6 => first | k_is | kit_is | rfl)
    (case k6 => first | k_is | kit_is | rfl)
    (case a7 => first | k_is | kit_is | rfl)
    (case l7 => first | k_is | kit_is | rfl)
    (case c7 => first | k_is | kit_is | rfl)
    (case k7 => first | k_is | kit_is | rfl)
    (case a8 => first | k_is | kit_is | rfl)
    (case l8 => first | k_is | kit_is | rfl)
    (case c8 => first | k_is | kit_is | rfl)
    (case k8 => first | k_is | kit_is | rfl)
    (case a9 => first | k_is | kit_is | rfl)
    (case l9 => first | k_is | kit_is | rfl)
    (case c9 => first | k_is | kit_is | rfl)
    (case k9 => first | k_is | kit_is | rfl)
    (case a10 => first | k_is | kit_is | rfl)
    (case l10 => first | k_is | kit_is | rfl)
    (case c10 => first | k_is | kit_is | rfl)
    (case k10 => first | k_is | kit_is | rfl)
    (case a11 => first | k_is | kit_is | rfl)
    (case l11 => first | k_is | kit_is | rfl)
    (case c11 => first | k_is | kit_is | rfl)
    (case k11 => first | k_is | kit_is | rfl)
    (case a12 => first | k_is | kit_is | rfl)
    (case l12 => first | k_is | kit_is | rfl)
    (case c12 => first | k_is | kit_is | rfl)
    (case k12 => first | k_is | kit_is | rfl)
    (case a13 => first | k_is | kit_is | rfl)
    (case l13 => first | k_is | kit_is | rfl)
    (case c13 => first | k_is | kit_is | rfl)
    (case k13 => first | k_is | kit_is | rfl)
    (case a14 => first | k_is | kit_is | rfl)
    (case l14 => first | k_is | kit_is | rfl)
    (case c14 => first | k_is | kit_is | rfl)
    (case k14 => first | k_is | kit_is | rfl)
    (case a15 => first | k_is | kit_is | rfl)
    (case l15 => first | k_is | kit_is | rfl)
    (case c15 => first | k_is | kit_is | rfl)
    (case k15 => first | k_is | kit_is | rfl)
    (case aC => first | k_is | kit_is | rfl)
    (case pgC => first | k_is | kit_is | rfl)
    (case hdC => first | k_is | kit_is | rfl)
    (case poC => first | k_is | kit_is | rfl)
    (case saC => first | k_is | kit_is | rfl)
    (case mkC => first | k_is | kit_is | rfl)
    (case kcC => first | k_is | kit_is | rfl)
    (case nC_steps => first | k_is | kit_is | rfl)
    (case a16 => first | k_is | kit_is | rfl)
    (case l16 => first | k_is | kit_is | rfl)
    (case c16 => first | k_is | kit_is | rfl)
    (case k16 => first | k_is | kit_is | rfl)
    (case i16 => first | k_is | kit_is | rfl)
    (case aCS => first | k_is | kit_is | rfl)
    (case ac1x => first | k_is | kit_is | rfl)
    (case ac2x => first | k_is | kit_is | rfl)
    (case ac3x => first | k_is | kit_is | rfl)
    (case ac4x => first | k_is | kit_is | rfl)
    (case ac5x => first | k_is | kit_is | rfl)
    (case ac6x => first | k_is | kit_is | rfl)
    (case ac7x => first | k_is | kit_is | rfl)
    (case ac8x => first | k_is | kit_is | rfl)
    (case ac9x => first | k_is | kit_is | rfl)
    (case aCI => first | k_is | kit_is | rfl)
    (case lkCI => first | k_is | kit_is | rfl)
    (case rvCI => first | k_is | kit_is | rfl)
    (case saCI => first | k_is | kit_is | rfl)
    (case xeCI => first | k_is | kit_is | rfl)
    (case tyCI => first | k_is | kit_is | rfl)
    (case kcCI => first | k_is | kit_is | rfl)
    (case vaCI => first | k_is | kit_is | rfl)
    (case a17 => first | k_is | kit_is | rfl)
    (case l17 => first | k_is | kit_is | rfl)
    (case c17 => first | k_is | kit_is | rfl)
    (case k17 => first | k_is | kit_is | rfl)
    (case tyf => first | k_is | kit_is | rfl)
    (case gaCI => first | k_is | kit_is | rfl)
    (case gtCI => first | k_is | kit_is | rfl)
    (case hdCI => first | k_is | kit_is | rfl)
    (case ckCI => first | k_is | kit_is | rfl)
    (case cnCI => first | k_is | kit_is | rfl)
    (case ctCI => first | k_is | kit_is | rfl)
    (case mrCI => first | k_is | kit_is | rfl)
    (case b_len => first | k_is | kit_is | rfl)
    (case b_int => first | k_is | kit_is | rfl)
    (case b_range => first | k_is | kit_is | rfl)
    (case b_abs => first | k_is | kit_is | rfl)
    (case b_max => first | k_is | kit_is | rfl)
    (case b_min => first | k_is | kit_is | rfl)
    (case b_list => first | k_is | kit_is | rfl)
    (case b_isinstance => first | k_is | kit_is | rfl)
    (case b_tuple => first | k_is | kit_is | rfl)
    (case b_enumerate => first | k_is | kit_is | rfl)
    (case b_ValueError => first | k_is | kit_is | rfl)
    (case s1 => first | k_is | kit_is | rfl)
    (case s2 => first | k_is | kit_is | rfl)
    (case s3 => first | k_is | kit_is | rfl)
    (case s4 => first | k_is | kit_is | rfl)
    (case no1 => first | k_is | kit_is | rfl)
    (case no2 => first | k_is | kit_is | rfl)
    (case yes => first | k_is | kit_is | rfl)
    (case vee => first | k_is | kit_is | rfl)
    (case aDI => first | k_is | kit_is | rfl)
    (case lkDI => first | k_is | kit_is | rfl)
    (case klDI => repeat (first | exact trivial | refine ⟨⟨_, _, rfl, rfl⟩, ?_⟩))
    (case syDI => first | k_is | kit_is | rfl)
    (case itw => first | k_is | kit_is | rfl)
    (case itr => first | k_is | kit_is | rfl)
    (case itc => first | k_is | kit_is | rfl)
    (case itp => first | k_is | kit_is | rfl)
    (case itj => first | k_is | kit_is | rfl)
    (case ito1 => first | k_is | kit_is | rfl)
    (case ito2 => first | k_is | kit_is | rfl)
    (case ito3 => first | k_is | kit_is | rfl)
#print axioms PySem.Challenge.cw_fitsizes_k07_errors_of_pipelines_holds
