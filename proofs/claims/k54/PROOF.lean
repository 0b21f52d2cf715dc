import PyProof.Rows.All
import PyProof.LongRange
import HandS.Style
import PyProof.ReprRoads
import PyProof.ReprBulk
import Wide.All
import OpenK.AllK
import Wide.FinOn
import HandS.ForMost
import HandS.ForExc
import HandS.Wide
import HandS.Property
import HandS.Gcd
import HandS.ExcInit
import HandS.IsInst
import HandS.MakeKw
import KE.KMathGC
import HandS.Conv
import KE.KExcIs
import HandS.ExcIs
import HandS.ExcField
import HandS.WordsExc
import HandS.Iter
import HandS.Walk
import KE.DataMinMax
import HandS.RevRange
import HandS.SortRule
import PyProof.Rows.SetFrom
import HandS.SetFor
import HandS.Strs
import HandS.SortInts
import HandS.SetBool
import HandS.HotCalls
import HandS.ExcCtx
import HandS.ExcInitHot
import HandS.FStr
import HandS.Text
import PyProof.FitsInt
import KE.GoesEnum
import KE.GoesMore
import KE.GoesZip
import HandS.TupMul
import HandS.NamedTupSort
import HandS.Set
import HandS.StrMore
import HandS.Star
import HandS.RaiseMore
import PyProof.FactsAll.str_0
import PyProof.FactsAll.str_4
import PyProof.FactsAll.str_5
import PyProof.FactsAll.str_6
import PyProof.FactsAll.str_7
import PyProof.FactsAll.str_8
import KE.IntTextLaws
import KE.KIntText
import HandS.Replace
import PyProof.StrOps2
import KE.KStrOpen
import HandS.ClsMeth
import PyProof.InstEq
import HandS.TryOnly
import PySem.Challenge.RW_fitsizes_k54_errors_made
set_option Elab.async false
set_option linter.all false
set_option autoImplicit false
set_option maxRecDepth 100000
/-! A calculus over the hand layer: names hold data, mutable things stand in a store, the heap is hidden. -/
namespace Gm
open PySem L2

/-! ### data -/
inductive D where
  | non | bl (b : Bool) | int (i : Int) | str (s : Str)
  | scr (ns : List Int)
  | lst (xs : List D) | tup (xs : List D)
  | obj (C : Addr) (fs : List (Str × D))
  | cls (C : Addr) | ty (n : String)
  /-- a caught error at a, its dict at dd, its value -/
  | exn (a dd : Addr) (u : D)
  /-- an error that is held: its class, its value -/
  | eob (C : Addr) (u : D)

mutual
inductive Den (K : PySem.W.Frag) (R : Hp) : V → D → Prop
  | non : Den K R .non .non
  | bl (b : Bool) : Den K R (.bl b) (.bl b)
  | int (i : Int) : Den K R (.int i) (.int i)
  | str (x : Str) : Den K R (.str x) (.str x)
  | cls (C : Addr) : Den K R (.ref C) (.cls C)
  | ty (n : String) : Den K R (.ty n) (.ty n)
  | scr {a : Addr} {ns : List Int} : SqL K R a (ns.map V.int) → Den K R (.ref a) (.scr ns)
  | lst {a : Addr} {vs : List V} {ds : List D} : R a = some (.lst vs) → Dens K R vs ds → Den K R (.ref a) (.lst ds)
  | tup {a : Addr} {vs : List V} {ds : List D} : R a = some (.tup vs) → Dens K R vs ds → Den K R (.ref a) (.tup ds)
  | obj {a C dx : Addr} {fs : List (Str × V)} {gs : List (Str × D)} : R a = some (.ins C dx fs) → DenF K R fs gs → Den K R (.ref a) (.obj C gs)
  | exn {a dd : Addr} {z : V} {u : D} : R dd = some (.xd [(("value" : Str), z)]) → Den K R z u → Den K R (.ref a) (.exn a dd u)
  | eob {a dd C : Addr} {z : V} {u : D} : R a = some (exo a C (some dd)) → R dd = some (exd dd [(("value" : Str), z)]) → Den K R z u → Den K R (.ref a) (.eob C u)
inductive Dens (K : PySem.W.Frag) (R : Hp) : List V → List D → Prop
  | nil : Dens K R [] []
  | cons {v : V} {vs : List V} {d : D} {ds : List D} : Den K R v d → Dens K R vs ds → Dens K R (v :: vs) (d :: ds)
inductive DenF (K : PySem.W.Frag) (R : Hp) : List (Str × V) → List (Str × D) → Prop
  | nil : DenF K R [] []
  | cons {x : Str} {v : V} {d : D} {fs : List (Str × V)} {gs : List (Str × D)} : Den K R v d → DenF K R fs gs → DenF K R ((x, v) :: fs) ((x, d) :: gs)
end

def Sub (R R' : Hp) : Prop := ∀ b o, R b = some o → R' b = some o
theorem Sub.refl (R : Hp) : Sub R R := fun _ _ h => h
theorem Sub.trans {R R1 R2 : Hp} (a : Sub R R1) (b : Sub R1 R2) : Sub R R2 := fun c o h => b c o (a c o h)
theorem sub_seq {K : PySem.W.Frag} {H H' : Hp} {a : Addr} {xs : List V} (e : Sub H H') (h : SqL K H a xs) : SqL K H' a xs := by
  rcases h with (h | ⟨o, h⟩) | h
  · exact .inl (.inl (e _ _ h))
  · exact .inl (.inr ⟨o, e _ _ h⟩)
  · exact .inr h

section
variable {K : PySem.W.Frag} {R R' : Hp}
mutual
theorem Den.mono (e : Sub R R') : ∀ {v : V} {d : D}, Den K R v d → Den K R' v d
  | _, _, .non => .non
  | _, _, .bl b => .bl b
  | _, _, .int i => .int i
  | _, _, .str x => .str x
  | _, _, .exn h t => .exn (e _ _ h) (Den.mono e t)
  | _, _, .eob h i t => .eob (e _ _ h) (e _ _ i) (Den.mono e t)
  | _, _, .cls C => .cls C
  | _, _, .ty n => .ty n
  | _, _, .scr h => .scr (sub_seq e h)
  | _, _, .lst h r => .lst (e _ _ h) (Dens.mono e r)
  | _, _, .tup h r => .tup (e _ _ h) (Dens.mono e r)
  | _, _, .obj h r => .obj (e _ _ h) (DenF.mono e r)
theorem Dens.mono (e : Sub R R') : ∀ {vs : List V} {ds : List D}, Dens K R vs ds → Dens K R' vs ds
  | _, _, .nil => .nil
  | _, _, .cons h r => .cons (Den.mono e h) (Dens.mono e r)
theorem DenF.mono (e : Sub R R') : ∀ {vs : List (Str × V)} {ds : List (Str × D)}, DenF K R vs ds → DenF K R' vs ds
  | _, _, .nil => .nil
  | _, _, .cons h r => .cons (Den.mono e h) (DenF.mono e r)
end
theorem Dens.len : ∀ {vs : List V} {ds : List D}, Dens K R vs ds → vs.length = ds.length
  | _, _, .nil => rfl
  | _, _, .cons _ r => congrArg (· + 1) (Dens.len r)
theorem Dens.get : ∀ {vs : List V} {ds : List D} {i : Nat} {d : D}, Dens K R vs ds → ds[i]? = some d → ∃ v, vs[i]? = some v ∧ Den K R v d
  | _, _, _, _, .nil, e => by simp at e
  | _, _, 0, _, .cons h _, e => by simp at e; subst e; exact ⟨_, rfl, h⟩
  | _, _, i + 1, _, .cons _ r, e => by
    obtain ⟨v, h1, h2⟩ := Dens.get (i := i) r (by simpa using e)
    exact ⟨v, by simpa using h1, h2⟩
theorem Dens.get2 : ∀ {vs : List V} {ds : List D} {i : Nat} {v : V}, Dens K R vs ds → vs[i]? = some v → ∃ d, ds[i]? = some d ∧ Den K R v d
  | _, _, _, _, .nil, e => by simp at e
  | _, _, 0, _, .cons h _, e => by simp at e; subst e; exact ⟨_, rfl, h⟩
  | _, _, i + 1, _, .cons _ r, e => by
    obtain ⟨v, h1, h2⟩ := Dens.get2 (i := i) r (by simpa using e)
    exact ⟨v, by simpa using h1, h2⟩
theorem Dens.append : ∀ {vs ws : List V} {ds es : List D}, Dens K R vs ds → Dens K R ws es → Dens K R (vs ++ ws) (ds ++ es)
  | _, _, _, _, .nil, s => s
  | _, _, _, _, .cons h r, s => .cons h (Dens.append r s)
theorem Dens.take : ∀ {vs : List V} {ds : List D} (n : Nat), Dens K R vs ds → Dens K R (vs.take n) (ds.take n)
  | _, _, 0, _ => by simpa using Dens.nil
  | _, _, _ + 1, .nil => .nil
  | _, _, n + 1, .cons h r => .cons h (Dens.take n r)
theorem Dens.drop : ∀ {vs : List V} {ds : List D} (n : Nat), Dens K R vs ds → Dens K R (vs.drop n) (ds.drop n)
  | _, _, 0, r => r
  | _, _, _ + 1, .nil => .nil
  | _, _, n + 1, .cons _ r => Dens.drop n r
theorem Dens.set {v : V} {d : D} (h : Den K R v d) : ∀ {vs : List V} {ds : List D} (i : Nat), Dens K R vs ds → Dens K R (vs.set i v) (ds.set i d)
  | _, _, _, .nil => .nil
  | _, _, 0, .cons _ r => .cons h r
  | _, _, i + 1, .cons h' r => .cons h' (Dens.set h i r)
theorem Dens.dropLast {vs : List V} {ds : List D} (r : Dens K R vs ds) : Dens K R vs.dropLast ds.dropLast := by
  rw [List.dropLast_eq_take, List.dropLast_eq_take, r.len]
  exact r.take _
theorem Dens.ints : ∀ {vs : List V} {ns : List Int}, Dens K R vs (ns.map D.int) → vs = ns.map V.int
  | _, [], r => by cases r; rfl
  | _, n :: ns, r => by
    cases r with
    | cons h r => cases h; rw [Dens.ints r]; rfl
theorem Dens.of_ints : ∀ (ns : List Int), Dens K R (ns.map V.int) (ns.map D.int)
  | [] => .nil
  | n :: ns => .cons (.int n) (Dens.of_ints ns)
theorem DenF.lookup {f : Str} : ∀ {fs : List (Str × V)} {gs : List (Str × D)} {d : D}, DenF K R fs gs → gs.lookup f = some d → ∃ v, fs.lookup f = some v ∧ Den K R v d
  | _, _, _, .nil, e => by simp at e
  | _, _, d, .cons (x := x) (v := v) (d := d') h r, e => by
    simp only [List.lookup_cons] at e ⊢
    cases q : (f == x) with
    | true => rw [q] at e; cases e; exact ⟨_, rfl, h⟩
    | false => rw [q] at e; exact DenF.lookup r e
theorem DenF.none {f : Str} : ∀ {fs : List (Str × V)} {gs : List (Str × D)}, DenF K R fs gs → gs.lookup f = none → fs.lookup f = none
  | _, _, .nil, _ => rfl
  | _, _, .cons (x := x) (v := v) (d := d') h r, e => by
    simp only [List.lookup_cons] at e ⊢
    cases q : (f == x) with
    | true => rw [q] at e; cases e
    | false => rw [q] at e; exact DenF.none r e
theorem DenF.len : ∀ {fs : List (Str × V)} {gs : List (Str × D)}, DenF K R fs gs → fs.length = gs.length
  | _, _, .nil => rfl
  | _, _, .cons _ r => congrArg (· + 1) (DenF.len r)
/-- a field stored, over data -/
def putG (f : Str) (d : D) : List (Str × D) → List (Str × D)
  | [] => [(f, d)]
  | (x, e) :: r => if x = f then (x, d) :: r else (x, e) :: putG f d r
theorem DenF.put {f : Str} {v : V} {d : D} (h : Den K R v d) : ∀ {fs : List (Str × V)} {gs : List (Str × D)}, DenF K R fs gs → DenF K R (putF f v fs) (putG f d gs)
  | _, _, .nil => .cons h .nil
  | _, _, .cons (x := x) (v := w) (d := e) (fs := fs) (gs := gs) h' r => by
    show DenF K R (if x = f then (x, v) :: fs else (x, w) :: putF f v fs) (if x = f then (x, d) :: gs else (x, e) :: putG f d gs)
    by_cases q : x = f
    · rw [if_pos q, if_pos q]; exact .cons h r
    · rw [if_neg q, if_neg q]; exact .cons h' (DenF.put h r)
end

/-! ### the store -/
inductive Own where
  | lst (xs : List D) | ins (C : Addr) (fs : List (Str × D)) | gone
  /-- a dict with texts as keys; a list that stands at g -/
  | dct (gs : List (Str × D)) | lat (g : Addr) (xs : List D)
  /-- a dict whose keys are pairs of numbers (what stands there is not told) -/
  | sn (ps : List (Int × Int))
inductive Ent where
  | d (x : D) | own (i : Nat) | tup (es : List Ent)

structure Wd where
  K : PySem.W.Frag
  R0 : Hp
  H0 : Hp
  as0 : List Addr

/-- the pairs of a dict whose keys are texts -/
def DenK (K : PySem.W.Frag) (R : Hp) : List (L2.Key × V) → List (Str × D) → Prop
  | [], [] => True
  | p :: ps, q :: qs => p.1 = .inr q.1 ∧ Den K R p.2 q.2 ∧ DenK K R ps qs
  | _, _ => False
theorem DenK.mono {K : PySem.W.Frag} {R R' : Hp} (r : Sub R R') : ∀ {ps : List (L2.Key × V)} {qs : List (Str × D)}, DenK K R ps qs → DenK K R' ps qs
  | [], [], _ => trivial
  | _ :: _, _ :: _, ⟨a, b, c⟩ => ⟨a, b.mono r, c.mono r⟩
  | [], _ :: _, h => h.elim
  | _ :: _, [], h => h.elim
def RegOk (K : PySem.W.Frag) (R H : Hp) (a : Addr) : Own → Prop
  | .lst xs => R a = none ∧ ∃ vs, H a = some (.lst vs) ∧ Dens K R vs xs
  | .ins C gs => R a = none ∧ ∃ dx fs, H a = some (.ins C dx fs) ∧ DenF K R fs gs
  | .gone => True
  | .dct gs => R a = none ∧ ∃ kvs, H a = some (.dK kvs) ∧ DenK K R kvs gs
  | .lat g xs => a = g ∧ R a = none ∧ ∃ vs, H a = some (.lst vs) ∧ Dens K R vs xs
  | .sn ps => R a = none ∧ ∃ kvs : List (List L2.Key × V), H a = some (.dT kvs) ∧ kvs.map (·.1) = ps.map fun p => [.inl p.1, .inl p.2]

structure Rel (w : Wd) (R H : Hp) (as : List Addr) (S : List Own) : Prop where
  r0 : Sub w.R0 R
  sub : Sub R H
  keep : ∀ b o, w.H0 b = some o → b ∉ w.as0 → H b = some o
  there : ∀ b, H b = none → w.H0 b = none
  pre : ∀ (i : Nat) (a : Addr), w.as0[i]? = some a → as[i]? = some a
  orig : ∀ b o, R b = some o → w.R0 b = some o ∨ w.H0 b = none ∨ b ∈ w.as0
  len : as.length = S.length
  reg : ∀ (i : Nat) (o : Own) (a : Addr), S[i]? = some o → as[i]? = some a → o ≠ .gone → RegOk w.K R H a o ∧ (w.H0 a = none ∨ a ∈ w.as0)
  dist : ∀ (i j : Nat) (a : Addr) (o u : Own), S[i]? = some o → S[j]? = some u → o ≠ .gone → u ≠ .gone → as[i]? = some a → as[j]? = some a → i = j

mutual
def EntOk (K : PySem.W.Frag) (R : Hp) (as : List Addr) : V → Ent → Prop
  | v, .d x => Den K R v x
  | v, .own i => ∃ a, as[i]? = some a ∧ v = .ref a
  | v, .tup es => ∃ a vs, v = .ref a ∧ R a = some (.tup vs) ∧ EntsOk K R as vs es
def EntsOk (K : PySem.W.Frag) (R : Hp) (as : List Addr) : List V → List Ent → Prop
  | [], [] => True
  | v :: vs, e :: es => EntOk K R as v e ∧ EntsOk K R as vs es
  | _, _ => False
end
def Pre (as as' : List Addr) : Prop := ∀ (i : Nat) (a : Addr), as[i]? = some a → as'[i]? = some a
theorem Pre.refl (as : List Addr) : Pre as as := fun _ _ h => h
theorem Pre.trans {a b c : List Addr} (h : Pre a b) (k : Pre b c) : Pre a c := fun i x e => k i x (h i x e)
theorem Pre.app (as bs : List Addr) : Pre as (as ++ bs) := fun i a h => by
  have := (List.getElem?_eq_some_iff.mp h).1
  rw [List.getElem?_append_left this]; exact h
mutual
theorem EntOk.mono {K : PySem.W.Frag} {R R' : Hp} {as as' : List Addr} (r : Sub R R') (p : Pre as as') : ∀ {v : V} {e : Ent}, EntOk K R as v e → EntOk K R' as' v e
  | _, .d _, h => Den.mono r h
  | _, .own _, ⟨a, h1, h2⟩ => ⟨a, p _ _ h1, h2⟩
  | _, .tup _, ⟨a, vs, h1, h2, h3⟩ => ⟨a, vs, h1, r _ _ h2, EntsOk.mono r p h3⟩
theorem EntsOk.mono {K : PySem.W.Frag} {R R' : Hp} {as as' : List Addr} (r : Sub R R') (p : Pre as as') : ∀ {vs : List V} {es : List Ent}, EntsOk K R as vs es → EntsOk K R' as' vs es
  | [], [], _ => trivial
  | _ :: _, _ :: _, ⟨h, t⟩ => ⟨EntOk.mono r p h, EntsOk.mono r p t⟩
  | [], _ :: _, h => h.elim
  | _ :: _, [], h => h.elim
end
theorem EntOk.mo {K : PySem.W.Frag} {R R' : Hp} {as as' : List Addr} {v : V} {e : Ent} (h : EntOk K R as v e) (r : Sub R R') (p : Pre as as') : EntOk K R' as' v e := EntOk.mono r p h
theorem EntsOk.mo {K : PySem.W.Frag} {R R' : Hp} {as as' : List Addr} {vs : List V} {es : List Ent} (h : EntsOk K R as vs es) (r : Sub R R') (p : Pre as as') : EntsOk K R' as' vs es := EntsOk.mono r p h
abbrev Env := List (Option Ent)
structure Sts (K : PySem.W.Frag) (R : Hp) (as : List Addr) (σ : St) (Γ : Env) : Prop where
  len : σ.length = Γ.length
  get : ∀ (i : Nat) (e : Ent), Γ[i]? = some (some e) → ∃ v, σ[i]? = some (some v) ∧ EntOk K R as v e
theorem Sts.mono {K : PySem.W.Frag} {R R' : Hp} {as as' : List Addr} {σ : St} {Γ : Env} (h : Sts K R as σ Γ) (r : Sub R R') (p : Pre as as') : Sts K R' as' σ Γ :=
  ⟨h.len, fun i e q => let ⟨v, h1, h2⟩ := h.get i e q; ⟨v, h1, h2.mo r p⟩⟩
theorem Sts.set {K : PySem.W.Frag} {R : Hp} {as : List Addr} {σ : St} {Γ : Env} {v : V} {e : Ent} (h : Sts K R as σ Γ) (i : Nat) (q : EntOk K R as v e) : Sts K R as (σ.set i (some v)) (Γ.set i (some e)) := by
  refine ⟨by rw [List.length_set, List.length_set]; exact h.len, fun j u hj => ?_⟩
  by_cases hij : i = j
  · subst hij
    have hlt : i < Γ.length := by
      have := (List.getElem?_eq_some_iff.mp hj).1
      rw [List.length_set] at this; exact this
    rw [List.getElem?_set_self hlt] at hj
    cases hj
    exact ⟨v, List.getElem?_set_self (by rw [h.len]; exact hlt), q⟩
  · rw [List.getElem?_set_ne hij] at hj
    obtain ⟨x, h1, h2⟩ := h.get j u hj
    exact ⟨x, by rw [List.getElem?_set_ne hij]; exact h1, h2⟩
theorem Sts.wipe1 {K : PySem.W.Frag} {R : Hp} {as : List Addr} {σ : St} {Γ : Env} (h : Sts K R as σ Γ) (i : Nat) : Sts K R as (σ.set i none) (Γ.set i none) := by
  refine ⟨by rw [List.length_set, List.length_set]; exact h.len, fun j u hj => ?_⟩
  by_cases hij : i = j
  · subst hij
    have hlt : i < Γ.length := by
      have := (List.getElem?_eq_some_iff.mp hj).1
      rw [List.length_set] at this; exact this
    rw [List.getElem?_set_self hlt] at hj
    cases hj
  · rw [List.getElem?_set_ne hij] at hj
    obtain ⟨x, h1, h2⟩ := h.get j u hj
    exact ⟨x, by rw [List.getElem?_set_ne hij]; exact h1, h2⟩
/-- slots forgotten -/
def wipeG (Γ : Env) : List Nat → Env
  | [] => Γ
  | v :: vs => (wipeG Γ vs).set v none
theorem Sts.wipe {K : PySem.W.Frag} {R : Hp} {as : List Addr} {σ : St} {Γ : Env} (h : Sts K R as σ Γ) : ∀ vs : List Nat, Sts K R as (wipe σ vs) (wipeG Γ vs)
  | [] => h
  | v :: vs => (Sts.wipe h vs).wipe1 v
theorem Sts.weak {K : PySem.W.Frag} {R : Hp} {as : List Addr} {σ : St} {Γ Γ' : Env} (h : Sts K R as σ Γ) (hl : Γ'.length = Γ.length) (g : ∀ (i : Nat) (e : Ent), Γ'[i]? = some (some e) → Γ[i]? = some (some e)) : Sts K R as σ Γ' :=
  ⟨h.len.trans hl.symm, fun i e q => h.get i e (g i e q)⟩

section
variable {w : Wd} {R H : Hp} {as : List Addr} {S : List Own}
theorem Rel.own (r : Rel w R H as S) {i : Nat} {o : Own} (h : S[i]? = some o) : ∃ a, as[i]? = some a := by
  have := (List.getElem?_eq_some_iff.mp h).1
  exact ⟨as[i]'(by rw [r.len]; exact this), List.getElem?_eq_getElem _⟩
theorem Rel.fresh (r : Rel w R H as S) {p : Addr} (h : H p = none) : R p = none ∧ w.H0 p = none := by
  refine ⟨?_, r.there p h⟩
  cases q : R p with
  | none => rfl
  | some o => rw [r.sub p o q] at h; cases h
theorem RegOk.upd_ {K : PySem.W.Frag} {R R' H H' : Hp} {a : Addr} {o : Own} (h : RegOk K R H a o) (r : Sub R R') (n : o ≠ .gone → R a = none → R' a = none) (k : o ≠ .gone → H' a = H a) : RegOk K R' H' a o := by
  cases o with
  | lst xs =>
    obtain ⟨h1, vs, h2, h3⟩ := h
    exact ⟨n (by intro z; cases z) h1, vs, by rw [k (by intro z; cases z)]; exact h2, h3.mono r⟩
  | ins C gs =>
    obtain ⟨h1, dx, fs, h2, h3⟩ := h
    exact ⟨n (by intro z; cases z) h1, dx, fs, by rw [k (by intro z; cases z)]; exact h2, h3.mono r⟩
  | gone => trivial
  | dct gs =>
    obtain ⟨h1, kvs, h2, h3⟩ := h
    exact ⟨n (by intro z; cases z) h1, kvs, by rw [k (by intro z; cases z)]; exact h2, h3.mono r⟩
  | lat g xs =>
    obtain ⟨h0, h1, vs, h2, h3⟩ := h
    exact ⟨h0, n (by intro z; cases z) h1, vs, by rw [k (by intro z; cases z)]; exact h2, h3.mono r⟩
  | sn ps =>
    obtain ⟨h1, kvs, h2, h3⟩ := h
    exact ⟨n (by intro z; cases z) h1, kvs, by rw [k (by intro z; cases z)]; exact h2, h3⟩
theorem RegOk.there {K : PySem.W.Frag} {R H : Hp} {a : Addr} {o : Own} (h : RegOk K R H a o) (n : o ≠ .gone) : R a = none ∧ ∃ u, H a = some u := by
  cases o with
  | lst xs => obtain ⟨h1, vs, h2, h3⟩ := h; exact ⟨h1, _, h2⟩
  | ins C gs => obtain ⟨h1, dx, fs, h2, h3⟩ := h; exact ⟨h1, _, h2⟩
  | gone => exact absurd rfl n
  | dct gs => obtain ⟨h1, kvs, h2, h3⟩ := h; exact ⟨h1, _, h2⟩
  | lat g xs => obtain ⟨h0, h1, vs, h2, h3⟩ := h; exact ⟨h1, _, h2⟩
  | sn ps => obtain ⟨h1, kvs, h2, h3⟩ := h; exact ⟨h1, _, h2⟩
/-- a new object, immutable from then on -/
theorem Rel.alloc (r : Rel w R H as S) {p : Addr} (hp : H p = none) (o : HO) : Rel w (upd R p o) (upd H p o) as S ∧ Sub R (upd R p o) := by
  obtain ⟨hR, h0⟩ := r.fresh hp
  have hs : Sub R (upd R p o) := fun b u e => by rw [upd_ne (ne_of_none e hR)]; exact e
  refine ⟨⟨r.r0.trans hs, fun b u e => ?_, fun b u e n => ?_, fun b e => ?_, r.pre, fun b u e => ?_, r.len, fun i u a h1 h2 h3 => ?_, r.dist⟩, hs⟩
  · by_cases hb : b = p
    · subst hb; rw [upd_same] at e; rw [upd_same]; exact e
    · rw [upd_ne hb] at e ⊢; exact r.sub b u e
  · have := r.keep b u e n
    rw [upd_ne (ne_of_none this hp)]; exact this
  · by_cases hb : b = p
    · subst hb; exact h0
    · rw [upd_ne hb] at e; exact r.there b e
  · by_cases hb : b = p
    · subst hb; exact .inr (.inl h0)
    · rw [upd_ne hb] at e; exact r.orig b u e
  · obtain ⟨g1, g2⟩ := r.reg i u a h1 h2 h3
    obtain ⟨z1, z, z2⟩ := g1.there h3
    have ne : a ≠ p := ne_of_none z2 hp
    exact ⟨g1.upd_ hs (fun _ q => by rw [upd_ne ne]; exact q) fun _ => upd_ne ne, g2⟩
/-- a new region -/
theorem Rel.allocO (r : Rel w R H as S) {p : Addr} (hp : H p = none) (u : HO) {o : Own} (ho : RegOk w.K R (upd H p u) p o) : Rel w R (upd H p u) (as ++ [p]) (S ++ [o]) := by
  obtain ⟨hR, h0⟩ := r.fresh hp
  refine ⟨r.r0, fun b u' e => ?_, fun b u' e n => ?_, fun b e => ?_, fun i a h => Pre.app _ _ i a (r.pre i a h), r.orig, by rw [List.length_append, List.length_append, r.len]; rfl, fun i o' a h1 h2 h3 => ?_, fun i j a o1 o2 h1 h2 n1 n2 a1 a2 => ?_⟩
  · rw [upd_ne (ne_of_none e hR)]; exact r.sub b u' e
  · have := r.keep b u' e n
    rw [upd_ne (ne_of_none this hp)]; exact this
  · by_cases hb : b = p
    · subst hb; exact h0
    · rw [upd_ne hb] at e; exact r.there b e
  · by_cases hi : i < S.length
    · rw [List.getElem?_append_left hi] at h1
      rw [List.getElem?_append_left (by rw [r.len]; exact hi)] at h2
      obtain ⟨g1, g2⟩ := r.reg i o' a h1 h2 h3
      obtain ⟨z1, z, z2⟩ := g1.there h3
      have ne : a ≠ p := ne_of_none z2 hp
      exact ⟨g1.upd_ (Sub.refl _) (fun _ q => q) fun _ => upd_ne ne, g2⟩
    · have hi' : i = S.length := by
        have := (List.getElem?_eq_some_iff.mp h1).1
        rw [List.length_append] at this; simp at this; omega
      subst hi'
      rw [List.getElem?_append_right (Nat.le_refl _)] at h1
      rw [← r.len, List.getElem?_append_right (Nat.le_refl _)] at h2
      simp at h1 h2
      subst h1 h2
      exact ⟨ho, .inl h0⟩
  · have old : ∀ (k : Nat) (q : Own), (S ++ [o])[k]? = some q → q ≠ .gone → (as ++ [p])[k]? = some a → k < S.length → a ≠ p := fun k q e1 e2 e3 hk => by
      rw [List.getElem?_append_left hk] at e1
      rw [List.getElem?_append_left (by rw [r.len]; exact hk)] at e3
      obtain ⟨z1, z, z2⟩ := (r.reg k q a e1 e3 e2).1.there e2
      exact ne_of_none z2 hp
    have new : ∀ k : Nat, (as ++ [p])[k]? = some a → ¬ k < S.length → a = p ∧ k = S.length := fun k e hk => by
      have h := (List.getElem?_eq_some_iff.mp e).1
      rw [List.length_append] at h
      simp at h
      have hk' : k = as.length := by rw [r.len] at h ⊢; omega
      subst hk'
      rw [List.getElem?_append_right (Nat.le_refl _)] at e
      simp at e
      exact ⟨e.symm, r.len⟩
    by_cases hi : i < S.length <;> by_cases hj : j < S.length
    · rw [List.getElem?_append_left hi] at h1
      rw [List.getElem?_append_left hj] at h2
      rw [List.getElem?_append_left (by rw [r.len]; exact hi)] at a1
      rw [List.getElem?_append_left (by rw [r.len]; exact hj)] at a2
      exact r.dist i j a o1 o2 h1 h2 n1 n2 a1 a2
    · exact absurd (new j a2 hj).1 (old i o1 h1 n1 a1 hi)
    · exact absurd (new i a1 hi).1 (old j o2 h2 n2 a2 hj)
    · rw [(new i a1 hi).2, (new j a2 hj).2]
/-- a region changed -/
theorem Rel.write (r : Rel w R H as S) {i : Nat} {a : Addr} {o o' : Own} {u : HO} (hi : S[i]? = some o) (ha : as[i]? = some a) (n : o ≠ .gone) (n' : o' ≠ .gone) (ho : RegOk w.K R (upd H a u) a o') : Rel w R (upd H a u) as (S.set i o') := by
  obtain ⟨g1, g2⟩ := r.reg i o a hi ha n
  obtain ⟨z1, z, z2⟩ := g1.there n
  have hlt := (List.getElem?_eq_some_iff.mp hi).1
  have setn : ∀ (k : Nat) (q : Own), (S.set i o')[k]? = some q → q ≠ .gone → ∃ q', S[k]? = some q' ∧ q' ≠ .gone := fun k q e e2 => by
    by_cases hk : i = k
    · subst hk; exact ⟨o, hi, n⟩
    · rw [List.getElem?_set_ne hk] at e; exact ⟨q, e, e2⟩
  refine ⟨r.r0, fun b u' e => ?_, fun b u' e m => ?_, fun b e => ?_, r.pre, r.orig, by rw [List.length_set]; exact r.len, fun k q b h1 h2 h3 => ?_, fun k j b o1 o2 h1 h2 n1 n2 a1 a2 => ?_⟩
  · rw [upd_ne (ne_of_none e z1)]; exact r.sub b u' e
  · have ne : b ≠ a := by
      rintro rfl
      rcases g2 with g2 | g2
      · rw [e] at g2; cases g2
      · exact m g2
    rw [upd_ne ne]; exact r.keep b u' e m
  · by_cases hb : b = a
    · subst hb; rw [upd_same] at e; cases e
    · rw [upd_ne hb] at e; exact r.there b e
  · by_cases hk : i = k
    · subst hk
      rw [List.getElem?_set_self hlt] at h1
      cases h1
      rw [ha] at h2; cases h2
      exact ⟨ho, g2⟩
    · rw [List.getElem?_set_ne hk] at h1
      obtain ⟨y1, y2⟩ := r.reg k q b h1 h2 h3
      have ne : b ≠ a := by
        rintro rfl
        exact hk (r.dist i k b o q hi h1 n h3 ha h2)
      exact ⟨y1.upd_ (Sub.refl _) (fun _ q => q) fun _ => upd_ne ne, y2⟩
  · obtain ⟨q1, e1, m1⟩ := setn k o1 h1 n1
    obtain ⟨q2, e2, m2⟩ := setn j o2 h2 n2
    exact r.dist k j b q1 q2 e1 e2 m1 m2 a1 a2
/-- a region becomes data -/
theorem Rel.freeze (r : Rel w R H as S) {i : Nat} {a : Addr} {o : Own} {u : HO} (hi : S[i]? = some o) (ha : as[i]? = some a) (n : o ≠ .gone) (hu : H a = some u) : Rel w (upd R a u) H as (S.set i .gone) ∧ Sub R (upd R a u) := by
  obtain ⟨g1, g2⟩ := r.reg i o a hi ha n
  obtain ⟨z1, z, z2⟩ := g1.there n
  have hlt := (List.getElem?_eq_some_iff.mp hi).1
  have hs : Sub R (upd R a u) := fun b u' e => by rw [upd_ne (ne_of_none e z1)]; exact e
  have setn : ∀ (k : Nat) (q : Own), (S.set i .gone)[k]? = some q → q ≠ .gone → S[k]? = some q ∧ i ≠ k := fun k q e e2 => by
    by_cases hk : i = k
    · subst hk
      rw [List.getElem?_set_self hlt] at e
      cases e; exact absurd rfl e2
    · rw [List.getElem?_set_ne hk] at e; exact ⟨e, hk⟩
  refine ⟨⟨r.r0.trans hs, fun b u' e => ?_, r.keep, r.there, r.pre, fun b u' e => ?_, by rw [List.length_set]; exact r.len, fun k q b h1 h2 h3 => ?_, fun k j b o1 o2 h1 h2 n1 n2 a1 a2 => ?_⟩, hs⟩
  · by_cases hb : b = a
    · subst hb; rw [upd_same] at e; cases e; exact hu
    · rw [upd_ne hb] at e; exact r.sub b u' e
  · by_cases hb : b = a
    · subst hb; exact .inr g2
    · rw [upd_ne hb] at e; exact r.orig b u' e
  · obtain ⟨e1, hk⟩ := setn k q h1 h3
    obtain ⟨y1, y2⟩ := r.reg k q b e1 h2 h3
    have ne : b ≠ a := by
      rintro rfl
      exact hk (r.dist i k b o q hi e1 n h3 ha h2)
    exact ⟨y1.upd_ hs (fun _ q => by rw [upd_ne ne]; exact q) fun _ => rfl, y2⟩
  · exact r.dist k j b o1 o2 (setn k o1 h1 n1).1 (setn j o2 h2 n2).1 n1 n2 a1 a2
end
end Gm
namespace Gm
open PySem L2

/-! ### judgements: what a reading needs, over data -/
abbrev KE := Ent → List Own → Prop
abbrev KX := Addr → D → List Own → Prop
/-- an expression's reading t, names Γ, store S: k holds of what comes -/
def LE (w : Wd) (t : TE) (Γ : Env) (S : List Own) (k : KE) : Prop :=
  ∀ (σ : St) (R H : Hp) (as : List Addr) (Q : VK), Rel w R H as S → Sts w.K R as σ Γ →
    (∀ v e S' R' H' as', Rel w R' H' as' S' → Sub R R' → Pre as as' → EntOk w.K R' as' v e → k e S' → Q v H') → t σ H Q
theorem EntsOk.len {K : PySem.W.Frag} {R : Hp} {as : List Addr} : ∀ {vs : List V} {es : List Ent}, EntsOk K R as vs es → vs.length = es.length
  | [], [], _ => rfl
  | _ :: _, _ :: _, ⟨_, t⟩ => congrArg (· + 1) (EntsOk.len t)
def LA (w : Wd) (t : TA) (Γ : Env) (S : List Own) (k : List Ent → List Own → Prop) : Prop :=
  ∀ (σ : St) (R H : Hp) (as : List Addr) (Q : List V → Hp → Prop), Rel w R H as S → Sts w.K R as σ Γ →
    (∀ vs es S' R' H' as', Rel w R' H' as' S' → Sub R R' → Pre as as' → EntsOk w.K R' as' vs es → k es S' → Q vs H') → t σ H Q
def LT (w : Wd) (t : TT) (Γ : Env) (S : List Own) (k : Bool → List Own → Prop) : Prop :=
  ∀ (σ : St) (R H : Hp) (as : List Addr) (Q : Bool → Hp → Prop), Rel w R H as S → Sts w.K R as σ Γ →
    (∀ b S' R' H' as', Rel w R' H' as' S' → Sub R R' → Pre as as' → k b S' → Q b H') → t σ H Q
/-- an operation on two values; on one; a call of a built-in on values -/
def RR (w : Wd) (r : R2) (x y : Ent) (S : List Own) (k : KE) : Prop :=
  ∀ (R H : Hp) (as : List Addr) (u v : V) (Q : VK), Rel w R H as S → EntOk w.K R as u x → EntOk w.K R as v y →
    (∀ v e S' R' H' as', Rel w R' H' as' S' → Sub R R' → Pre as as' → EntOk w.K R' as' v e → k e S' → Q v H') → r u v H Q
def R1 (w : Wd) (r : V → Hp → VK → Prop) (x : Ent) (S : List Own) (k : KE) : Prop :=
  ∀ (R H : Hp) (as : List Addr) (u : V) (Q : VK), Rel w R H as S → EntOk w.K R as u x →
    (∀ v e S' R' H' as', Rel w R' H' as' S' → Sub R R' → Pre as as' → EntOk w.K R' as' v e → k e S' → Q v H') → r u H Q
def RC (w : Wd) (r : List V → Hp → VK → Prop) (xs : List Ent) (S : List Own) (k : KE) : Prop :=
  ∀ (R H : Hp) (as : List Addr) (us : List V) (Q : VK), Rel w R H as S → EntsOk w.K R as us xs →
    (∀ v e S' R' H' as', Rel w R' H' as' S' → Sub R R' → Pre as as' → EntOk w.K R' as' v e → k e S' → Q v H') → r us H Q
/-- a method of a built-in type, on the receiver and the arguments -/
def RM (w : Wd) (r : V → List V → Hp → VK → Prop) (x : Ent) (xs : List Ent) (S : List Own) (k : KE) : Prop :=
  ∀ (R H : Hp) (as : List Addr) (u : V) (us : List V) (Q : VK), Rel w R H as S → EntOk w.K R as u x → EntsOk w.K R as us xs →
    (∀ v e S' R' H' as', Rel w R' H' as' S' → Sub R R' → Pre as as' → EntOk w.K R' as' v e → k e S' → Q v H') → r u us H Q
structure GE where
  nx : Env → List Own → Prop
  rt : KE
  bk : Env → List Own → Prop := fun _ _ => False
  ct : Env → List Own → Prop := fun _ _ => False
structure EndsOk (w : Wd) (Rb : Hp) (G : GE) (D : Ends) : Prop where
  nx : ∀ Γ S σ R H as, Sub Rb R → Rel w R H as S → Sts w.K R as σ Γ → G.nx Γ S → D.nx σ H
  rt : ∀ v e S R H as, Sub Rb R → Rel w R H as S → EntOk w.K R as v e → G.rt e S → D.rt v H
  bk : ∀ Γ S σ R H as, Sub Rb R → Rel w R H as S → Sts w.K R as σ Γ → G.bk Γ S → D.bk σ H
  ct : ∀ Γ S σ R H as, Sub Rb R → Rel w R H as S → Sts w.K R as σ Γ → G.ct Γ S → D.ct σ H
theorem EndsOk.up {w : Wd} {Ra Rb : Hp} {G : GE} {D : Ends} (e : EndsOk w Ra G D) (h : Sub Ra Rb) : EndsOk w Rb G D :=
  ⟨fun Γ S σ R H as s => e.nx Γ S σ R H as (h.trans s), fun v x S R H as s => e.rt v x S R H as (h.trans s), fun Γ S σ R H as s => e.bk Γ S σ R H as (h.trans s), fun Γ S σ R H as s => e.ct Γ S σ R H as (h.trans s)⟩
def LS (w : Wd) (t : TS) (Γ : Env) (S : List Own) (G : GE) : Prop :=
  ∀ (D : Ends) (σ : St) (R H : Hp) (as : List Addr), Rel w R H as S → Sts w.K R as σ Γ → EndsOk w R G D → t D σ H
/-- an assignment's target -/
def LG (w : Wd) (g : TG) (e : Ent) (Γ : Env) (S : List Own) (k : Env → List Own → Prop) : Prop :=
  ∀ (v : V) (σ : St) (R H : Hp) (as : List Addr) (Q : St → Hp → Prop), Rel w R H as S → Sts w.K R as σ Γ → EntOk w.K R as v e →
    (∀ Γ' S' σ' R' H' as', Rel w R' H' as' S' → Sub R R' → Pre as as' → Sts w.K R' as' σ' Γ' → k Γ' S' → Q σ' H') → g v σ H Q

section
variable {w : Wd} {Γ : Env} {S : List Own} {k : KE} {ta tb te : TE} {G : GE}

/-! ### expressions -/
theorem ok_own {K : PySem.W.Frag} {R : Hp} {as : List Addr} {i : Nat} {a : Addr} (h : as[i]? = some a) : EntOk K R as (.ref a) (.own i) := ⟨a, h, rfl⟩
theorem ok_d {K : PySem.W.Frag} {R : Hp} {as : List Addr} {v : V} {x : D} (h : Den K R v x) : EntOk K R as v (.d x) := h
theorem le_var {i : Nat} {e : Ent} (h : Γ[i]? = some (some e)) (q : k e S) : LE w (tVar i) Γ S k := fun σ R H as Q r s c => by
  obtain ⟨v, h1, h2⟩ := s.get i e h
  exact ⟨v, h1, c v e S R H as r (Sub.refl _) (Pre.refl _) h2 q⟩
theorem le_int {i : Int} (q : k (.d (.int i)) S) : LE w (tC (.int i)) Γ S k := fun σ R H as Q r s c => c _ _ S R H as r (Sub.refl _) (Pre.refl _) (ok_d (Den.int i)) q
theorem le_bl {b : Bool} (q : k (.d (.bl b)) S) : LE w (tC (.bl b)) Γ S k := fun σ R H as Q r s c => c _ _ S R H as r (Sub.refl _) (Pre.refl _) (ok_d (Den.bl b)) q
theorem le_str {x : Str} (q : k (.d (.str x)) S) : LE w (tC (.str x)) Γ S k := fun σ R H as Q r s c => c _ _ S R H as r (Sub.refl _) (Pre.refl _) (ok_d (Den.str x)) q
theorem le_non (q : k (.d .non) S) : LE w (tC .non) Γ S k := fun σ R H as Q r s c => c _ _ S R H as r (Sub.refl _) (Pre.refl _) (ok_d Den.non) q
theorem le_cls {C : Addr} (q : k (.d (.cls C)) S) : LE w (tC (.ref C)) Γ S k := fun σ R H as Q r s c => c _ _ S R H as r (Sub.refl _) (Pre.refl _) (ok_d (Den.cls C)) q
theorem le_ty {n : String} (q : k (.d (.ty n)) S) : LE w (tC (.ty n)) Γ S k := fun σ R H as Q r s c => c _ _ S R H as r (Sub.refl _) (Pre.refl _) (ok_d (Den.ty n)) q
theorem le_op {r : R2} (h : LE w ta Γ S fun x S1 => LE w tb Γ S1 fun y S2 => RR w r x y S2 k) : LE w (tOp r ta tb) Γ S k := fun σ R H as Q rl s c =>
  h σ R H as _ rl s fun v e S1 R1 H1 as1 rl1 s1 p1 e1 h1 => h1 σ R1 H1 as1 _ rl1 (s.mono s1 p1) fun v2 e2 S2 R2 H2 as2 rl2 s2 p2 e2' h2 =>
    h2 R2 H2 as2 v v2 Q rl2 (e1.mono s2 p2) e2' fun v' e' S' R' H' as' a1 a2 a3 a4 a5 => c v' e' S' R' H' as' a1 ((s1.trans s2).trans a2) ((p1.trans p2).trans a3) a4 a5
theorem le_un {r : V → Hp → VK → Prop} (h : LE w ta Γ S fun x S1 => R1 w r x S1 k) : LE w (tUn r ta) Γ S k := fun σ R H as Q rl s c =>
  h σ R H as _ rl s fun v e S1 R1 H1 as1 rl1 s1 p1 e1 h1 => h1 R1 H1 as1 v Q rl1 e1 fun v' e' S' R' H' as' a1 a2 a3 a4 a5 => c v' e' S' R' H' as' a1 (s1.trans a2) (p1.trans a3) a4 a5
theorem la_nil {k : List Ent → List Own → Prop} (q : k [] S) : LA w tNil Γ S k := fun σ R H as Q rl s c => c [] [] S R H as rl (Sub.refl _) (Pre.refl _) trivial q
theorem la_cons {tr : TA} {k : List Ent → List Own → Prop} (h : LE w ta Γ S fun x S1 => LA w tr Γ S1 fun xs S2 => k (x :: xs) S2) : LA w (tCons ta tr) Γ S k := fun σ R H as Q rl s c =>
  h σ R H as _ rl s fun v e S1 R1 H1 as1 rl1 s1 p1 e1 h1 => h1 σ R1 H1 as1 _ rl1 (s.mono s1 p1) fun vs es S2 R2 H2 as2 rl2 s2 p2 es2 h2 =>
    c (v :: vs) (e :: es) S2 R2 H2 as2 rl2 (s1.trans s2) (p1.trans p2) ⟨e1.mono s2 p2, es2⟩ h2
theorem le_cb {r : List V → Hp → VK → Prop} {t : TA} (h : LA w t Γ S fun xs S1 => RC w r xs S1 k) : LE w (tCB r t) Γ S k := fun σ R H as Q rl s c =>
  h σ R H as _ rl s fun vs es S1 R1 H1 as1 rl1 s1 p1 e1 h1 => h1 R1 H1 as1 vs Q rl1 e1 fun v' e' S' R' H' as' a1 a2 a3 a4 a5 => c v' e' S' R' H' as' a1 (s1.trans a2) (p1.trans a3) a4 a5
theorem le_if {t : TT} (h : LT w t Γ S fun b S1 => (b = true → LE w ta Γ S1 k) ∧ (b = false → LE w tb Γ S1 k)) : LE w (tIf t ta tb) Γ S k := fun σ R H as Q rl s c =>
  h σ R H as _ rl s fun b S1 R1 H1 as1 rl1 s1 p1 h1 => by
    cases b with
    | true => exact h1.1 rfl σ R1 H1 as1 Q rl1 (s.mono s1 p1) fun v' e' S' R' H' as' a1 a2 a3 a4 a5 => c v' e' S' R' H' as' a1 (s1.trans a2) (p1.trans a3) a4 a5
    | false => exact h1.2 rfl σ R1 H1 as1 Q rl1 (s.mono s1 p1) fun v' e' S' R' H' as' a1 a2 a3 a4 a5 => c v' e' S' R' H' as' a1 (s1.trans a2) (p1.trans a3) a4 a5
theorem le_mono {k' : KE} (h : LE w te Γ S k) (q : ∀ e S', k e S' → k' e S') : LE w te Γ S k' := fun σ R H as Q rl s c =>
  h σ R H as Q rl s fun v' e' S' R' H' as' a1 a2 a3 a4 a5 => c v' e' S' R' H' as' a1 a2 a3 a4 (q _ _ a5)

/-! ### operations on values -/
theorem rr_int0 {f : Int → Int → Int} {i j : Int} (q : k (.d (.int (f i j))) S) : RR w (rI0 fun i j => .int (f i j)) (.d (.int i)) (.d (.int j)) S k := fun R H as u v Q rl hu hv c => by
  cases hu; cases hv
  exact ⟨i, j, rfl, rfl, c _ _ S R H as rl (Sub.refl _) (Pre.refl _) (ok_d (Den.int _)) q⟩
theorem rr_bl0 {f : Int → Int → Bool} {i j : Int} (q : k (.d (.bl (f i j))) S) : RR w (rI0 fun i j => .bl (f i j)) (.d (.int i)) (.d (.int j)) S k := fun R H as u v Q rl hu hv c => by
  cases hu; cases hv
  exact ⟨i, j, rfl, rfl, c _ _ S R H as rl (Sub.refl _) (Pre.refl _) (ok_d (Den.bl _)) q⟩
theorem rr_int {C : Int → Int → Prop} {f : Int → Int → Int} {i j : Int} (hc : C i j) (q : k (.d (.int (f i j))) S) : RR w (rI C fun i j => .int (f i j)) (.d (.int i)) (.d (.int j)) S k := fun R H as u v Q rl hu hv c => by
  cases hu; cases hv
  exact ⟨i, j, rfl, rfl, hc, c _ _ S R H as rl (Sub.refl _) (Pre.refl _) (ok_d (Den.int _)) q⟩
theorem r1_int {f : Int → Int} {i : Int} (q : k (.d (.int (f i))) S) : R1 w (rU fun i => .int (f i)) (.d (.int i)) S k := fun R H as u Q rl hu c => by
  cases hu
  exact ⟨i, rfl, c _ _ S R H as rl (Sub.refl _) (Pre.refl _) (ok_d (Den.int _)) q⟩
/-- == of plain things -/
def flatD : D → Option V
  | .non => some .non
  | .bl b => some (.bl b)
  | .int i => some (.int i)
  | .str x => some (.str x)
  | _ => none
theorem flat_den {K : PySem.W.Frag} {R : Hp} {v u : V} {d : D} (h : flatD d = some u) (r : Den K R v d) : v = u := by
  cases r <;> simp [flatD] at h <;> exact h
theorem rr_eq {x y : D} {u v : V} (hx : flatD x = some u) (hy : flatD y = some v) (hs : scal u v = true) (q : k (.d (.bl (decide (u = v)))) S) : RR w rEq (.d x) (.d y) S k := fun R H as u' v' Q rl hu hv c => by
  cases flat_den hx hu; cases flat_den hy hv
  exact ⟨hs, c _ _ S R H as rl (Sub.refl _) (Pre.refl _) (ok_d (Den.bl _)) q⟩
theorem rr_ne {x y : D} {u v : V} (hx : flatD x = some u) (hy : flatD y = some v) (hs : scal u v = true) (q : k (.d (.bl (!decide (u = v)))) S) : RR w rNe (.d x) (.d y) S k := fun R H as u' v' Q rl hu hv c => by
  cases flat_den hx hu; cases flat_den hy hv
  exact ⟨hs, c _ _ S R H as rl (Sub.refl _) (Pre.refl _) (ok_d (Den.bl _)) q⟩
def isN : D → Bool | .non => true | _ => false
theorem den_non {K : PySem.W.Frag} {R : Hp} {v : V} {d : D} (r : Den K R v d) : decide (v = .non) = isN d := by
  cases r <;> simp [isN]
abbrev rIsNon : R2 := fun x y H Q => y = .non ∧ Q (.bl (decide (x = .non))) H
abbrev rNotNon : R2 := fun x y H Q => y = .non ∧ Q (.bl (!decide (x = .non))) H
theorem rr_isN {x : D} (q : k (.d (.bl (isN x))) S) : RR w rIsNon (.d x) (.d .non) S k := fun R H as u' v' Q rl hu hv c => by
  cases hv
  refine ⟨rfl, ?_⟩
  rw [den_non hu]
  exact c _ _ S R H as rl (Sub.refl _) (Pre.refl _) (ok_d (Den.bl _)) q
theorem rr_notN {x : D} (q : k (.d (.bl (!isN x))) S) : RR w rNotNon (.d x) (.d .non) S k := fun R H as u' v' Q rl hu hv c => by
  cases hv
  refine ⟨rfl, ?_⟩
  rw [den_non hu]
  exact c _ _ S R H as rl (Sub.refl _) (Pre.refl _) (ok_d (Den.bl _)) q
/-! indexing -/
theorem atI_map {α β : Type} {xs : List α} {ys : List β} (hl : xs.length = ys.length) {i : Int} {j : Nat} (h : ixN ys.length i = some j) {v : α} (hv : xs[j]? = some v) : atI xs i = some v := by
  unfold atI
  rw [hl, h]
  exact hv
theorem atI_ix {ds : List D} {i : Int} {d : D} (h : atI ds i = some d) : ∃ j, ixN ds.length i = some j ∧ ds[j]? = some d := by
  unfold atI at h
  cases q : ixN ds.length i with
  | none => rw [q] at h; cases h
  | some j => rw [q] at h; exact ⟨j, rfl, h⟩
theorem rr_ixL {ds : List D} {i : Int} {d : D} (h : atI ds i = some d) (q : k (.d d) S) : RR w (rIxL w.K) (.d (.lst ds)) (.d (.int i)) S k := fun R H as u' v' Q rl hu hv c => by
  cases hv
  obtain ⟨j, h1, h2⟩ := atI_ix h
  cases hu with
  | lst ha hd =>
    obtain ⟨v, e1, e2⟩ := hd.get h2
    exact ⟨_, _, i, v, rfl, rfl, SqL.of (rl.sub _ _ ha), atI_map hd.len h1 e1, c _ _ S R H as rl (Sub.refl _) (Pre.refl _) (ok_d e2) q⟩
theorem rr_ixS {ns : List Int} {i n : Int} (h : atI ns i = some n) (q : k (.d (.int n)) S) : RR w (rIxL w.K) (.d (.scr ns)) (.d (.int i)) S k := fun R H as u' v' Q rl hu hv c => by
  cases hv
  cases hu with
  | scr ha =>
    refine ⟨_, _, i, .int n, rfl, rfl, sub_seq rl.sub ha, ?_, c _ _ S R H as rl (Sub.refl _) (Pre.refl _) (ok_d (Den.int n)) q⟩
    unfold atI at h ⊢
    rw [List.length_map]
    cases q : ixN ns.length i with
    | none => rw [q] at h; cases h
    | some j => rw [q] at h; show (ns.map V.int)[j]? = _; rw [List.getElem?_map, show ns[j]? = some n from h]; rfl
theorem rr_ixT {ds : List D} {i : Int} {d : D} (h : atI ds i = some d) (q : k (.d d) S) : RR w (rIxT w.K) (.d (.tup ds)) (.d (.int i)) S k := fun R H as u' v' Q rl hu hv c => by
  cases hv
  obtain ⟨j, h1, h2⟩ := atI_ix h
  cases hu with
  | tup ha hd =>
    obtain ⟨v, e1, e2⟩ := hd.get h2
    exact ⟨_, _, i, v, rfl, rfl, SqT.of (rl.sub _ _ ha), atI_map hd.len h1 e1, c _ _ S R H as rl (Sub.refl _) (Pre.refl _) (ok_d e2) q⟩
/-- an item of a list of the store -/
theorem rr_ixO {ds : List D} {n : Nat} {i : Int} {d : D} (hn : S[n]? = some (.lst ds)) (h : atI ds i = some d) (q : k (.d d) S) : RR w (rIxL w.K) (.own n) (.d (.int i)) S k := fun R H as u' v' Q rl hu hv c => by
  cases hv
  obtain ⟨a, ha, rfl⟩ := hu
  obtain ⟨⟨z, vs, e, hd⟩, _⟩ := rl.reg n _ a hn ha (by intro z; cases z)
  obtain ⟨j, h1, h2⟩ := atI_ix h
  obtain ⟨v, e1, e2⟩ := hd.get h2
  exact ⟨_, _, i, v, rfl, rfl, SqL.of e, atI_map hd.len h1 e1, c _ _ S R H as rl (Sub.refl _) (Pre.refl _) (ok_d e2) q⟩
/-! displays -/
def Ent.ds : List Ent → Option (List D)
  | [] => some []
  | .d x :: es => (Ent.ds es).map (x :: ·)
  | .own _ :: _ => none
  | .tup _ :: _ => none
theorem ents_ds {K : PySem.W.Frag} {R : Hp} {as : List Addr} : ∀ {vs : List V} {es : List Ent} {ds : List D}, EntsOk K R as vs es → Ent.ds es = some ds → Dens K R vs ds
  | [], [], _, _, e => by cases e; exact .nil
  | v :: vs, .d x :: es, ds, ⟨h, t⟩, e => by
    cases q : Ent.ds es with
    | none => simp [Ent.ds, q] at e
    | some r => simp [Ent.ds, q] at e; subst e; exact .cons h (ents_ds t q)
  | v :: vs, .own i :: es, ds, _, e => by simp [Ent.ds] at e
  | v :: vs, .tup _ :: es, ds, _, e => by simp [Ent.ds] at e
  | [], _ :: _, _, h, _ => h.elim
  | _ :: _, [], _, h, _ => h.elim
theorem le_lst {t : TA} (h : LA w t Γ S fun es S1 => ∃ ds, Ent.ds es = some ds ∧ ds.length ≤ sizeLine ∧ k (.d (.lst ds)) S1) : LE w (tLst t) Γ S k := fun σ R H as Q rl s c =>
  h σ R H as _ rl s fun vs es S1 R1 H1 as1 rl1 s1 p1 e1 ⟨ds, h1, h2, h3⟩ => by
    have hd := ents_ds e1 h1
    refine ⟨by rw [hd.len]; exact h2, fun p hp => ?_⟩
    obtain ⟨rl2, s2⟩ := rl1.alloc hp (.lst vs)
    exact c _ _ S1 _ _ as1 rl2 (s1.trans s2) p1 (ok_d (Den.lst upd_same (hd.mono s2))) h3
theorem le_tup {t : TA} (h : LA w t Γ S fun es S1 => ∃ ds, Ent.ds es = some ds ∧ ds.length ≤ sizeLine ∧ k (.d (.tup ds)) S1) : LE w (tTup t) Γ S k := fun σ R H as Q rl s c =>
  h σ R H as _ rl s fun vs es S1 R1 H1 as1 rl1 s1 p1 e1 ⟨ds, h1, h2, h3⟩ => by
    have hd := ents_ds e1 h1
    refine ⟨by rw [hd.len]; exact h2, fun p hp => ?_⟩
    obtain ⟨rl2, s2⟩ := rl1.alloc hp (.tup vs)
    exact c _ _ S1 _ _ as1 rl2 (s1.trans s2) p1 (ok_d (Den.tup upd_same (hd.mono s2))) h3
/-- a tuple of anything -/
theorem le_tupE {t : TA} (h : LA w t Γ S fun es S1 => es.length ≤ sizeLine ∧ k (.tup es) S1) : LE w (tTup t) Γ S k := fun σ R H as Q rl s c =>
  h σ R H as _ rl s fun vs es S1 R1 H1 as1 rl1 s1 p1 e1 ⟨h2, h3⟩ => by
    refine ⟨by rw [e1.len]; exact h2, fun p hp => ?_⟩
    obtain ⟨rl2, s2⟩ := rl1.alloc hp (.tup vs)
    exact c _ (.tup es) S1 _ _ as1 rl2 (s1.trans s2) p1 ⟨p, vs, rfl, upd_same, e1.mono s2 (Pre.refl _)⟩ h3
/-- a list of the store made -/
theorem le_lstO {t : TA} (h : LA w t Γ S fun es S1 => ∃ ds, Ent.ds es = some ds ∧ ds.length ≤ sizeLine ∧ k (.own S1.length) (S1 ++ [.lst ds])) : LE w (tLst t) Γ S k := fun σ R H as Q rl s c =>
  h σ R H as _ rl s fun vs es S1 R1 H1 as1 rl1 s1 p1 e1 ⟨ds, h1, h2, h3⟩ => by
    have hd := ents_ds e1 h1
    refine ⟨by rw [hd.len]; exact h2, fun p hp => ?_⟩
    have hf := (rl1.fresh hp).1
    have rl2 := rl1.allocO hp (.lst vs) (o := .lst ds) ⟨hf, vs, upd_same, hd⟩
    exact c _ _ _ _ _ _ rl2 s1 (p1.trans (Pre.app _ _)) (ok_own (by rw [← rl1.len]; exact List.getElem?_concat_length)) h3


/-! ### tests -/
variable {kb : Bool → List Own → Prop} {t u : TT}
theorem lt_test (h : LE w te Γ S fun e S1 => ∃ b, e = .d (.bl b) ∧ kb b S1) : LT w (tTest te) Γ S kb := fun σ R H as Q rl s c =>
  h σ R H as _ rl s fun v e S1 R1 H1 as1 rl1 s1 p1 e1 ⟨b, h1, h2⟩ => by
    subst h1; cases e1
    exact ⟨b, rfl, c b S1 R1 H1 as1 rl1 s1 p1 h2⟩
theorem lt_tb (h : LE w te Γ S fun e S1 => ∃ b, e = .d (.bl b) ∧ kb b S1) : LT w (tB te) Γ S kb := fun σ R H as Q rl s c =>
  h σ R H as _ rl s fun v e S1 R1 H1 as1 rl1 s1 p1 e1 ⟨b, h1, h2⟩ => by
    subst h1; cases e1
    exact ⟨b, rfl, c b S1 R1 H1 as1 rl1 s1 p1 h2⟩
theorem lt_and (h : LT w t Γ S fun b S1 => (b = true → LT w u Γ S1 kb) ∧ (b = false → kb false S1)) : LT w (tAnd t u) Γ S kb := fun σ R H as Q rl s c =>
  h σ R H as _ rl s fun b S1 R1 H1 as1 rl1 s1 p1 h1 => by
    cases b with
    | true => exact h1.1 rfl σ R1 H1 as1 Q rl1 (s.mono s1 p1) fun b S' R' H' as' a1 a2 a3 a5 => c b S' R' H' as' a1 (s1.trans a2) (p1.trans a3) a5
    | false => exact c false S1 R1 H1 as1 rl1 s1 p1 (h1.2 rfl)
theorem lt_or (h : LT w t Γ S fun b S1 => (b = true → kb true S1) ∧ (b = false → LT w u Γ S1 kb)) : LT w (tOr t u) Γ S kb := fun σ R H as Q rl s c =>
  h σ R H as _ rl s fun b S1 R1 H1 as1 rl1 s1 p1 h1 => by
    cases b with
    | false => exact h1.2 rfl σ R1 H1 as1 Q rl1 (s.mono s1 p1) fun b S' R' H' as' a1 a2 a3 a5 => c b S' R' H' as' a1 (s1.trans a2) (p1.trans a3) a5
    | true => exact c true S1 R1 H1 as1 rl1 s1 p1 (h1.1 rfl)
theorem lt_not (h : LT w t Γ S fun b S1 => kb (!b) S1) : LT w (tNot t) Γ S kb := fun σ R H as Q rl s c =>
  h σ R H as _ rl s fun b S1 R1 H1 as1 rl1 s1 p1 h1 => c _ S1 R1 H1 as1 rl1 s1 p1 h1
theorem le_andV (h : LE w ta Γ S fun e S1 => ∃ b, e = .d (.bl b) ∧ (b = true → LE w tb Γ S1 k) ∧ (b = false → k (.d (.bl false)) S1)) : LE w (tAndV ta tb) Γ S k := fun σ R H as Q rl s c =>
  h σ R H as _ rl s fun v e S1 R1 H1 as1 rl1 s1 p1 e1 ⟨b, h1, h2, h3⟩ => by
    subst h1; cases e1
    refine ⟨b, rfl, ?_⟩
    cases b with
    | true => exact h2 rfl σ R1 H1 as1 Q rl1 (s.mono s1 p1) fun v' e' S' R' H' as' a1 a2 a3 a4 a5 => c v' e' S' R' H' as' a1 (s1.trans a2) (p1.trans a3) a4 a5
    | false => exact c _ _ S1 R1 H1 as1 rl1 s1 p1 (ok_d (Den.bl _)) (h3 rfl)
theorem le_orV (h : LE w ta Γ S fun e S1 => ∃ b, e = .d (.bl b) ∧ (b = true → k (.d (.bl true)) S1) ∧ (b = false → LE w tb Γ S1 k)) : LE w (tOrV ta tb) Γ S k := fun σ R H as Q rl s c =>
  h σ R H as _ rl s fun v e S1 R1 H1 as1 rl1 s1 p1 e1 ⟨b, h1, h2, h3⟩ => by
    subst h1; cases e1
    refine ⟨b, rfl, ?_⟩
    cases b with
    | false => exact h3 rfl σ R1 H1 as1 Q rl1 (s.mono s1 p1) fun v' e' S' R' H' as' a1 a2 a3 a4 a5 => c v' e' S' R' H' as' a1 (s1.trans a2) (p1.trans a3) a4 a5
    | true => exact c _ _ S1 R1 H1 as1 rl1 s1 p1 (ok_d (Den.bl _)) (h2 rfl)
theorem le_notV (h : LE w ta Γ S fun e S1 => ∃ b, e = .d (.bl b) ∧ k (.d (.bl (!b))) S1) : LE w (tNotV ta) Γ S k := fun σ R H as Q rl s c =>
  h σ R H as _ rl s fun v e S1 R1 H1 as1 rl1 s1 p1 e1 ⟨b, h1, h2⟩ => by
    subst h1; cases e1
    exact ⟨b, rfl, c _ _ S1 R1 H1 as1 rl1 s1 p1 (ok_d (Den.bl _)) h2⟩
theorem le_chain {r r' : R2} {tc : TE} (h : LE w ta Γ S fun x S1 => LE w tb Γ S1 fun y S2 => RR w r x y S2 fun z S3 => ∃ b, z = .d (.bl b) ∧ (b = true → LE w tc Γ S3 fun z' S4 => RR w r' y z' S4 k) ∧ (b = false → k (.d (.bl false)) S3)) : LE w (tChain r r' ta tb tc) Γ S k := fun σ R H as Q rl s c => by
  refine h σ R H as _ rl s fun v e S1 R1 H1 as1 rl1 s1 p1 e1 h1 => ?_
  refine h1 σ R1 H1 as1 _ rl1 (s.mono s1 p1) fun v2 e2 S2 R2 H2 as2 rl2 s2 p2 e2' h2 => ?_
  refine h2 R2 H2 as2 v v2 _ rl2 (e1.mono s2 p2) e2' fun v3 e3 S3 R3 H3 as3 rl3 s3 p3 e3' q => ?_
  obtain ⟨b, q1, q2, q3⟩ := q
  subst q1; cases e3'
  refine ⟨b, rfl, ?_⟩
  have s13 := (s1.trans s2).trans s3
  have p13 := (p1.trans p2).trans p3
  cases b with
  | true =>
    rw [if_pos rfl]
    refine q2 rfl σ R3 H3 as3 _ rl3 (s.mono s13 p13) fun v4 e4 S4 R4 H4 as4 rl4 s4 p4 e4' h4 => ?_
    exact h4 R4 H4 as4 v2 v4 Q rl4 (e2'.mono (s3.trans s4) (p3.trans p4)) e4' fun v' e' S' R' H' as' a1 a2 a3 a4 a5 => c v' e' S' R' H' as' a1 ((s13.trans s4).trans a2) ((p13.trans p4).trans a3) a4 a5
  | false =>
    rw [if_neg Bool.false_ne_true]
    exact c _ _ S3 R3 H3 as3 rl3 s13 p13 (ok_d (Den.bl _)) (q3 rfl)

/-! ### statements -/
variable {t1 t2 : TS}
theorem ls_seq (h : LS w t1 Γ S { G with nx := fun Γ1 S1 => LS w t2 Γ1 S1 G }) : LS w (tSeq t1 t2) Γ S G := fun D σ R H as rl s e =>
  h { D with nx := t2 D } σ R H as rl s ⟨fun Γ1 S1 σ1 R1 H1 as1 u r1 s1 q => q D σ1 R1 H1 as1 r1 s1 (e.up u), e.rt, e.bk, e.ct⟩
theorem ls_next (q : G.nx Γ S) : LS w tNext Γ S G := fun D σ R H as rl s e => e.nx Γ S σ R H as (Sub.refl _) rl s q
theorem ls_brk (q : G.bk Γ S) : LS w tBreak Γ S G := fun D σ R H as rl s e => e.bk Γ S σ R H as (Sub.refl _) rl s q
theorem ls_cont (q : G.ct Γ S) : LS w tCont Γ S G := fun D σ R H as rl s e => e.ct Γ S σ R H as (Sub.refl _) rl s q
theorem ls_drop (h : LE w te Γ S fun _ S1 => G.nx Γ S1) : LS w (tDrop te) Γ S G := fun D σ R H as rl s e =>
  h σ R H as _ rl s fun v x S1 R1 H1 as1 rl1 s1 p1 e1 q => e.nx Γ S1 σ R1 H1 as1 s1 rl1 (s.mono s1 p1) q
theorem ls_ret (h : LE w te Γ S G.rt) : LS w (tRet te) Γ S G := fun D σ R H as rl s e =>
  h σ R H as _ rl s fun v x S1 R1 H1 as1 rl1 s1 p1 e1 q => e.rt v x S1 R1 H1 as1 s1 rl1 e1 q
theorem ls_retN (q : G.rt (.d .non) S) : LS w tRetN Γ S G := fun D σ R H as rl s e => e.rt .non (.d .non) S R H as (Sub.refl _) rl Den.non q
theorem ls_if {c : TT} (h : LT w c Γ S fun b S1 => (b = true → LS w t1 Γ S1 G) ∧ (b = false → LS w t2 Γ S1 G)) : LS w (tIfS c t1 t2) Γ S G := fun D σ R H as rl s e =>
  h σ R H as _ rl s fun b S1 R1 H1 as1 rl1 s1 p1 q => by
    cases b with
    | true => exact q.1 rfl D σ R1 H1 as1 rl1 (s.mono s1 p1) (e.up s1)
    | false => exact q.2 rfl D σ R1 H1 as1 rl1 (s.mono s1 p1) (e.up s1)
theorem ls_asg {g : TG} (h : LE w te Γ S fun e S1 => LG w g e Γ S1 G.nx) : LS w (tAsg te g) Γ S G := fun D σ R H as rl s e =>
  h σ R H as _ rl s fun v x S1 R1 H1 as1 rl1 s1 p1 e1 q => q v σ R1 H1 as1 _ rl1 (s.mono s1 p1) e1 fun Γ' S' σ' R' H' as' a1 a2 a3 a4 a5 => e.nx Γ' S' σ' R' H' as' (s1.trans a2) a1 a4 a5
theorem lg_name {i : Nat} {e : Ent} {k : Env → List Own → Prop} (q : k (Γ.set i (some e)) S) : LG w (gName i) e Γ S k := fun v σ R H as Q rl s h c =>
  c _ S _ R H as rl (Sub.refl _) (Pre.refl _) (s.set i h) q
theorem ls_set {i : Nat} (h : LE w te Γ S fun e S1 => G.nx (Γ.set i (some e)) S1) : LS w (tAsg te (gName i)) Γ S G :=
  ls_asg (le_mono h fun e S' q => lg_name q)
/-- several targets -/
def LGs (w : Wd) (g : TGs) (es : List Ent) (Γ : Env) (S : List Own) (k : Env → List Own → Prop) : Prop :=
  ∀ (vs : List V) (σ : St) (R H : Hp) (as : List Addr) (Q : St → Hp → Prop), Rel w R H as S → Sts w.K R as σ Γ → EntsOk w.K R as vs es →
    (∀ Γ' S' σ' R' H' as', Rel w R' H' as' S' → Sub R R' → Pre as as' → Sts w.K R' as' σ' Γ' → k Γ' S' → Q σ' H') → g vs σ H Q
theorem lgs_nil {k : Env → List Own → Prop} (q : k Γ S) : LGs w gNil [] Γ S k := fun vs σ R H as Q rl s h c => by
  cases vs with
  | nil => exact ⟨rfl, c Γ S σ R H as rl (Sub.refl _) (Pre.refl _) s q⟩
  | cons _ _ => exact h.elim
theorem lgs_cons {g : TG} {gs : TGs} {e : Ent} {es : List Ent} {k : Env → List Own → Prop} (h : LG w g e Γ S fun Γ1 S1 => LGs w gs es Γ1 S1 k) : LGs w (gCons g gs) (e :: es) Γ S k := fun vs σ R H as Q rl s he c => by
  cases vs with
  | nil => exact he.elim
  | cons v vs =>
    refine ⟨v, vs, rfl, h v σ R H as _ rl s he.1 fun Γ1 S1 σ1 R1 H1 as1 a1 a2 a3 a4 a5 => ?_⟩
    exact a5 vs σ1 R1 H1 as1 _ a1 a4 (he.2.mono a2 a3) fun Γ' S' σ' R' H' as' b1 b2 b3 b4 b5 => c Γ' S' σ' R' H' as' b1 (a2.trans b2) (a3.trans b3) b4 b5
theorem dens_ents {K : PySem.W.Frag} {R : Hp} {as : List Addr} : ∀ {vs : List V} {ds : List D}, Dens K R vs ds → EntsOk K R as vs (ds.map Ent.d)
  | _, _, .nil => trivial
  | _, _, .cons h r => ⟨h, dens_ents r⟩
theorem lg_tup {n : Nat} {gs : TGs} {ds : List D} {k : Env → List Own → Prop} (hl : ds.length = n) (h : LGs w gs (ds.map Ent.d) Γ S k) : LG w (gTup w.K n gs) (.d (.tup ds)) Γ S k := fun v σ R H as Q rl s he c => by
  cases he with
  | tup ha hd => exact ⟨_, _, rfl, SqT.of (rl.sub _ _ ha), by rw [hd.len]; exact hl, h _ σ R H as Q rl s (dens_ents hd) c⟩
theorem lg_tupE {n : Nat} {gs : TGs} {es : List Ent} {k : Env → List Own → Prop} (hl : es.length = n) (h : LGs w gs es Γ S k) : LG w (gTup w.K n gs) (.tup es) Γ S k := fun v σ R H as Q rl s he c => by
  obtain ⟨a, vs, rfl, h1, h2⟩ := he
  exact ⟨_, _, rfl, SqT.of (rl.sub _ _ h1), by rw [h2.len]; exact hl, h _ σ R H as Q rl s h2 c⟩
theorem ls_par {i j : Nat} {ta : TA} (h : LA w ta Γ S fun es S1 => ∃ x y, es = [x, y] ∧ G.nx ((Γ.set i (some x)).set j (some y)) S1) : LS w (tPar i j ta) Γ S G := fun D σ R H as rl s e =>
  h σ R H as _ rl s fun vs es S1 R1 H1 as1 rl1 s1 p1 e1 ⟨x, y, h1, h2⟩ => by
    subst h1
    match vs, e1 with
    | [a, b], ⟨q1, q2, _⟩ => exact ⟨a, b, rfl, e.nx _ S1 _ R1 H1 as1 s1 rl1 (((s.mono s1 p1).set i q1).set j q2) h2⟩
theorem ls_aug {i : Nat} {ti : TIp} {x : Ent} (hx : Γ[i]? = some (some x)) (h : LE w te Γ S fun y S1 => RR w ti x y S1 fun z S2 => G.nx (Γ.set i (some z)) S2) : LS w (tAug i te ti) Γ S G := fun D σ R H as rl s e => by
  obtain ⟨v, h1, h2⟩ := s.get i x hx
  refine ⟨v, h1, h σ R H as _ rl s fun v2 e2 S1 R1 H1 as1 rl1 s1 p1 e1 q => ?_⟩
  exact q R1 H1 as1 v v2 _ rl1 (h2.mono s1 p1) e1 fun v3 e3 S3 R3 H3 as3 rl3 s3 p3 e3' q3 => e.nx _ S3 _ R3 H3 as3 (s1.trans s3) rl3 ((s.mono (s1.trans s3) (p1.trans p3)).set i e3') q3
theorem ls_never (q : False) : LS w tNever Γ S G := q.elim
theorem ls_while {c : TT} (I : Nat → Env → List Own → Prop) (m0 : Nat) (h0 : I m0 Γ S)
    (hs : ∀ m Γ1 S1, I m Γ1 S1 → LT w c Γ1 S1 fun b S2 => (b = true → LS w t1 Γ1 S2 { G with nx := fun Γ' S' => ∃ m', m' < m ∧ I m' Γ' S', ct := fun Γ' S' => ∃ m', m' < m ∧ I m' Γ' S', bk := G.nx }) ∧ (b = false → G.nx Γ1 S2)) : LS w (tWhile c t1) Γ S G := fun D σ R H as rl s e => by
  refine ⟨fun m σ' H' => ∃ Γ' S' R' as', Sub R R' ∧ Rel w R' H' as' S' ∧ Sts w.K R' as' σ' Γ' ∧ I m Γ' S', ⟨m0, Γ, S, R, as, Sub.refl _, rl, s, h0⟩, ?_⟩
  rintro m σ1 H1 ⟨Γ1, S1, R1, as1, u1, rl1, st1, i1⟩
  refine hs m Γ1 S1 i1 σ1 R1 H1 as1 _ rl1 st1 fun b S2 R2 H2 as2 rl2 s2 p2 q => ?_
  cases b with
  | true =>
    refine ⟨fun σ' H' => ∃ m', m' < m ∧ ∃ Γ' S' R' as', Sub R R' ∧ Rel w R' H' as' S' ∧ Sts w.K R' as' σ' Γ' ∧ I m' Γ' S', fun σ' H' h => h, ?_⟩
    have up := u1.trans s2
    have e2 := e.up up
    exact q.1 rfl _ σ1 R2 H2 as2 rl2 (st1.mono s2 p2) ⟨fun Γ' S' σ' R' H' as' u a b ⟨m', hm, hi⟩ => ⟨m', hm, Γ', S', R', as', up.trans u, a, b, hi⟩, e2.rt, e2.nx, fun Γ' S' σ' R' H' as' u a b ⟨m', hm, hi⟩ => ⟨m', hm, Γ', S', R', as', up.trans u, a, b, hi⟩⟩
  | false => exact e.nx Γ1 S2 σ1 R2 H2 as2 (u1.trans s2) rl2 (st1.mono s2 p2) (q.2 rfl)

/-! ### for -/
/-- over lo, lo + 1, .. (n of them), by whatever makes the range -/
def LR (w : Wd) (wi : TI) (Γ : Env) (S : List Own) (k : Int → Nat → List Own → Prop) : Prop :=
  ∀ (σ : St) (R H : Hp) (as : List Addr) (Q : It → Hp → Prop), Rel w R H as S → Sts w.K R as σ Γ →
    (∀ lo n S' R' H' as', Rel w R' H' as' S' → Sub R R' → Pre as as' → k lo n S' → Q (Itr lo n) H') → wi σ H Q
theorem lr_1 {ta : TA} {k : Int → Nat → List Own → Prop} (h : LA w ta Γ S fun es S1 => ∃ j, es = [.d (.int j)] ∧ -(2 ^ 62) ≤ j ∧ j < 2 ^ 62 ∧ k 0 j.toNat S1) : LR w (iRng1 ta) Γ S k := fun σ R H as Q rl s c =>
  h σ R H as _ rl s fun vs es S1 R1 H1 as1 rl1 s1 p1 e1 ⟨j, h1, h2, h3, h4⟩ => by
    subst h1
    match vs, e1 with
    | [a], ⟨q1, _⟩ => cases q1; exact ⟨j, rfl, h2, h3, c 0 _ S1 R1 H1 as1 rl1 s1 p1 h4⟩
theorem lr_2 {ta : TA} {k : Int → Nat → List Own → Prop} (h : LA w ta Γ S fun es S1 => ∃ i j, es = [.d (.int i), .d (.int j)] ∧ (-(2 ^ 62) ≤ i ∧ i < 2 ^ 62 ∧ -(2 ^ 62) ≤ j ∧ j < 2 ^ 62) ∧ k i (j - i).toNat S1) : LR w (iRng2 ta) Γ S k := fun σ R H as Q rl s c =>
  h σ R H as _ rl s fun vs es S1 R1 H1 as1 rl1 s1 p1 e1 ⟨i, j, h1, h2, h4⟩ => by
    subst h1
    match vs, e1 with
    | [a, b], ⟨q1, q2, _⟩ => cases q1; cases q2; exact ⟨i, j, rfl, h2, c i _ S1 R1 H1 as1 rl1 s1 p1 h4⟩
theorem ls_forR {wi : TI} {g : TG} (h : LR w wi Γ S fun lo n S1 => ∃ I : Nat → Env → List Own → Prop, I 0 Γ S1 ∧
    (∀ i Γ1 S2, i < n → I i Γ1 S2 → LG w g (.d (.int (lo + i))) Γ1 S2 fun Γ2 S3 => LS w t1 Γ2 S3 { G with nx := I (i + 1), ct := I (i + 1), bk := G.nx }) ∧ (∀ Γ1 S2, I n Γ1 S2 → G.nx Γ1 S2)) : LS w (tFor wi g t1) Γ S G := fun D σ R H as rl s e => by
  refine h σ R H as _ rl s fun lo n S1 R1 H1 as1 rl1 s1 p1 ⟨I, i0, is, iE⟩ => ?_
  refine for_range (fun i σ' H' => ∃ Γ' S' R' as', Sub R R' ∧ Rel w R' H' as' S' ∧ Sts w.K R' as' σ' Γ' ∧ I i Γ' S') ⟨Γ, S1, R1, as1, s1, rl1, s.mono s1 p1, i0⟩ ?_ ?_
  · rintro i σ2 H2 hi ⟨Γ2, S2, R2, as2, u2, rl2, st2, i2⟩
    refine is i Γ2 S2 hi i2 _ σ2 R2 H2 as2 _ rl2 st2 (Den.int _) fun Γ3 S3 σ3 R3 H3 as3 rl3 s3 p3 st3 q => ?_
    have up := u2.trans s3
    have e2 := e.up up
    exact q _ σ3 R3 H3 as3 rl3 st3 ⟨fun Γ' S' σ' R' H' as' u a b hi => ⟨Γ', S', R', as', up.trans u, a, b, hi⟩, e2.rt, e2.nx, fun Γ' S' σ' R' H' as' u a b hi => ⟨Γ', S', R', as', up.trans u, a, b, hi⟩⟩
  · rintro σ2 H2 ⟨Γ2, S2, R2, as2, u2, rl2, st2, i2⟩
    exact e.nx Γ2 S2 σ2 R2 H2 as2 u2 rl2 st2 (iE Γ2 S2 i2)
theorem ls_forL {tl : TE} {g : TG} (h : LE w tl Γ S fun e S1 => ∃ ds, e = .d (.lst ds) ∧ ∃ I : Nat → Env → List Own → Prop, I 0 Γ S1 ∧
    (∀ i d Γ1 S2, ds[i]? = some d → I i Γ1 S2 → LG w g (.d d) Γ1 S2 fun Γ2 S3 => LS w t1 Γ2 S3 { G with nx := I (i + 1), ct := I (i + 1), bk := G.nx }) ∧ (∀ Γ1 S2, I ds.length Γ1 S2 → G.nx Γ1 S2)) : LS w (tFor (iList w.K tl) g t1) Γ S G := fun D σ R H as rl s e => by
  refine h σ R H as _ rl s fun v x S1 R1 H1 as1 rl1 s1 p1 e1 ⟨ds, h1, I, i0, is, iE⟩ => ?_
  subst h1
  cases e1 with
  | lst ha hd =>
    rename_i a vs
    refine ⟨a, rfl, ⟨vs, SqL.of (rl1.sub _ _ ha)⟩, ?_⟩
    refine for_list (xs := vs) (fun i σ' H' => ∃ Γ' S' R' as', Sub R1 R' ∧ Rel w R' H' as' S' ∧ Sts w.K R' as' σ' Γ' ∧ I i Γ' S') ⟨Γ, S1, R1, as1, Sub.refl _, rl1, s.mono s1 p1, i0⟩ ?_ ?_ ?_
    · rintro i σ2 H2 hi ⟨Γ2, S2, R2, as2, u2, rl2, st2, i2⟩
      exact SqL.of (rl2.sub _ _ (u2 _ _ ha))
    · rintro i x σ2 H2 hx ⟨Γ2, S2, R2, as2, u2, rl2, st2, i2⟩
      obtain ⟨d, hd1, hd2⟩ := hd.get2 hx
      refine is i d Γ2 S2 hd1 i2 _ σ2 R2 H2 as2 _ rl2 st2 (Den.mono u2 hd2) fun Γ3 S3 σ3 R3 H3 as3 rl3 s3 p3 st3 q => ?_
      have up := u2.trans s3
      have e2 := e.up (s1.trans up)
      exact q _ σ3 R3 H3 as3 rl3 st3 ⟨fun Γ' S' σ' R' H' as' u a b hi => ⟨Γ', S', R', as', up.trans u, a, b, hi⟩, e2.rt, e2.nx, fun Γ' S' σ' R' H' as' u a b hi => ⟨Γ', S', R', as', up.trans u, a, b, hi⟩⟩
    · rintro σ2 H2 ⟨Γ2, S2, R2, as2, u2, rl2, st2, i2⟩
      exact e.nx Γ2 S2 σ2 R2 H2 as2 (s1.trans u2) rl2 st2 (by rw [hd.len] at i2; exact iE Γ2 S2 i2)
theorem ls_forT {tl : TE} {g : TG} (h : LE w tl Γ S fun e S1 => ∃ ds, e = .d (.tup ds) ∧ ∃ I : Nat → Env → List Own → Prop, I 0 Γ S1 ∧
    (∀ i d Γ1 S2, ds[i]? = some d → I i Γ1 S2 → LG w g (.d d) Γ1 S2 fun Γ2 S3 => LS w t1 Γ2 S3 { G with nx := I (i + 1), ct := I (i + 1), bk := G.nx }) ∧ (∀ Γ1 S2, I ds.length Γ1 S2 → G.nx Γ1 S2)) : LS w (tFor (iTup w.K tl) g t1) Γ S G := fun D σ R H as rl s e => by
  refine h σ R H as _ rl s fun v x S1 R1 H1 as1 rl1 s1 p1 e1 ⟨ds, h1, I, i0, is, iE⟩ => ?_
  subst h1
  cases e1 with
  | tup ha hd =>
    rename_i a vs
    refine ⟨a, rfl, ⟨vs, SqT.of (rl1.sub _ _ ha)⟩, ?_⟩
    refine for_tup (xs := vs) (fun i σ' H' => ∃ Γ' S' R' as', Sub R1 R' ∧ Rel w R' H' as' S' ∧ Sts w.K R' as' σ' Γ' ∧ I i Γ' S') ⟨Γ, S1, R1, as1, Sub.refl _, rl1, s.mono s1 p1, i0⟩ ?_ ?_ ?_
    · rintro i σ2 H2 hi ⟨Γ2, S2, R2, as2, u2, rl2, st2, i2⟩
      exact SqT.of (rl2.sub _ _ (u2 _ _ ha))
    · rintro i x σ2 H2 hx ⟨Γ2, S2, R2, as2, u2, rl2, st2, i2⟩
      obtain ⟨d, hd1, hd2⟩ := hd.get2 hx
      refine is i d Γ2 S2 hd1 i2 _ σ2 R2 H2 as2 _ rl2 st2 (Den.mono u2 hd2) fun Γ3 S3 σ3 R3 H3 as3 rl3 s3 p3 st3 q => ?_
      have up := u2.trans s3
      have e2 := e.up (s1.trans up)
      exact q _ σ3 R3 H3 as3 rl3 st3 ⟨fun Γ' S' σ' R' H' as' u a b hi => ⟨Γ', S', R', as', up.trans u, a, b, hi⟩, e2.rt, e2.nx, fun Γ' S' σ' R' H' as' u a b hi => ⟨Γ', S', R', as', up.trans u, a, b, hi⟩⟩
    · rintro σ2 H2 ⟨Γ2, S2, R2, as2, u2, rl2, st2, i2⟩
      exact e.nx Γ2 S2 σ2 R2 H2 as2 (s1.trans u2) rl2 st2 (by rw [hd.len] at i2; exact iE Γ2 S2 i2)
end
end Gm
namespace Gm
open PySem L2

/-! ### calls -/
def wb (S : List Own) : List Nat → List Own → List Own
  | [], _ => S
  | _ :: _, [] => S
  | i :: is, b :: bs => wb (S.set i b) is bs
theorem wb_len : ∀ (is : List Nat) (bs : List Own) (S : List Own), (wb S is bs).length = S.length
  | [], _, _ => by simp [wb]
  | _ :: _, [], _ => by simp [wb]
  | i :: is, b :: bs, S => by unfold wb; rw [wb_len is bs, List.length_set]
theorem wb_out : ∀ (is : List Nat) (bs : List Own) (S : List Own) (i : Nat), i ∉ is → (wb S is bs)[i]? = S[i]?
  | [], _, _, _, _ => by simp [wb]
  | _ :: _, [], _, _, _ => by simp [wb]
  | j :: is, b :: bs, S, i, h => by
    unfold wb
    rw [wb_out is bs _ i (fun q => h (List.mem_cons_of_mem _ q)), List.getElem?_set_ne (fun q => h (by rw [q]; exact List.mem_cons_self ..))]
theorem wb_in : ∀ (is : List Nat) (bs : List Own) (S : List Own) (j i : Nat) (b : Own), is.Nodup → is[j]? = some i → bs[j]? = some b → i < S.length → (wb S is bs)[i]? = some b
  | [], _, _, _, _, _, _, h, _, _ => by simp at h
  | _ :: _, [], _, _, _, _, _, _, h, _ => by simp at h
  | x :: is, y :: bs, S, 0, i, b, hn, h1, h2, hl => by
    simp at h1 h2
    subst h1 h2
    unfold wb
    rw [wb_out is bs _ x (List.nodup_cons.mp hn).1, List.getElem?_set_self hl]
  | x :: is, y :: bs, S, j + 1, i, b, hn, h1, h2, hl => by
    unfold wb
    exact wb_in is bs _ j i b (List.nodup_cons.mp hn).2 (by simpa using h1) (by simpa using h2) (by rw [List.length_set]; exact hl)

def picks (as : List Addr) (is : List Nat) : List Addr := is.map fun i => (as[i]?).getD 0
def Ent.ren (is : List Nat) : Ent → Ent
  | .d x => .d x
  | .own j => .own ((is[j]?).getD 0)
  | .tup es => .tup es
def Ent.wf (n : Nat) : Ent → Bool
  | .d _ => true
  | .own j => decide (j < n)
  | .tup _ => false
mutual
def Ent.back (is : List Nat) (n : Nat) : Ent → Ent
  | .d x => .d x
  | .own j => if j < is.length then .own ((is[j]?).getD 0) else .own (n + (j - is.length))
  | .tup es => .tup (Ent.backs is n es)
def Ent.backs (is : List Nat) (n : Nat) : List Ent → List Ent
  | [] => []
  | e :: es => Ent.back is n e :: Ent.backs is n es
end
structure Pick (is : List Nat) (S os : List Own) : Prop where
  nd : is.Nodup
  len : is.length = os.length
  at_ : ∀ (j i : Nat), is[j]? = some i → ∃ o, os[j]? = some o ∧ S[i]? = some o ∧ o ≠ .gone

section
variable {w : Wd} {R H : Hp} {as : List Addr} {S os : List Own} {is : List Nat}
theorem picks_at (r : Rel w R H as S) (p : Pick is S os) {j : Nat} {a : Addr} (h : (picks as is)[j]? = some a) : ∃ (i : Nat) (o : Own), is[j]? = some i ∧ as[i]? = some a ∧ os[j]? = some o ∧ S[i]? = some o ∧ o ≠ .gone := by
  unfold picks at h
  rw [List.getElem?_map] at h
  cases q : is[j]? with
  | none => rw [q] at h; cases h
  | some i =>
    rw [q] at h
    obtain ⟨o, h1, h2, h3⟩ := p.at_ j i q
    obtain ⟨b, hb⟩ := r.own h2
    have e : (as[i]?).getD 0 = a := Option.some.inj h
    rw [hb] at e
    have e' : b = a := e
    subst e'
    exact ⟨i, o, rfl, hb, h1, h2, h3⟩
theorem picks_mem (r : Rel w R H as S) (p : Pick is S os) {a : Addr} (h : a ∈ picks as is) : ∃ (j i : Nat) (o : Own), is[j]? = some i ∧ as[i]? = some a ∧ os[j]? = some o ∧ S[i]? = some o ∧ o ≠ Own.gone := by
  obtain ⟨j, hj⟩ := List.getElem?_of_mem h
  obtain ⟨i, o, q⟩ := picks_at r p hj
  exact ⟨j, i, o, q⟩
theorem picks_len : (picks as is).length = is.length := by unfold picks; rw [List.length_map]
theorem picks_of (r : Rel w R H as S) (p : Pick is S os) {j i : Nat} {a : Addr} (h : is[j]? = some i) (ha : as[i]? = some a) : (picks as is)[j]? = some a := by
  unfold picks
  rw [List.getElem?_map, h]
  show some ((as[i]?).getD 0) = some a
  rw [ha]; rfl
theorem Rel.enter (r : Rel w R H as S) (p : Pick is S os) : Rel ⟨w.K, R, H, picks as is⟩ R H (picks as is) os where
  r0 := Sub.refl _
  sub := r.sub
  keep := fun b o e _ => e
  there := fun b e => e
  pre := fun i a e => e
  orig := fun b o e => .inl e
  len := by rw [picks_len]; exact p.len
  reg := fun j o a h1 h2 h3 => by
    obtain ⟨i, o', e1, e2, e3, e4, e5⟩ := picks_at r p h2
    rw [h1] at e3; cases e3
    exact ⟨(r.reg i o a e4 e2 h3).1, .inr (List.mem_of_getElem? h2)⟩
  dist := fun j1 j2 a o u h1 h2 n1 n2 a1 a2 => by
    obtain ⟨i1, o1, b1, b2, b3, b4, b5⟩ := picks_at r p a1
    obtain ⟨i2, o2, c1, c2, c3, c4, c5⟩ := picks_at r p a2
    have e : i1 = i2 := r.dist i1 i2 a o1 o2 b4 c4 b5 c5 b2 c2
    subst e
    exact nd_ix p.nd b1 c1
theorem Rel.leave {R' H' : Hp} {as' : List Addr} {bs nw : List Own} (r : Rel w R H as S) (p : Pick is S os) (hl : bs.length = is.length) (hb : ∀ o ∈ bs, o ≠ .gone)
    (r' : Rel ⟨w.K, R, H, picks as is⟩ R' H' as' (bs ++ nw)) : Rel w R' H' (as ++ as'.drop is.length) (wb S is bs ++ nw) ∧ Sub R R' ∧ Pre as (as ++ as'.drop is.length) := by
  have p0 : Pre as (as ++ as'.drop is.length) := Pre.app _ _
  have lens : (wb S is bs).length = S.length := wb_len is bs S
  have len' : as'.length = is.length + nw.length := by rw [r'.len, List.length_append, hl]
  -- the addresses by place
  have lo : ∀ {i : Nat} {a : Addr}, i < S.length → (as ++ as'.drop is.length)[i]? = some a → as[i]? = some a := fun hi h => by
    rw [List.getElem?_append_left (by rw [r.len]; exact hi)] at h; exact h
  have hi_ : ∀ {i : Nat} {a : Addr}, ¬ i < S.length → (as ++ as'.drop is.length)[i]? = some a → as'[is.length + (i - S.length)]? = some a := fun {i a} hi h => by
    rw [List.getElem?_append_right (by rw [r.len]; omega), List.getElem?_drop, r.len] at h; exact h
  have slo : ∀ {i : Nat} {o : Own}, i < S.length → (wb S is bs ++ nw)[i]? = some o → (wb S is bs)[i]? = some o := fun hi h => by
    rw [List.getElem?_append_left (by rw [lens]; exact hi)] at h; exact h
  have shi : ∀ {i : Nat} {o : Own}, ¬ i < S.length → (wb S is bs ++ nw)[i]? = some o → (bs ++ nw)[is.length + (i - S.length)]? = some o := fun {i o} hi h => by
    rw [List.getElem?_append_right (by rw [lens]; omega), lens] at h
    rw [List.getElem?_append_right (by rw [hl]; omega), hl, show is.length + (i - S.length) - is.length = i - S.length by omega]; exact h
  -- an old place that is live behind was live before
  have live : ∀ {i : Nat} {o : Own}, (wb S is bs)[i]? = some o → o ≠ .gone → ∃ u, S[i]? = some u ∧ u ≠ .gone := fun {i o} h n => by
    by_cases q : i ∈ is
    · obtain ⟨j, hj⟩ := List.getElem?_of_mem q
      obtain ⟨u, h1, h2, h3⟩ := p.at_ j i hj
      exact ⟨u, h2, h3⟩
    · rw [wb_out is bs S i q] at h; exact ⟨o, h, n⟩
  -- a new place stands apart from all that was there
  have apart : ∀ {i : Nat} {o : Own} {a : Addr}, ¬ i < S.length → (wb S is bs ++ nw)[i]? = some o → o ≠ .gone → (as ++ as'.drop is.length)[i]? = some a → H a = none := fun {i o a} hi h n ha => by
    have e1 := shi hi h
    have e2 := hi_ hi ha
    obtain ⟨g1, g2⟩ := r'.reg _ o a e1 e2 n
    rcases g2 with g2 | g2
    · exact g2
    · obtain ⟨j, i', u, c1, c2, c3, c4, c5⟩ := picks_mem r p g2
      have hj : j < is.length := (List.getElem?_eq_some_iff.mp c1).1
      have hbj : ∃ b, bs[j]? = some b := ⟨_, List.getElem?_eq_getElem (by rw [hl]; exact hj)⟩
      obtain ⟨b, hb1⟩ := hbj
      have e3 : as'[j]? = some a := r'.pre j a (picks_of r p c1 c2)
      have e4 : (bs ++ nw)[j]? = some b := by rw [List.getElem?_append_left (by rw [hl]; exact hj)]; exact hb1
      have := r'.dist j _ a b o e4 e1 (hb b (List.mem_of_getElem? hb1)) n e3 e2
      omega
  refine ⟨⟨r.r0.trans r'.r0, r'.sub, fun b o e n => ?_, fun b e => r.there b (r'.there b e), fun i a e => p0 i a (r.pre i a e), fun b o e => ?_, ?_, fun i o a h1 h2 h3 => ?_, fun i j a o u h1 h2 n1 n2 a1 a2 => ?_⟩, r'.r0, p0⟩
  · refine r'.keep b o (r.keep b o e n) fun hm => ?_
    obtain ⟨j, i, u, c1, c2, c3, c4, c5⟩ := picks_mem r p hm
    rcases (r.reg i u b c4 c2 c5).2 with g | g
    · rw [e] at g; cases g
    · exact n g
  · rcases r'.orig b o e with q | q | q
    · exact r.orig b o q
    · exact .inr (.inl (r.there b q))
    · obtain ⟨j, i, u, c1, c2, c3, c4, c5⟩ := picks_mem r p q
      exact .inr (r.reg i u _ c4 c2 c5).2
  · rw [List.length_append, List.length_drop, List.length_append, lens, r.len, len']; omega
  · by_cases hi : i < S.length
    · have e1 := slo hi h1
      have e2 := lo hi h2
      by_cases q : i ∈ is
      · obtain ⟨j, hj⟩ := List.getElem?_of_mem q
        obtain ⟨u, c1, c2, c3⟩ := p.at_ j i hj
        have hjl : j < is.length := (List.getElem?_eq_some_iff.mp hj).1
        obtain ⟨b, hb1⟩ : ∃ b, bs[j]? = some b := ⟨_, List.getElem?_eq_getElem (by rw [hl]; exact hjl)⟩
        rw [wb_in is bs S j i b p.nd hj hb1 hi] at e1
        cases e1
        have e3 : as'[j]? = some a := r'.pre j a (picks_of r p hj e2)
        have e4 : (bs ++ nw)[j]? = some o := by rw [List.getElem?_append_left (by rw [hl]; exact hjl)]; exact hb1
        exact ⟨(r'.reg j o a e4 e3 h3).1, (r.reg i u a c2 e2 c3).2⟩
      · rw [wb_out is bs S i q] at e1
        obtain ⟨g1, g2⟩ := r.reg i o a e1 e2 h3
        obtain ⟨z1, z, z2⟩ := g1.there h3
        have nm : a ∉ picks as is := fun hm => by
          obtain ⟨j, i', u, c1, c2, c3, c4, c5⟩ := picks_mem r p hm
          have := r.dist i i' a o u e1 c4 h3 c5 e2 c2
          subst this
          exact q (List.mem_of_getElem? c1)
        refine ⟨g1.upd_ r'.r0 (fun _ hr => ?_) fun _ => ?_, g2⟩
        · cases qq : R' a with
          | none => rfl
          | some v =>
            rcases r'.orig a v qq with c | c | c
            · have c' : R a = some v := c
              rw [hr] at c'; cases c'
            · have c' : H a = none := c
              rw [z2] at c'; cases c'
            · exact absurd c nm
        · rw [z2]; exact r'.keep a z z2 nm
    · have e1 := shi hi h1
      have e2 := hi_ hi h2
      exact ⟨(r'.reg _ o a e1 e2 h3).1, .inl (r.there a (apart hi h1 h3 h2))⟩
  · have old : ∀ {k : Nat} {q : Own}, k < S.length → (wb S is bs ++ nw)[k]? = some q → q ≠ .gone → (as ++ as'.drop is.length)[k]? = some a → ∃ z, H a = some z := fun {k q} hk e1 e2 e3 => by
      obtain ⟨u', v1, v2⟩ := live (slo hk e1) e2
      obtain ⟨z1, z, z2⟩ := (r.reg k u' a v1 (lo hk e3) v2).1.there v2
      exact ⟨z, z2⟩
    by_cases hi : i < S.length <;> by_cases hj : j < S.length
    · obtain ⟨u1, v1, v2⟩ := live (slo hi h1) n1
      obtain ⟨u2, v3, v4⟩ := live (slo hj h2) n2
      exact r.dist i j a u1 u2 v1 v3 v2 v4 (lo hi a1) (lo hj a2)
    · obtain ⟨z, z2⟩ := old hi h1 n1 a1
      rw [apart hj h2 n2 a2] at z2; cases z2
    · obtain ⟨z, z2⟩ := old hj h2 n2 a2
      rw [apart hi h1 n1 a1] at z2; cases z2
    · have := r'.dist _ _ a o u (shi hi h1) (shi hj h2) n1 n2 (hi_ hi a1) (hi_ hj a2)
      omega
theorem ents_enter (r : Rel w R H as S) (p : Pick is S os) : ∀ {vs : List V} {es : List Ent}, EntsOk w.K R as vs (es.map (Ent.ren is)) → es.all (Ent.wf is.length) = true → EntsOk w.K R (picks as is) vs es
  | [], [], _, _ => trivial
  | v :: vs, .d x :: es, ⟨h, t⟩, q => ⟨h, ents_enter r p t (by simpa [Ent.wf] using q)⟩
  | v :: vs, .own j :: es, ⟨h, t⟩, q => by
    have q' : j < is.length ∧ es.all (Ent.wf is.length) = true := by simpa [Ent.wf] using q
    refine ⟨?_, ents_enter r p t q'.2⟩
    obtain ⟨a, h1, h2⟩ := h
    rw [List.getElem?_eq_getElem q'.1] at h1
    exact ⟨a, picks_of r p (List.getElem?_eq_getElem q'.1) h1, h2⟩
  | v :: vs, .tup _ :: es, _, q => by simp [Ent.wf] at q
  | [], _ :: _, h, _ => h.elim
  | _ :: _, [], h, _ => h.elim
theorem own_leave {R' H' : Hp} {as' : List Addr} {bs nw : List Own} (r : Rel w R H as S) (p : Pick is S os) (r' : Rel ⟨w.K, R, H, picks as is⟩ R' H' as' (bs ++ nw)) {v : V} {j : Nat} (h : EntOk w.K R' as' v (.own j)) :
    EntOk w.K R' (as ++ as'.drop is.length) v (Ent.back is S.length (.own j)) := by
  obtain ⟨a, h1, h2⟩ := h
  by_cases hj : j < is.length
  · obtain ⟨o, c1, c2, c3⟩ := p.at_ j _ (List.getElem?_eq_getElem hj)
    obtain ⟨b, hb⟩ := r.own c2
    have e3 := r'.pre j b (picks_of r p (List.getElem?_eq_getElem hj) hb)
    rw [h1] at e3; cases e3
    have e : Ent.back is S.length (.own j) = .own (is[j]) := by
      show (if j < is.length then Ent.own ((is[j]?).getD 0) else _) = _
      rw [if_pos hj, List.getElem?_eq_getElem hj]; rfl
    rw [e]
    exact ⟨a, Pre.app _ _ _ _ hb, h2⟩
  · have e : Ent.back is S.length (.own j) = .own (S.length + (j - is.length)) := by
      show (if j < is.length then Ent.own ((is[j]?).getD 0) else _) = _
      rw [if_neg hj]
    rw [e]
    refine ⟨a, ?_, h2⟩
    rw [← r.len, List.getElem?_append_right (by omega), List.getElem?_drop, show is.length + (as.length + (j - is.length) - as.length) = j by omega]
    exact h1
mutual
theorem ent_leave {R' H' : Hp} {as' : List Addr} {bs nw : List Own} (r : Rel w R H as S) (p : Pick is S os) (r' : Rel ⟨w.K, R, H, picks as is⟩ R' H' as' (bs ++ nw)) : ∀ {v : V} {e : Ent}, EntOk w.K R' as' v e →
    EntOk w.K R' (as ++ as'.drop is.length) v (Ent.back is S.length e)
  | _, .d _, h => h
  | _, .own _, h => own_leave r p r' h
  | _, .tup _, ⟨a, vs, h1, h2, h3⟩ => ⟨a, vs, h1, h2, ents_leave r p r' h3⟩
theorem ents_leave {R' H' : Hp} {as' : List Addr} {bs nw : List Own} (r : Rel w R H as S) (p : Pick is S os) (r' : Rel ⟨w.K, R, H, picks as is⟩ R' H' as' (bs ++ nw)) : ∀ {vs : List V} {es : List Ent}, EntsOk w.K R' as' vs es →
    EntsOk w.K R' (as ++ as'.drop is.length) vs (Ent.backs is S.length es)
  | [], [], _ => trivial
  | _ :: _, _ :: _, ⟨h, t⟩ => ⟨ent_leave r p r' h, ents_leave r p r' t⟩
  | [], _ :: _, h => h.elim
  | _ :: _, [], h => h.elim
end
end

/-- what a def is worth, over data: arguments, the borrowed store, what is wanted behind, what of an error -/
abbrev DS := List Ent → List Own → KE → KX → Prop
def ExOk (w : Wd) (E : XK) (x : KX) : Prop := ∀ (C d : Addr) (v : V) (u : D) (S : List Own) (R H : Hp) (as : List Addr), Rel w R H as S → R d = some (.xd [("value", v)]) → Den w.K R v u → x C u S → E (.ref C) (some d) H
def spD (K : PySem.W.Frag) (f : DS) : Sp := fun vs H Q E => ∃ (R : Hp) (as : List Addr) (S : List Own) (es : List Ent) (post : KE) (exn : KX), EntsOk K R as vs es ∧ Rel ⟨K, R, H, as⟩ R H as S ∧ f es S post exn ∧
  (∀ v e S' R' H' as', Rel ⟨K, R, H, as⟩ R' H' as' S' → EntOk K R' as' v e → post e S' → Q v H') ∧ ExOk ⟨K, R, H, as⟩ E exn
section
variable {w : Wd} {Γ : Env} {S : List Own} {k : KE} {f : DS} {E : XK}
/-- the promise is met, by values -/
def RS (w : Wd) (f : DS) (E : XK) (es : List Ent) (S : List Own) (k : KE) : Prop :=
  ∀ (R H : Hp) (as : List Addr) (vs : List V) (Q : VK), Rel w R H as S → EntsOk w.K R as vs es →
    (∀ v e S' R' H' as', Rel w R' H' as' S' → Sub R R' → Pre as as' → EntOk w.K R' as' v e → k e S' → Q v H') → spD w.K f vs H Q E
theorem rs_call {x : KX} (hE : ExOk w E x) (is : List Nat) {os : List Own} {es es' : List Ent} (p : Pick is S os) (he : es = es'.map (Ent.ren is)) (hw : es'.all (Ent.wf is.length) = true)
    (h : f es' os (fun e S' => ∃ bs nw, S' = bs ++ nw ∧ bs.length = is.length ∧ (∀ o ∈ bs, o ≠ .gone) ∧ k (Ent.back is S.length e) (wb S is bs ++ nw))
      (fun C u S' => ∃ bs nw, S' = bs ++ nw ∧ bs.length = is.length ∧ (∀ o ∈ bs, o ≠ .gone) ∧ x C u (wb S is bs ++ nw))) : RS w f E es S k := fun R H as vs Q rl ev c => by
  subst he
  refine ⟨R, picks as is, os, es', _, _, ents_enter rl p ev hw, rl.enter p, h, ?_, ?_⟩
  · rintro v e S' R' H' as' r' ok ⟨bs, nw, rfl, hl, hb, hk⟩
    obtain ⟨a1, a2, a3⟩ := rl.leave p hl hb r'
    exact c v _ _ R' H' _ a1 a2 a3 (ent_leave rl p r' ok) hk
  · rintro C d v u S' R' H' as' r' hd hv ⟨bs, nw, rfl, hl, hb, hk⟩
    obtain ⟨a1, a2, a3⟩ := rl.leave p hl hb r'
    exact hE C d v u _ R' H' _ a1 hd hv hk
theorem ex0 {E : XK} : ExOk w E (fun _ _ _ => False) := fun _ _ _ _ _ _ _ _ _ _ _ h => h.elim
theorem Pick.nil : Pick [] S [] := ⟨List.nodup_nil, rfl, fun j i h => by simp at h⟩
theorem Pick.one {i : Nat} {o : Own} (h : S[i]? = some o) (n : o ≠ .gone) : Pick [i] S [o] := ⟨List.nodup_cons.mpr ⟨List.not_mem_nil, List.nodup_nil⟩, rfl, fun j i' q => by
  match j, q with
  | 0, q => cases q; exact ⟨o, rfl, h, n⟩
  | j + 1, q => simp at q⟩
theorem Pick.two {i j : Nat} {o u : Own} (hij : i ≠ j) (h : S[i]? = some o) (n : o ≠ .gone) (h' : S[j]? = some u) (n' : u ≠ .gone) : Pick [i, j] S [o, u] :=
  ⟨List.nodup_cons.mpr ⟨by simp [hij], List.nodup_cons.mpr ⟨List.not_mem_nil, List.nodup_nil⟩⟩, rfl, fun k i' q => by
    match k, q with
    | 0, q => cases q; exact ⟨o, rfl, h, n⟩
    | 1, q => cases q; exact ⟨u, rfl, h', n'⟩
    | k + 2, q => simp at q⟩
/-- nothing is borrowed -/
theorem rs_call0 {x : KX} (hE : ExOk w E x) {es : List Ent} (hw : es.all (Ent.wf 0) = true) (h : f es [] (fun e S' => k (Ent.back [] S.length e) (S ++ S')) (fun C u S' => x C u (S ++ S'))) (mono : ∀ {es S} {p p' : KE} {x x' : KX}, (∀ e S, p e S → p' e S) → (∀ C u S, x C u S → x' C u S) → f es S p x → f es S p' x') : RS w f E es S k := by
  refine rs_call hE [] (Pick.nil) (es' := es) ?_ hw (mono (fun e S' q => ⟨[], S', rfl, rfl, by simp, q⟩) (fun C u S' q => ⟨[], S', rfl, rfl, by simp, q⟩) h)
  clear h mono hE
  induction es with
  | nil => rfl
  | cons e es ih =>
    have q : Ent.wf 0 e = true ∧ es.all (Ent.wf 0) = true := by simpa using hw
    cases e with
    | d x => show _ = Ent.d x :: _; rw [← ih q.2]
    | own j => simp [Ent.wf] at q
    | tup es => simp [Ent.wf] at q
theorem le_call {t : TA} (h : LA w t Γ S fun es S1 => RS w f E es S1 k) : LE w (tCall (spD w.K f) [] E t) Γ S k := fun σ R H as Q rl s c =>
  h σ R H as _ rl s fun vs es S1 R1 H1 as1 rl1 s1 p1 e1 h1 => by
    rw [List.append_nil]
    exact h1 R1 H1 as1 vs Q rl1 e1 fun v' e' S' R' H' as' a1 a2 a3 a4 a5 => c v' e' S' R' H' as' a1 (s1.trans a2) (p1.trans a3) a4 a5
end
end Gm
namespace Gm
open PySem L2

section
variable {w : Wd} {Γ : Env} {S : List Own} {k : KE} {ta tb te : TE} {G : GE} {f : DS} {E : XK}

/-! ### objects -/
def IsObj (x : Ent) (S : List Own) (C : Addr) (gs : List (Str × D)) : Prop := x = .d (.obj C gs) ∨ ∃ i, x = .own i ∧ S[i]? = some (.ins C gs)
theorem isObj_at {R H : Hp} {as : List Addr} {v : V} {x : Ent} {C : Addr} {gs : List (Str × D)} (o : IsObj x S C gs) (r : Rel w R H as S) (e : EntOk w.K R as v x) : ∃ a dx fs, v = .ref a ∧ H a = some (.ins C dx fs) ∧ DenF w.K R fs gs := by
  rcases o with rfl | ⟨i, rfl, hi⟩
  · cases e with
    | obj h1 h2 => exact ⟨_, _, _, rfl, r.sub _ _ h1, h2⟩
  · obtain ⟨a, ha, rfl⟩ := e
    obtain ⟨⟨z, dx, fs, h1, h2⟩, _⟩ := r.reg i _ a hi ha (by intro z; cases z)
    exact ⟨a, dx, fs, rfl, h1, h2⟩
theorem le_fld {fn : Str} (h : LE w ta Γ S fun x S1 => ∃ C gs d, IsObj x S1 C gs ∧ Cls w.K C ∧ NoAttr w.K C fn ∧ gs.lookup fn = some d ∧ k (.d d) S1) : LE w (tFld w.K ta fn) Γ S k := fun σ R H as Q rl s c =>
  h σ R H as _ rl s fun v e S1 R1 H1 as1 rl1 s1 p1 e1 ⟨C, gs, d, h1, h2, h3, h4, h5⟩ => by
    obtain ⟨a, dx, fs, q1, q2, q3⟩ := isObj_at h1 rl1 e1
    obtain ⟨v', q4, q5⟩ := q3.lookup h4
    exact ⟨a, C, dx, fs, v', q1, q2, h2, h3, q4, c _ _ S1 R1 H1 as1 rl1 s1 p1 (ok_d q5) h5⟩
/-- self.f = e, self in the store -/
theorem ls_fld {tv : TE} {fn : Str} (h : LE w tv Γ S fun y S1 => LE w ta Γ S1 fun x S2 => ∃ d i C gs, y = .d d ∧ x = .own i ∧ S2[i]? = some (.ins C gs) ∧ Cls w.K C ∧ NoAttr w.K C fn ∧ gs.length < 1000 ∧ G.nx Γ (S2.set i (.ins C (putG fn d gs)))) : LS w (sFld w.K ta tv fn) Γ S G := fun D σ R H as rl s e => by
  refine h σ R H as _ rl s fun v y S1 R1 H1 as1 rl1 s1 p1 e1 h1 => ?_
  refine h1 σ R1 H1 as1 _ rl1 (s.mono s1 p1) fun u x S2 R2 H2 as2 rl2 s2 p2 e2 q => ?_
  obtain ⟨d, i, C, gs, rfl, rfl, q1, q2, q3, q4, q5⟩ := q
  obtain ⟨a, ha, rfl⟩ := e2
  obtain ⟨⟨z, dx, fs, c1, c2⟩, _⟩ := rl2.reg i _ a q1 ha (by intro z; cases z)
  have dv : Den w.K R2 v d := (e1.mono s2 p2 : EntOk w.K R2 as2 v (.d d))
  refine ⟨a, C, dx, fs, rfl, c1, q2, q3, by rw [c2.len]; exact q4, ?_⟩
  have rl3 := rl2.write (o' := .ins C (putG fn d gs)) (u := .ins C dx (putF fn v fs)) q1 ha (by intro z; cases z) (by intro z; cases z) ⟨z, dx, _, upd_same, c2.put dv⟩
  exact e.nx Γ _ σ R2 _ as2 (s1.trans s2) rl3 ((s.mono (s1.trans s2) (p1.trans p2))) q5
theorem le_meth {C : Addr} {m : Str} {t : TA} (h : LE w ta Γ S fun x S1 => ∃ gs, IsObj x S1 C gs ∧ gs.lookup m = none ∧ LA w t Γ S1 fun es S2 => RS w f E (x :: es) S2 k) : LE w (tMeth C m (spD w.K f) [] E ta t) Γ S k := fun σ R H as Q rl s c => by
  refine h σ R H as _ rl s fun v x S1 R1 H1 as1 rl1 s1 p1 e1 ⟨gs, h1, h2, h3⟩ => ?_
  obtain ⟨a, dx, fs, rfl, q2, q3⟩ := isObj_at h1 rl1 e1
  refine ⟨a, dx, fs, rfl, q2, q3.none h2, ?_⟩
  refine h3 σ R1 H1 as1 _ rl1 (s.mono s1 p1) fun vs es S2 R2 H2 as2 rl2 s2 p2 e2 h4 => ?_
  rw [List.append_nil]
  exact h4 R2 H2 as2 _ Q rl2 ⟨e1.mono s2 p2, e2⟩ fun v' e' S' R' H' as' a1 a2 a3 a4 a5 => c v' e' S' R' H' as' a1 ((s1.trans s2).trans a2) ((p1.trans p2).trans a3) a4 a5
theorem le_prop {C : Addr} (h : LE w ta Γ S fun x S1 => ∃ gs, IsObj x S1 C gs ∧ RS w f E [x] S1 k) : LE w (tProp C (spD w.K f) [] E ta) Γ S k := fun σ R H as Q rl s c => by
  refine h σ R H as _ rl s fun v x S1 R1 H1 as1 rl1 s1 p1 e1 ⟨gs, h1, h3⟩ => ?_
  obtain ⟨a, dx, fs, rfl, q2, q3⟩ := isObj_at h1 rl1 e1
  refine ⟨a, dx, fs, rfl, q2, ?_⟩
  exact h3 R1 H1 as1 _ Q rl1 ⟨e1, trivial⟩ fun v' e' S' R' H' as' a1 a2 a3 a4 a5 => c v' e' S' R' H' as' a1 (s1.trans a2) (p1.trans a3) a4 a5
theorem EntsOk.dd {K : PySem.W.Frag} {R : Hp} {as bs : List Addr} : ∀ {vs : List V} {es : List Ent}, EntsOk K R as vs es → es.all (Ent.wf 0) = true → EntsOk K R bs vs es
  | [], [], _, _ => trivial
  | v :: vs, .d x :: es, ⟨h, t⟩, q => ⟨h, EntsOk.dd t (by simpa [Ent.wf] using q)⟩
  | v :: vs, .own j :: es, _, q => by simp [Ent.wf] at q
  | v :: vs, .tup _ :: es, _, q => by simp [Ent.wf] at q
  | [], _ :: _, h, _ => h.elim
  | _ :: _, [], h, _ => h.elim
/-- C(..): __init__ fills a new object; it is data from then on -/
theorem le_make {C : Addr} {t : TA} {x : KX} (hE : ExOk w E x) (h : LA w t Γ S fun es S1 => es.all (Ent.wf 0) = true ∧ f (.own 0 :: es) [.ins C []] (fun e S' => e = .d .non ∧ ∃ gs, S' = [.ins C gs] ∧ k (.d (.obj C gs)) S1) (fun Cx u S' => S' ≠ [] ∧ x Cx u S1)) :
    LE w (tMake C (spD w.K f) [] E t) Γ S k := fun σ R H as Q rl s c => by
  refine h σ R H as _ rl s fun vs es S1 R1 H1 as1 rl1 s1 p1 e1 h1 => ?_
  obtain ⟨hw, h1⟩ := h1
  intro xa dx hx hd hne
  rw [List.append_nil]
  obtain ⟨rl2, s2⟩ := rl1.alloc hd (.own xa)
  have hx2 : (upd H1 dx (.own xa)) xa = none := by rw [upd_ne (fun z => hne z.symm)]; exact hx
  -- the callee's world: the new object is borrowed
  have rlc : Rel ⟨w.K, upd R1 dx (.own xa), upd (upd H1 dx (.own xa)) xa (.ins C dx []), [xa]⟩ (upd R1 dx (.own xa)) (upd (upd H1 dx (.own xa)) xa (.ins C dx [])) [xa] [.ins C []] := by
    have hRx : (upd R1 dx (.own xa)) xa = none := (rl2.fresh hx2).1
    refine ⟨Sub.refl _, fun b o e => ?_, fun b o e _ => e, fun b e => e, fun i a e => e, fun b o e => .inl e, rfl, fun i o a q1 q2 q3 => ?_, fun i j a o u q1 q2 _ _ _ _ => ?_⟩
    · rw [upd_ne (ne_of_none e hRx)]; exact rl2.sub b o e
    · match i, q1, q2 with
      | 0, q1, q2 => cases q1; cases q2; exact ⟨⟨hRx, dx, [], upd_same, .nil⟩, .inr (List.mem_cons_self ..)⟩
      | i + 1, q1, _ => simp at q1
    · match i, j, q1, q2 with
      | 0, 0, _, _ => rfl
      | i + 1, _, q1, _ => simp at q1
      | 0, j + 1, _, q2 => simp at q2
  -- back in the caller's world
  have back : ∀ {R' H' : Hp} {as' : List Addr} {S' : List Own}, Rel ⟨w.K, upd R1 dx (.own xa), upd (upd H1 dx (.own xa)) xa (.ins C dx []), [xa]⟩ R' H' as' S' → S' ≠ [] → Rel w R' H' as1 S1 ∧ Sub R1 R' := by
    intro R' H' as' S' r' hS
    have rl3 : Rel w (upd R1 dx (.own xa)) (upd (upd H1 dx (.own xa)) xa (.ins C dx [])) (as1 ++ [xa]) (S1 ++ [.ins C []]) := rl2.allocO hx2 _ ⟨(rl2.fresh hx2).1, dx, [], upd_same, .nil⟩
    have sb : Sub R1 R' := s2.trans r'.r0
    have hxR : xa ∉ w.as0 ∨ True := .inr trivial
    have keepH : ∀ b u, H1 b = some u → H' b = some u := fun b u e => by
      have nb : b ≠ xa := ne_of_none e hx
      have nd : b ≠ dx := ne_of_none e hd
      refine r'.keep b u (by show upd _ _ _ b = _; rw [upd_ne nb, upd_ne nd]; exact e) (by show b ∉ [xa]; simp [nb])
    have noR : ∀ b u, H1 b = some u → R1 b = none → R' b = none := fun b u e hr => by
      have nb : b ≠ xa := ne_of_none e hx
      have nd : b ≠ dx := ne_of_none e hd
      cases qq : R' b with
      | none => rfl
      | some z =>
        rcases r'.orig b z qq with q | q | q
        · have q' : upd R1 dx (.own xa) b = some z := q
          rw [upd_ne nd, hr] at q'; cases q'
        · have q' : upd (upd H1 dx (.own xa)) xa (.ins C dx []) b = none := q
          rw [upd_ne nb, upd_ne nd, e] at q'; cases q'
        · have q' : b ∈ [xa] := q
          simp at q'
          exact absurd q' nb
    refine ⟨⟨rl1.r0.trans sb, r'.sub, fun b u e n => keepH b u (rl1.keep b u e n), fun b e => ?_, rl1.pre, fun b u e => ?_, rl1.len, fun i o a q1 q2 q3 => ?_, rl1.dist⟩, sb⟩
    · refine rl1.there b ?_
      cases qq : H1 b with
      | none => rfl
      | some z => rw [keepH b z qq] at e; cases e
    · by_cases hb : R1 b = some u
      · exact rl1.orig b u hb
      · cases qq : H1 b with
        | none => exact .inr (.inl (rl1.there b qq))
        | some z =>
          cases hr : R1 b with
          | none => rw [noR b z qq hr] at e; cases e
          | some y =>
            rw [sb b y hr] at e
            cases e
            exact absurd hr hb
    · obtain ⟨g1, g2⟩ := rl1.reg i o a q1 q2 q3
      obtain ⟨z1, z, z2⟩ := g1.there q3
      exact ⟨g1.upd_ sb (fun _ hr => noR a z z2 hr) fun _ => by rw [keepH a z z2, z2], g2⟩
  refine ⟨upd R1 dx (.own xa), [xa], [.ins C []], .own 0 :: es, _, _, ⟨⟨xa, rfl, rfl⟩, (e1.mono s2 (Pre.refl _)).dd hw⟩, rlc, h1, ?_, ?_⟩
  · rintro v e S' R' H' as' r' ok ⟨rfl, gs, rfl, hk⟩
    have hv : v = .non := by
      have ok' : Den w.K R' v .non := ok
      cases ok'; rfl
    subst hv
    refine ⟨rfl, ?_⟩
    obtain ⟨b1, b2⟩ := back r' (by simp)
    have ha0 : as'[0]? = some xa := r'.pre 0 xa rfl
    -- freeze
    have g := r'.reg 0 (.ins C gs) xa rfl ha0 (by intro z; cases z)
    obtain ⟨⟨z, dx', fs, c1, c2⟩, _⟩ := g
    have fz := r'.freeze (i := 0) (a := xa) (o := .ins C gs) (u := .ins C dx' fs) rfl ha0 (by intro z; cases z) c1
    obtain ⟨d1, d2⟩ := back fz.1 (by simp)
    exact c (.ref xa) (.d (.obj C gs)) S1 _ H' as1 d1 (s1.trans d2) p1 (ok_d (.obj upd_same (c2.mono fz.2))) hk
  · rintro Cx d v u S' R' H' as' r' hd' hv ⟨hS, hk⟩
    obtain ⟨b1, b2⟩ := back r' hS
    exact hE Cx d v u S1 R' H' as1 b1 hd' hv hk

/-! ### methods of built-in types -/
def IsLst (x : Ent) (S : List Own) (ds : List D) : Prop := x = .d (.lst ds) ∨ ∃ i, x = .own i ∧ S[i]? = some (.lst ds)
theorem isLst_at {R H : Hp} {as : List Addr} {v : V} {x : Ent} {ds : List D} (o : IsLst x S ds) (r : Rel w R H as S) (e : EntOk w.K R as v x) : ∃ a vs, v = .ref a ∧ H a = some (.lst vs) ∧ Dens w.K R vs ds := by
  rcases o with rfl | ⟨i, rfl, hi⟩
  · cases e with
    | lst h1 h2 => exact ⟨_, _, rfl, r.sub _ _ h1, h2⟩
  · obtain ⟨a, ha, rfl⟩ := e
    obtain ⟨⟨z, vs, h1, h2⟩, _⟩ := r.reg i _ a hi ha (by intro z; cases z)
    exact ⟨a, vs, rfl, h1, h2⟩
theorem le_bmL {r : V → List V → Hp → VK → Prop} {t : TA} (h : LE w ta Γ S fun x S1 => (∃ ds, IsLst x S1 ds) ∧ LA w t Γ S1 fun xs S2 => RM w r x xs S2 k) : LE w (tBM w.K "list" r ta t) Γ S k := fun σ R H as Q rl s c => by
  refine h σ R H as _ rl s fun v x S1 R1 H1 as1 rl1 s1 p1 e1 ⟨⟨ds, h1⟩, h3⟩ => ?_
  obtain ⟨a, vs, rfl, q2, q3⟩ := isLst_at h1 rl1 e1
  refine ⟨.inl ⟨rfl, vs, SqL.of q2⟩, ?_⟩
  refine h3 σ R1 H1 as1 _ rl1 (s.mono s1 p1) fun vs es S2 R2 H2 as2 rl2 s2 p2 e2 h4 => ?_
  exact h4 R2 H2 as2 _ _ Q rl2 (e1.mono s2 p2) e2 fun v' e' S' R' H' as' a1 a2 a3 a4 a5 => c v' e' S' R' H' as' a1 ((s1.trans s2).trans a2) ((p1.trans p2).trans a3) a4 a5
theorem le_bmL0 {r : V → List V → Hp → VK → Prop} (h : LE w ta Γ S fun x S1 => (∃ ds, IsLst x S1 ds) ∧ RM w r x [] S1 k) : LE w (tBM0 w.K "list" r ta) Γ S k := fun σ R H as Q rl s c => by
  refine h σ R H as _ rl s fun v x S1 R1 H1 as1 rl1 s1 p1 e1 ⟨⟨ds, h1⟩, h3⟩ => ?_
  obtain ⟨a, vs, rfl, q2, q3⟩ := isLst_at h1 rl1 e1
  refine ⟨.inl ⟨rfl, vs, SqL.of q2⟩, ?_⟩
  exact h3 R1 H1 as1 _ _ Q rl1 e1 trivial fun v' e' S' R' H' as' a1 a2 a3 a4 a5 => c v' e' S' R' H' as' a1 (s1.trans a2) (p1.trans a3) a4 a5
theorem rm_append {i : Nat} {ds : List D} {d : D} (hi : S[i]? = some (.lst ds)) (hl : ds.length < sizeLine) (q : k (.d .non) (S.set i (.lst (ds ++ [d])))) : RM w rAppend (.own i) [.d d] S k := fun R H as u us Q rl hu hus c => by
  obtain ⟨a, ha, rfl⟩ := hu
  obtain ⟨⟨z, vs, c1, c2⟩, _⟩ := rl.reg i _ a hi ha (by intro z; cases z)
  match us, hus with
  | [v], ⟨hv, _⟩ =>
    refine ⟨a, vs, v, rfl, rfl, c1, by rw [c2.len]; exact hl, ?_⟩
    have rl2 := rl.write (o' := .lst (ds ++ [d])) (u := .lst (vs ++ [v])) hi ha (by intro z; cases z) (by intro z; cases z) ⟨z, _, upd_same, c2.append (.cons hv .nil)⟩
    exact c .non (.d .non) _ R _ as rl2 (Sub.refl _) (Pre.refl _) (ok_d .non) q
theorem rm_extend {i : Nat} {ds es : List D} (hi : S[i]? = some (.lst ds)) (hl : ds.length + es.length ≤ sizeLine) (q : k (.d .non) (S.set i (.lst (ds ++ es)))) : RM w rExtend (.own i) [.d (.lst es)] S k := fun R H as u us Q rl hu hus c => by
  obtain ⟨a, ha, rfl⟩ := hu
  obtain ⟨⟨z, vs, c1, c2⟩, _⟩ := rl.reg i _ a hi ha (by intro z; cases z)
  match us, hus with
  | [v], ⟨hv, _⟩ =>
    cases hv with
    | lst h1 h2 =>
      rename_i b ws
      refine ⟨a, b, vs, ws, rfl, rfl, c1, rl.sub _ _ h1, by rw [c2.len, h2.len]; exact hl, ?_⟩
      have rl2 := rl.write (o' := .lst (ds ++ es)) (u := .lst (vs ++ ws)) hi ha (by intro z; cases z) (by intro z; cases z) ⟨z, _, upd_same, c2.append h2⟩
      exact c .non (.d .non) _ R _ as rl2 (Sub.refl _) (Pre.refl _) (ok_d .non) q
theorem lg_sub {to ti : TE} {e : D} {k : Env → List Own → Prop} (h : LE w to Γ S fun x S1 => LE w ti Γ S1 fun y S2 => ∃ i ds n j, x = .own i ∧ S2[i]? = some (.lst ds) ∧ y = .d (.int n) ∧ ixN ds.length n = some j ∧ k Γ (S2.set i (.lst (ds.set j e)))) : LG w (gSub to ti rSetL) (.d e) Γ S k := fun v σ R H as Q rl s he c => by
  refine h σ R H as _ rl s fun u x S1 R1 H1 as1 rl1 s1 p1 e1 h1 => ?_
  refine h1 σ R1 H1 as1 _ rl1 (s.mono s1 p1) fun u2 y S2 R2 H2 as2 rl2 s2 p2 e2 q => ?_
  obtain ⟨i, ds, n, j, rfl, q1, rfl, q2, q3⟩ := q
  obtain ⟨a, ha, rfl⟩ := e1.mono s2 p2
  obtain ⟨⟨z, vs, c1, c2⟩, _⟩ := rl2.reg i _ a q1 ha (by intro z; cases z)
  cases e2
  have hv : Den w.K R2 v e := (he.mono (s1.trans s2) (p1.trans p2) : EntOk w.K R2 as2 v (.d e))
  refine ⟨a, vs, n, j, rfl, rfl, c1, by rw [c2.len]; exact q2, ?_⟩
  have rl3 := rl2.write (o' := .lst (ds.set j e)) (u := .lst (vs.set j v)) q1 ha (by intro z; cases z) (by intro z; cases z) ⟨z, _, upd_same, c2.set hv j⟩
  exact c Γ _ σ R2 _ as2 rl3 (s1.trans s2) (p1.trans p2) (s.mono (s1.trans s2) (p1.trans p2)) q3

/-! ### slices, sums of lists and tuples -/
def LO (w : Wd) (t : TO) (Γ : Env) (S : List Own) (k : Option Int → List Own → Prop) : Prop :=
  ∀ (σ : St) (R H : Hp) (as : List Addr) (Q : Option Int → Hp → Prop), Rel w R H as S → Sts w.K R as σ Γ →
    (∀ o S' R' H' as', Rel w R' H' as' S' → Sub R R' → Pre as as' → k o S' → Q o H') → t σ H Q
theorem lo_none {k : Option Int → List Own → Prop} (q : k none S) : LO w tNoPart Γ S k := fun σ R H as Q rl s c => c none S R H as rl (Sub.refl _) (Pre.refl _) q
theorem lo_some {k : Option Int → List Own → Prop} (h : LE w te Γ S fun e S1 => ∃ i, e = .d (.int i) ∧ k (some i) S1) : LO w (tPart te) Γ S k := fun σ R H as Q rl s c =>
  h σ R H as _ rl s fun v e S1 R1 H1 as1 rl1 s1 p1 e1 ⟨i, h1, h2⟩ => by
    subst h1; cases e1
    exact ⟨i, rfl, c _ S1 R1 H1 as1 rl1 s1 p1 h2⟩
def cutD (xs : List D) (lo hi : Option Int) : List D := (xs.drop (HT.sIx xs.length 0 lo)).take (HT.sIx xs.length xs.length hi - HT.sIx xs.length 0 lo)
theorem cut_dens {K : PySem.W.Frag} {R : Hp} {vs : List V} {ds : List D} (h : Dens K R vs ds) (lo hi : Option Int) : Dens K R (cutV vs lo hi) (cutD ds lo hi) := by
  unfold cutV cutD
  rw [h.len]
  exact (h.drop _).take _
theorem le_slL {tl th : TO} (h : LE w te Γ S fun x S1 => LO w tl Γ S1 fun lo S2 => LO w th Γ S2 fun hi S3 => ∃ ds, IsLst x S3 ds ∧ k (.d (.lst (cutD ds lo hi))) S3) : LE w (tSl (rSlL w.K) te tl th) Γ S k := fun σ R H as Q rl s c => by
  refine h σ R H as _ rl s fun v x S1 R1 H1 as1 rl1 s1 p1 e1 h1 => ?_
  refine h1 σ R1 H1 as1 _ rl1 (s.mono s1 p1) fun lo S2 R2 H2 as2 rl2 s2 p2 h2 => ?_
  refine h2 σ R2 H2 as2 _ rl2 (s.mono (s1.trans s2) (p1.trans p2)) fun hi S3 R3 H3 as3 rl3 s3 p3 ⟨ds, h3, h4⟩ => ?_
  obtain ⟨a, vs, rfl, q2, q3⟩ := isLst_at h3 rl3 ((e1.mono s2 p2).mono s3 p3)
  refine ⟨a, vs, rfl, SqL.of q2, fun p hp => ?_⟩
  obtain ⟨rl4, s4⟩ := rl3.alloc hp (.lst (cutV vs lo hi))
  exact c _ _ S3 _ _ as3 rl4 (((s1.trans s2).trans s3).trans s4) ((p1.trans p2).trans p3) (ok_d (Den.lst upd_same ((cut_dens q3 lo hi).mono s4))) h4
/-- the same, into the store -/
theorem le_slLO {tl th : TO} (h : LE w te Γ S fun x S1 => LO w tl Γ S1 fun lo S2 => LO w th Γ S2 fun hi S3 => ∃ ds, IsLst x S3 ds ∧ k (.own S3.length) (S3 ++ [.lst (cutD ds lo hi)])) : LE w (tSl (rSlL w.K) te tl th) Γ S k := fun σ R H as Q rl s c => by
  refine h σ R H as _ rl s fun v x S1 R1 H1 as1 rl1 s1 p1 e1 h1 => ?_
  refine h1 σ R1 H1 as1 _ rl1 (s.mono s1 p1) fun lo S2 R2 H2 as2 rl2 s2 p2 h2 => ?_
  refine h2 σ R2 H2 as2 _ rl2 (s.mono (s1.trans s2) (p1.trans p2)) fun hi S3 R3 H3 as3 rl3 s3 p3 ⟨ds, h3, h4⟩ => ?_
  obtain ⟨a, vs, rfl, q2, q3⟩ := isLst_at h3 rl3 ((e1.mono s2 p2).mono s3 p3)
  refine ⟨a, vs, rfl, SqL.of q2, fun p hp => ?_⟩
  have rl4 := rl3.allocO hp (.lst (cutV vs lo hi)) (o := .lst (cutD ds lo hi)) ⟨(rl3.fresh hp).1, _, upd_same, cut_dens q3 lo hi⟩
  exact c _ _ _ _ _ _ rl4 ((s1.trans s2).trans s3) (((p1.trans p2).trans p3).trans (Pre.app _ _)) (ok_own (by rw [← rl3.len]; exact List.getElem?_concat_length)) h4
theorem le_slT {tl th : TO} (h : LE w te Γ S fun x S1 => LO w tl Γ S1 fun lo S2 => LO w th Γ S2 fun hi S3 => ∃ ds, x = .d (.tup ds) ∧ ¬ (HT.sIx ds.length 0 lo = 0 ∧ HT.sIx ds.length ds.length hi = ds.length) ∧ k (.d (.tup (cutD ds lo hi))) S3) : LE w (tSl (rSlT w.K) te tl th) Γ S k := fun σ R H as Q rl s c => by
  refine h σ R H as _ rl s fun v x S1 R1 H1 as1 rl1 s1 p1 e1 h1 => ?_
  refine h1 σ R1 H1 as1 _ rl1 (s.mono s1 p1) fun lo S2 R2 H2 as2 rl2 s2 p2 h2 => ?_
  refine h2 σ R2 H2 as2 _ rl2 (s.mono (s1.trans s2) (p1.trans p2)) fun hi S3 R3 H3 as3 rl3 s3 p3 ⟨ds, h3, hn, h4⟩ => ?_
  subst h3
  have e3 := (e1.mono s2 p2).mono s3 p3
  cases e3 with
  | tup ha hd =>
    rename_i a vs
    refine ⟨a, vs, rfl, SqT.of (rl3.sub _ _ ha), by rw [hd.len]; exact hn, fun p hp => ?_⟩
    obtain ⟨rl4, s4⟩ := rl3.alloc hp (.tup (cutV vs lo hi))
    exact c _ _ S3 _ _ as3 rl4 (((s1.trans s2).trans s3).trans s4) ((p1.trans p2).trans p3) (ok_d (Den.tup upd_same ((cut_dens hd lo hi).mono s4))) h4
theorem rr_cat {x y : Ent} {xs ys : List D} (hx : IsLst x S xs) (hy : IsLst y S ys) (hl : xs.length + ys.length ≤ sizeLine) (q : k (.d (.lst (xs ++ ys))) S) : RR w rCat x y S k := fun R H as u v Q rl hu hv c => by
  obtain ⟨a, vs, rfl, q2, q3⟩ := isLst_at hx rl hu
  obtain ⟨b, ws, rfl, q4, q5⟩ := isLst_at hy rl hv
  refine ⟨a, b, vs, ws, rfl, rfl, q2, q4, by rw [q3.len, q5.len]; exact hl, fun p hp => ?_⟩
  obtain ⟨rl2, s2⟩ := rl.alloc hp (.lst (vs ++ ws))
  exact c _ _ S _ _ as rl2 s2 (Pre.refl _) (ok_d (Den.lst upd_same ((q3.append q5).mono s2))) q
theorem rr_catT {xs ys : List D} (hn : xs ≠ []) (hl : xs.length + ys.length ≤ sizeLine) (q : k (.d (.tup (xs ++ ys))) S) : RR w (rCatT w.K) (.d (.tup xs)) (.d (.tup ys)) S k := fun R H as u v Q rl hu hv c => by
  cases hu with
  | tup h1 h2 =>
    cases hv with
    | tup h3 h4 =>
      rename_i a vs b ws
      refine ⟨a, b, vs, ws, rfl, rfl, SqT.of (rl.sub _ _ h1), SqT.of (rl.sub _ _ h3), fun z => hn ?_, by rw [h2.len, h4.len]; exact hl, fun z => ?_, fun z p hp => ?_⟩
      · subst z; cases h2; rfl
      · subst z; cases h4
        rw [List.append_nil] at q
        exact c _ _ S R H as rl (Sub.refl _) (Pre.refl _) (ok_d (Den.tup h1 h2)) q
      · obtain ⟨rl2, s2⟩ := rl.alloc hp (.tup (vs ++ ws))
        exact c _ _ S _ _ as rl2 s2 (Pre.refl _) (ok_d (Den.tup upd_same ((h2.append h4).mono s2))) q

/-! ### built-ins -/
def gLen (K : PySem.W.Frag) : List V → Hp → VK → Prop := fun xs H Q => ∃ p ys, xs = [.ref p] ∧ (SqL K H p ys ∨ SqT K H p ys) ∧ Q (.int ys.length) H
def gAbs : List V → Hp → VK → Prop := fun xs H Q => ∃ i, xs = [.int i] ∧ Q (.int (if i < 0 then -i else i)) H
def gMax2 : List V → Hp → VK → Prop := fun xs H Q => ∃ i j, xs = [.int i, .int j] ∧ Q (.int (if j > i then j else i)) H
def gMin2 : List V → Hp → VK → Prop := fun xs H Q => ∃ i j, xs = [.int i, .int j] ∧ Q (.int (if j < i then j else i)) H
def gInt1 : List V → Hp → VK → Prop := fun xs H Q => (∃ i, xs = [.int i] ∧ Q (.int i) H) ∨ ∃ k, xs = [.bl k] ∧ Q (.int (if k then 1 else 0)) H
def gList (K : PySem.W.Frag) : List V → Hp → VK → Prop := fun xs H Q => ∃ p ys, xs = [.ref p] ∧ (SqL K H p ys ∨ SqT K H p ys) ∧ ∀ l, H l = none → Q (.ref l) (upd H l (.lst ys))
section
variable {X : Cx}
theorem c_len : CallR X (.builtin "len") (gLen X.K) := call_len_seq
theorem c_abs : CallR X (.builtin "abs") gAbs := call_abs
theorem c_max2 (hc : X.calm = true) : CallR X (.builtin "max") gMax2 := call_max2 hc
theorem c_min2 (hc : X.calm = true) : CallR X (.builtin "min") gMin2 := call_min2 hc
theorem c_int1 : CallR X (.type "int") gInt1 := call_int1
theorem c_list : CallR X (.type "list") (gList X.K) := call_list_of
end
theorem one_ent {K : PySem.W.Frag} {R : Hp} {as : List Addr} {us : List V} {x : Ent} (h : EntsOk K R as us [x]) : ∃ v, us = [v] ∧ EntOk K R as v x := by
  match us, h with
  | [v], ⟨h, _⟩ => exact ⟨v, rfl, h⟩
theorem two_ent {K : PySem.W.Frag} {R : Hp} {as : List Addr} {us : List V} {x y : Ent} (h : EntsOk K R as us [x, y]) : ∃ v u, us = [v, u] ∧ EntOk K R as v x ∧ EntOk K R as u y := by
  match us, h with
  | [v, u], ⟨h, h', _⟩ => exact ⟨v, u, rfl, h, h'⟩
def lenOf : D → Option Nat
  | .scr ns => some ns.length
  | .lst xs => some xs.length
  | .tup xs => some xs.length
  | _ => none
theorem rc_len {x : D} {n : Nat} (h : lenOf x = some n) (q : k (.d (.int n)) S) : RC w (gLen w.K) [.d x] S k := fun R H as us Q rl hu c => by
  obtain ⟨v, rfl, hv⟩ := one_ent hu
  have hv' : Den w.K R v x := hv
  cases hv' with
  | non => cases h
  | bl _ => cases h
  | int _ => cases h
  | str _ => cases h
  | obj _ _ => cases h
  | cls _ => cases h
  | ty _ => cases h
  | exn _ _ => cases h
  | eob _ _ _ => cases h
  | scr h1 =>
    cases h
    exact ⟨_, _, rfl, .inl (sub_seq rl.sub h1), by rw [List.length_map]; exact c _ _ S R H as rl (Sub.refl _) (Pre.refl _) (ok_d (Den.int _)) q⟩
  | lst h1 h2 =>
    cases h
    exact ⟨_, _, rfl, .inl (SqL.of (rl.sub _ _ h1)), by rw [h2.len]; exact c _ _ S R H as rl (Sub.refl _) (Pre.refl _) (ok_d (Den.int _)) q⟩
  | tup h1 h2 =>
    cases h
    exact ⟨_, _, rfl, .inr (SqT.of (rl.sub _ _ h1)), by rw [h2.len]; exact c _ _ S R H as rl (Sub.refl _) (Pre.refl _) (ok_d (Den.int _)) q⟩
theorem rc_lenO {i : Nat} {ds : List D} (hi : S[i]? = some (.lst ds)) (q : k (.d (.int ds.length)) S) : RC w (gLen w.K) [.own i] S k := fun R H as us Q rl hu c => by
  obtain ⟨v, rfl, hv⟩ := one_ent hu
  obtain ⟨a, vs, rfl, q2, q3⟩ := isLst_at (.inr ⟨i, rfl, hi⟩) rl hv
  exact ⟨_, _, rfl, .inl (SqL.of q2), by rw [q3.len]; exact c _ _ S R H as rl (Sub.refl _) (Pre.refl _) (ok_d (Den.int _)) q⟩
theorem rc_abs {i : Int} (q : k (.d (.int (if i < 0 then -i else i))) S) : RC w gAbs [.d (.int i)] S k := fun R H as us Q rl hu c => by
  obtain ⟨v, rfl, hv⟩ := one_ent hu
  cases hv
  exact ⟨i, rfl, c _ _ S R H as rl (Sub.refl _) (Pre.refl _) (ok_d (Den.int _)) q⟩
theorem rc_max2 {i j : Int} (q : k (.d (.int (if j > i then j else i))) S) : RC w gMax2 [.d (.int i), .d (.int j)] S k := fun R H as us Q rl hu c => by
  obtain ⟨v, u, rfl, hv, hv2⟩ := two_ent hu
  cases hv; cases hv2
  exact ⟨i, j, rfl, c _ _ S R H as rl (Sub.refl _) (Pre.refl _) (ok_d (Den.int _)) q⟩
theorem rc_min2 {i j : Int} (q : k (.d (.int (if j < i then j else i))) S) : RC w gMin2 [.d (.int i), .d (.int j)] S k := fun R H as us Q rl hu c => by
  obtain ⟨v, u, rfl, hv, hv2⟩ := two_ent hu
  cases hv; cases hv2
  exact ⟨i, j, rfl, c _ _ S R H as rl (Sub.refl _) (Pre.refl _) (ok_d (Den.int _)) q⟩
theorem rc_int {i : Int} (q : k (.d (.int i)) S) : RC w gInt1 [.d (.int i)] S k := fun R H as us Q rl hu c => by
  obtain ⟨v, rfl, hv⟩ := one_ent hu
  cases hv
  exact .inl ⟨i, rfl, c _ _ S R H as rl (Sub.refl _) (Pre.refl _) (ok_d (Den.int _)) q⟩
theorem rc_intB {b : Bool} (q : k (.d (.int (if b then 1 else 0))) S) : RC w gInt1 [.d (.bl b)] S k := fun R H as us Q rl hu c => by
  obtain ⟨v, rfl, hv⟩ := one_ent hu
  cases hv
  exact .inr ⟨b, rfl, c _ _ S R H as rl (Sub.refl _) (Pre.refl _) (ok_d (Den.int _)) q⟩
def itemsOf : D → Option (List D)
  | .lst xs => some xs
  | .tup xs => some xs
  | _ => none
theorem rc_list {x : D} {ds : List D} (h : itemsOf x = some ds) (q : k (.d (.lst ds)) S) : RC w (gList w.K) [.d x] S k := fun R H as us Q rl hu c => by
  obtain ⟨v, rfl, hv⟩ := one_ent hu
  have hv' : Den w.K R v x := hv
  cases hv' with
  | non => cases h
  | bl _ => cases h
  | int _ => cases h
  | str _ => cases h
  | obj _ _ => cases h
  | cls _ => cases h
  | ty _ => cases h
  | exn _ _ => cases h
  | eob _ _ _ => cases h
  | scr h1 => cases h
  | lst h1 h2 =>
    cases h
    refine ⟨_, _, rfl, .inl (SqL.of (rl.sub _ _ h1)), fun p hp => ?_⟩
    obtain ⟨rl2, s2⟩ := rl.alloc hp (.lst _)
    exact c _ _ S _ _ as rl2 s2 (Pre.refl _) (ok_d (Den.lst upd_same (h2.mono s2))) q
  | tup h1 h2 =>
    cases h
    refine ⟨_, _, rfl, .inr (SqT.of (rl.sub _ _ h1)), fun p hp => ?_⟩
    obtain ⟨rl2, s2⟩ := rl.alloc hp (.lst _)
    exact c _ _ S _ _ as rl2 s2 (Pre.refl _) (ok_d (Den.lst upd_same (h2.mono s2))) q
/-- list(xs) of a list of the store -/
theorem rc_listO {i : Nat} {ds : List D} (hi : S[i]? = some (.lst ds)) (q : k (.d (.lst ds)) S) : RC w (gList w.K) [.own i] S k := fun R H as us Q rl hu c => by
  obtain ⟨v, rfl, hv⟩ := one_ent hu
  obtain ⟨a, vs, rfl, q2, q3⟩ := isLst_at (.inr ⟨i, rfl, hi⟩) rl hv
  refine ⟨_, _, rfl, .inl (SqL.of q2), fun p hp => ?_⟩
  obtain ⟨rl2, s2⟩ := rl.alloc hp (.lst vs)
  exact c _ _ S _ _ as rl2 s2 (Pre.refl _) (ok_d (Den.lst upd_same (q3.mono s2))) q
end
end Gm
namespace Gm
open PySem L2

section
variable {w : Wd} {Γ : Env} {S : List Own} {k : KE} {ta tb te : TE} {G : GE} {f : DS} {E : XK}
/-! ### comprehensions: the list under way stands last in the store -/
theorem take_app {α : Type} {xs : List α} {x : α} : (xs ++ [x]).length = xs.length + 1 := by simp
theorem Rel.drop1 {R H : Hp} {as : List Addr} {o : Own} (r : Rel w R H as (S ++ [o])) : Rel w R H as (S ++ [.gone]) := by
  have hl : ∀ (i : Nat) (u : Own), (S ++ [Own.gone])[i]? = some u → u ≠ .gone → (S ++ [o])[i]? = some u := fun i u h n => by
    by_cases hi : i < S.length
    · rw [List.getElem?_append_left hi] at h ⊢; exact h
    · have h' := (List.getElem?_eq_some_iff.mp h).1
      rw [take_app] at h'
      have e : i = S.length := by omega
      subst e
      rw [List.getElem?_concat_length] at h
      cases h; exact absurd rfl n
  exact ⟨r.r0, r.sub, r.keep, r.there, r.pre, r.orig, by rw [r.len, take_app, take_app], fun i u a h1 h2 h3 => r.reg i u a (hl i u h1 h3) h2 h3, fun i j a u v h1 h2 n1 n2 => r.dist i j a u v (hl i u h1 n1) (hl j v h2 n2) n1 n2⟩
/-- a place that holds nothing may be forgotten at the end -/
theorem Rel.pop {R H : Hp} {as : List Addr} (r : Rel w R H as (S ++ [.gone])) (hp : w.as0.length ≤ S.length) : Rel w R H (as.take S.length) S := by
  have lt : ∀ {i : Nat} {a : Addr}, (as.take S.length)[i]? = some a → as[i]? = some a ∧ i < S.length := fun {i a} h => by
    have hi := (List.getElem?_eq_some_iff.mp h).1
    rw [List.length_take] at hi
    rw [List.getElem?_take] at h
    split at h
    · exact ⟨h, by omega⟩
    · cases h
  have ls : ∀ {i : Nat} {o : Own}, S[i]? = some o → (S ++ [Own.gone])[i]? = some o := fun {i o} h => by
    rw [List.getElem?_append_left (List.getElem?_eq_some_iff.mp h).1]; exact h
  have hlen := r.len
  rw [take_app] at hlen
  refine ⟨r.r0, r.sub, r.keep, r.there, fun i a h => ?_, r.orig, by rw [List.length_take]; omega, fun i o a h1 h2 h3 => r.reg i o a (ls h1) (lt h2).1 h3, fun i j a o u h1 h2 n1 n2 a1 a2 => r.dist i j a o u (ls h1) (ls h2) n1 n2 (lt a1).1 (lt a2).1⟩
  have := (List.getElem?_eq_some_iff.mp h).1
  rw [List.getElem?_take, if_pos (by omega)]
  exact r.pre i a h

theorem lt_yes {kb : Bool → List Own → Prop} (q : kb true S) : LT w tYes Γ S kb := fun σ R H as Q rl s c => c true S R H as rl (Sub.refl _) (Pre.refl _) q
theorem Rel.as0_le {R H : Hp} {as : List Addr} (r : Rel w R H as S) : w.as0.length ≤ S.length := by
  cases h : w.as0.length with
  | zero => exact Nat.zero_le _
  | succ n =>
    have hn : n < w.as0.length := by omega
    have := (List.getElem?_eq_some_iff.mp (r.pre n _ (List.getElem?_eq_getElem hn))).1
    rw [← r.len]; omega
/-- what one turn asks -/
def LcT (w : Wd) (Γ : Env) (v : Nat) (tt : TT) (te : TE) (x : D) (acc : List D) (S2 : List Own) (N : List D → List Own → Prop) : Prop :=
  LT w tt (Γ.set v (some (.d x))) (S2 ++ [.lst acc]) fun b S3 =>
    (b = true → LE w te (Γ.set v (some (.d x))) S3 fun e S4 => ∃ d S5, e = .d d ∧ S4 = S5 ++ [.lst acc] ∧ S5.length = S2.length ∧ acc.length < sizeLine ∧ N (acc ++ [d]) S5) ∧
    (b = false → ∃ S5, S3 = S5 ++ [.lst acc] ∧ S5.length = S2.length ∧ N acc S5)
def LcP (w : Wd) (R1 : Hp) (as1 : List Addr) (n : Nat) (Dl : Addr) (I : List D → List Own → Prop) (H : Hp) : Prop :=
  ∃ S' R' as' acc, Rel w R' H as' (S' ++ [.lst acc]) ∧ Sub R1 R' ∧ Pre as1 as' ∧ as'[S'.length]? = some Dl ∧ S'.length = n ∧ I acc S'
theorem lc_turn {v : Nat} {tt : TT} {σ : St} {R1 R2 H2 : Hp} {as1 as2 : List Addr} {S2 : List Own} {acc : List D} {x : D} {u : V} {Dl : Addr} {N : List D → List Own → Prop} (st : Sts w.K R1 as1 σ Γ)
    (rl : Rel w R2 H2 as2 (S2 ++ [.lst acc])) (sb : Sub R1 R2) (pr : Pre as1 as2) (hD : as2[S2.length]? = some Dl) (hx : Den w.K R2 u x) (h : LcT w Γ v tt te x acc S2 N) :
    gName v u (wipe σ [v]) H2 fun σ2 H3 => wipe σ2 [v] = wipe σ [v] ∧ tt σ2 H3 fun b H4 => if b = true then te σ2 H4 fun y H5 => ∃ acc, H5 Dl = some (.lst acc) ∧ acc.length < sizeLine ∧ LcP w R1 as1 S2.length Dl N (upd H5 Dl (.lst (acc ++ [y]))) else LcP w R1 as1 S2.length Dl N H4 := by
  have e1 : (σ.set v none).set v (some u) = σ.set v (some u) := List.set_set ..
  refine ⟨?_, ?_⟩
  · show ((wipe σ [v]).set v (some u)).set v none = σ.set v none
    show (((σ.set v none).set v (some u))).set v none = σ.set v none
    rw [List.set_set, List.set_set]
  · have st2 : Sts w.K R2 as2 ((wipe σ [v]).set v (some u)) (Γ.set v (some (.d x))) := by
      show Sts w.K R2 as2 ((σ.set v none).set v (some u)) _
      rw [e1]
      exact (st.mono sb pr).set v (ok_d hx)
    refine h _ R2 H2 as2 _ rl st2 fun b S3 R3 H3 as3 rl3 s3 p3 q => ?_
    cases b with
    | true =>
      rw [if_pos rfl]
      refine q.1 rfl _ R3 H3 as3 _ rl3 (st2.mono s3 p3) fun y e S4 R4 H4 as4 rl4 s4 p4 e4 q4 => ?_
      obtain ⟨d, S5, rfl, rfl, hl, hz, hn⟩ := q4
      have hi : (S5 ++ [Own.lst acc])[S5.length]? = some (.lst acc) := List.getElem?_concat_length
      have ha : as4[S5.length]? = some Dl := by rw [hl]; exact p4 _ _ (p3 _ _ hD)
      obtain ⟨⟨z, vs, c1, c2⟩, _⟩ := rl4.reg _ _ _ hi ha (by intro z; cases z)
      refine ⟨vs, c1, by rw [c2.len]; exact hz, S5, R4, as4, acc ++ [d], ?_, (sb.trans s3).trans s4, (pr.trans p3).trans p4, ha, hl, hn⟩
      have rl5 := rl4.write (o' := .lst (acc ++ [d])) (u := .lst (vs ++ [y])) hi ha (by intro z; cases z) (by intro z; cases z) ⟨z, _, upd_same, c2.append (.cons e4 .nil)⟩
      have es : (S5 ++ [Own.lst acc]).set S5.length (.lst (acc ++ [d])) = S5 ++ [.lst (acc ++ [d])] := by
        rw [List.set_append_right _ _ (Nat.le_refl _), Nat.sub_self]; rfl
      rw [es] at rl5
      exact rl5
    | false =>
      rw [if_neg Bool.false_ne_true]
      obtain ⟨S5, rfl, hl, hn⟩ := q.2 rfl
      exact ⟨S5, R3, as3, acc, rl3, sb.trans s3, pr.trans p3, by rw [hl]; exact p3 _ _ hD, hl, hn⟩
theorem lc_end {R1 H : Hp} {as1 : List Addr} {n : Nat} {Dl : Addr} {I : List D → List Own → Prop} (hn : as1.length = n) (hw : w.as0.length ≤ n) (h : LcP w R1 as1 n Dl I H) : ∃ acc S' R' as', Rel w R' H as' S' ∧ Sub R1 R' ∧ Pre as1 as' ∧ Den w.K R' (.ref Dl) (.lst acc) ∧ I acc S' := by
  obtain ⟨S', R', as', acc, rl, sb, pr, hD, hl, hi⟩ := h
  have hg : (S' ++ [Own.lst acc])[S'.length]? = some (.lst acc) := List.getElem?_concat_length
  obtain ⟨⟨z, vs, c1, c2⟩, _⟩ := rl.reg _ _ _ hg hD (by intro z; cases z)
  obtain ⟨rl2, s2⟩ := rl.freeze hg hD (by intro z; cases z) c1
  have es : (S' ++ [Own.lst acc]).set S'.length .gone = S' ++ [.gone] := by
    rw [List.set_append_right _ _ (Nat.le_refl _), Nat.sub_self]; rfl
  rw [es] at rl2
  refine ⟨acc, S', _, _, rl2.pop (by rw [hl]; exact hw), sb.trans s2, fun i a hia => ?_, .lst upd_same (c2.mono s2), hi⟩
  have hil := (List.getElem?_eq_some_iff.mp hia).1
  rw [List.getElem?_take, if_pos (by omega)]
  exact pr i a hia
theorem lc_begin {R1 H1 : Hp} {as1 : List Addr} {S1 : List Own} {Dl : Addr} {I : List D → List Own → Prop} (rl : Rel w R1 H1 as1 S1) (hD : H1 Dl = none) (h : I [] S1) : LcP w R1 as1 S1.length Dl I (upd H1 Dl (.lst [])) :=
  ⟨S1, R1, as1 ++ [Dl], [], rl.allocO hD _ ⟨(rl.fresh hD).1, [], upd_same, .nil⟩, Sub.refl _, Pre.app _ _, by rw [← rl.len]; exact List.getElem?_concat_length, rfl, h⟩
theorem le_lcR {wi : TI} {v : Nat} {tt : TT} (h : LR w wi Γ S fun lo n S1 => ∃ I : Nat → List D → List Own → Prop, I 0 [] S1 ∧
    (∀ i acc S2, i < n → S2.length = S1.length → I i acc S2 → LcT w Γ v tt te (.int (lo + i)) acc S2 (I (i + 1))) ∧ (∀ acc S2, I n acc S2 → k (.d (.lst acc)) S2)) : LE w (tLc wi (gName v) tt te [v]) Γ S k := fun σ R H as Q rl s c => by
  refine h σ R H as _ rl s fun lo n S1 R1 H1 as1 rl1 s1 p1 ⟨I, i0, is, iE⟩ Dl hD => ?_
  refine lc_range (fun i H => LcP w R1 as1 S1.length Dl (I i) H) (lc_begin rl1 hD i0) (fun i H2 hi p => ?_) fun H2 p => ?_
  · obtain ⟨S2, R2, as2, acc, rl2, sb, pr, ha, hl, hi2⟩ := p
    have := lc_turn (Dl := Dl) (s.mono s1 p1) rl2 sb pr ha (Den.int (lo + i)) (is i acc S2 hi hl hi2)
    rw [hl] at this
    exact this
  · obtain ⟨acc, S', R', as', q1, q2, q3, q4, q5⟩ := lc_end rl1.len rl1.as0_le p
    exact c _ _ S' R' _ as' q1 (s1.trans q2) (p1.trans q3) (ok_d q4) (iE acc S' q5)
theorem le_lcL {tl : TE} {v : Nat} {tt : TT} (h : LE w tl Γ S fun e S1 => ∃ ds, e = .d (.lst ds) ∧ ∃ I : Nat → List D → List Own → Prop, I 0 [] S1 ∧
    (∀ i d acc S2, ds[i]? = some d → S2.length = S1.length → I i acc S2 → LcT w Γ v tt te d acc S2 (I (i + 1))) ∧ (∀ acc S2, I ds.length acc S2 → k (.d (.lst acc)) S2)) : LE w (tLc (iList w.K tl) (gName v) tt te [v]) Γ S k := fun σ R H as Q rl s c => by
  refine h σ R H as _ rl s fun vl el S1 R1 H1 as1 rl1 s1 p1 e1 ⟨ds, h1, I, i0, is, iE⟩ => ?_
  subst h1
  cases e1 with
  | lst ha hd =>
    rename_i a vs
    refine ⟨a, rfl, ⟨vs, SqL.of (rl1.sub _ _ ha)⟩, fun Dl hD => ?_⟩
    refine lc_list (xs := vs) (fun i H => LcP w R1 as1 S1.length Dl (I i) H) (lc_begin rl1 hD i0) (fun i H2 hi p => ?_) (fun i x H2 hx p => ?_) fun H2 p => ?_
    · obtain ⟨S2, R2, as2, acc, rl2, sb, pr, ha2, hl, hi2⟩ := p
      exact SqL.of (rl2.sub _ _ (sb _ _ ha))
    · obtain ⟨S2, R2, as2, acc, rl2, sb, pr, ha2, hl, hi2⟩ := p
      obtain ⟨d, hd1, hd2⟩ := hd.get2 hx
      have := lc_turn (Dl := Dl) (s.mono s1 p1) rl2 sb pr ha2 (hd2.mono sb) (is i d acc S2 hd1 hl hi2)
      rw [hl] at this
      exact this
    · rw [hd.len] at p
      obtain ⟨acc, S', R', as', q1, q2, q3, q4, q5⟩ := lc_end rl1.len rl1.as0_le p
      exact c _ _ S' R' _ as' q1 (s1.trans q2) (p1.trans q3) (ok_d q4) (iE acc S' q5)

/-! ### deep == -/
mutual
def toP : D → Option PyData
  | .non => some .none
  | .bl b => some (.bool b)
  | .int i => some (.int i)
  | .str s => some (.str s)
  | .scr _ => none
  | .lst xs => (toPs xs).map PyData.list
  | .tup xs => (toPs xs).map PyData.tuple
  | .obj _ _ => none
  | .cls _ => none
  | .exn _ _ _ => none
  | .eob _ _ => none
  | .ty _ => none
def toPs : List D → Option (List PyData)
  | [] => some []
  | x :: xs => (toP x).bind fun y => (toPs xs).map (y :: ·)
end
mutual
theorem dp_of {K : PySem.W.Frag} {R H : Hp} (sb : Sub R H) : ∀ {v : V} {d : D} {p : PyData}, Den K R v d → toP d = some p → Dp K H v p
  | _, _, _, .non, e => by simp [toP] at e; subst e; exact .non
  | _, _, _, .bl b, e => by simp [toP] at e; subst e; exact .bl b
  | _, _, _, .int i, e => by simp [toP] at e; subst e; exact .int i
  | _, _, _, .str x, e => by simp [toP] at e; subst e; exact .str x
  | _, _, _, .scr h, e => by simp [toP] at e
  | _, _, _, .lst h r, e => by
    simp [toP] at e
    obtain ⟨ps, h1, h2⟩ := e
    subst h2
    exact .lst (SqL.of (sb _ _ h)) (dps_of sb r h1)
  | _, _, _, .tup h r, e => by
    simp [toP] at e
    obtain ⟨ps, h1, h2⟩ := e
    subst h2
    exact .tup (SqT.of (sb _ _ h)) (dps_of sb r h1)
  | _, _, _, .obj h r, e => by simp [toP] at e
  | _, _, _, .exn h r, e => by simp [toP] at e
  | _, _, _, .eob h i r, e => by simp [toP] at e
theorem dps_of {K : PySem.W.Frag} {R H : Hp} (sb : Sub R H) : ∀ {vs : List V} {ds : List D} {ps : List PyData}, Dens K R vs ds → toPs ds = some ps → DpAll K H vs ps
  | _, _, _, .nil, e => by simp [toPs] at e; subst e; exact .nil
  | _, _, _, .cons (d := d) (ds := ds) h r, e => by
    simp [toPs, Option.bind_eq_some_iff] at e
    obtain ⟨y, h1, ys, h2, h3⟩ := e
    subst h3
    exact .cons (dp_of sb h h1) (dps_of sb r h2)
end
/-- a thing of the store, as data -/
def entP (S : List Own) : Ent → Option PyData
  | .d x => toP x
  | .tup _ => none
  | .own i => match S[i]? with
    | some (.lst xs) => (toPs xs).map PyData.list
    | _ => none
theorem entP_dp {R H : Hp} {as : List Addr} {v : V} {x : Ent} {p : PyData} (rl : Rel w R H as S) (h : EntOk w.K R as v x) (e : entP S x = some p) : Dp w.K H v p := by
  cases x with
  | d x => exact dp_of rl.sub h e
  | tup es => simp [entP] at e
  | own i =>
    obtain ⟨a, ha, rfl⟩ := h
    simp only [entP] at e
    cases q : S[i]? with
    | none => rw [q] at e; cases e
    | some o =>
      rw [q] at e
      cases o with
      | ins _ _ => cases e
      | gone => cases e
      | dct _ => cases e
      | lat _ _ => cases e
      | sn _ => cases e
      | lst xs =>
        obtain ⟨⟨z, vs, c1, c2⟩, _⟩ := rl.reg i _ a q ha (by intro z; cases z)
        have e' : (toPs xs).map PyData.list = some p := e
        rw [Option.map_eq_some_iff] at e'
        obtain ⟨ps, h1, h2⟩ := e'
        subst h2
        exact .lst (SqL.of c1) (dps_of rl.sub c2 h1)
theorem rr_eqD {x y : Ent} {d e : PyData} (hx : entP S x = some d) (hy : entP S y = some e) (sd : SeqAt.shaped d = true) (se : SeqAt.shaped e = true) (q : k (.d (.bl (PyData.eqv d e))) S) : RR w (rEqD w.K) x y S k := fun R H as u v Q rl hu hv c =>
  ⟨d, e, entP_dp rl hu hx, entP_dp rl hv hy, sd, se, c _ _ S R H as rl (Sub.refl _) (Pre.refl _) (ok_d (Den.bl _)) q⟩
theorem rr_neD {x y : Ent} {d e : PyData} (hx : entP S x = some d) (hy : entP S y = some e) (sd : SeqAt.shaped d = true) (se : SeqAt.shaped e = true) (q : k (.d (.bl (!PyData.eqv d e))) S) : RR w (rNeD w.K) x y S k := fun R H as u v Q rl hu hv c =>
  ⟨d, e, entP_dp rl hu hx, entP_dp rl hv hy, sd, se, c _ _ S R H as rl (Sub.refl _) (Pre.refl _) (ok_d (Den.bl _)) q⟩

/-! ### freezing -/
theorem le_frz (i : Nat) {xs : List D} {t : TE} (h : LE w t Γ S fun e S1 => ∃ xs, e = .own i ∧ S1[i]? = some (.lst xs) ∧ k (.d (.lst xs)) (S1.set i .gone)) : LE w t Γ S k := fun σ R H as Q rl s c => by
  refine h σ R H as Q rl s fun v e S1 R1 H1 as1 rl1 s1 p1 e1 ⟨xs, h1, h2, h3⟩ => ?_
  subst h1
  obtain ⟨a, ha, rfl⟩ := e1
  obtain ⟨⟨z, vs, c1, c2⟩, _⟩ := rl1.reg i _ a h2 ha (by intro z; cases z)
  obtain ⟨rl2, s2⟩ := rl1.freeze h2 ha (by intro z; cases z) c1
  exact c _ _ _ _ H1 as1 rl2 (s1.trans s2) p1 (ok_d (.lst upd_same (c2.mono s2))) h3
/-- the list of the store at i, named by slot j, becomes data -/
theorem ls_frz {t : TS} (i j : Nat) {xs : List D} (hS : S[i]? = some (.lst xs)) (hΓ : Γ[j]? = some (some (.own i))) (h : LS w t (Γ.set j (some (.d (.lst xs)))) (S.set i .gone) G) : LS w t Γ S G := fun D σ R H as rl s e => by
  obtain ⟨v, hv, a, ha, rfl⟩ := s.get j _ hΓ
  obtain ⟨⟨z, vs, c1, c2⟩, _⟩ := rl.reg i _ a hS ha (by intro z; cases z)
  obtain ⟨rl2, s2⟩ := rl.freeze hS ha (by intro z; cases z) c1
  have st := (s.mono s2 (Pre.refl _)).set j (ok_d (K := w.K) (R := upd R a (.lst vs)) (as := as) (.lst upd_same (c2.mono s2)))
  have hl := (List.getElem?_eq_some_iff.mp hv)
  have e2 : σ.set j (some (.ref a)) = σ := by
    obtain ⟨hj, e⟩ := hl
    rw [← e]; exact List.set_getElem_self hj
  rw [e2] at st
  exact h D σ _ H as rl2 st (e.up s2)
theorem Sts.pop {K : PySem.W.Frag} {R : Hp} {as : List Addr} {σ : St} {Γ' : Env} {n : Nat} (h : Sts K R as σ Γ) (hl : Γ'.length = Γ.length) (hg : ∀ (j : Nat) (e : Ent), Γ'[j]? = some (some e) → Γ[j]? = some (some e) ∧ e.wf n = true) : Sts K R (as.take n) σ Γ' := by
  refine ⟨h.len.trans hl.symm, fun i e q => ?_⟩
  obtain ⟨q1, q2⟩ := hg i e q
  obtain ⟨v, h1, h2⟩ := h.get i e q1
  refine ⟨v, h1, ?_⟩
  cases e with
  | d x => exact h2
  | tup es => exact absurd q2 (by simp [Ent.wf])
  | own k =>
    obtain ⟨a, h3, h4⟩ := h2
    have hk : k < n := of_decide_eq_true q2
    exact ⟨a, by rw [List.getElem?_take, if_pos hk]; exact h3, h4⟩
/-- the last thing of the store is forgotten; Γ' names no more of it -/
theorem ls_forget {t : TS} {o : Own} {Γ' : Env} (hw : w.as0.length ≤ S.length) (hl : Γ'.length = Γ.length) (hg : ∀ (j : Nat) (e : Ent), Γ'[j]? = some (some e) → Γ[j]? = some (some e) ∧ e.wf S.length = true) (h : LS w t Γ' S G) : LS w t Γ (S ++ [o]) G := fun D σ R H as rl s e =>
  h D σ R H _ (rl.drop1.pop hw) (s.pop hl hg) e
/-- the last list of the store becomes data, named by slot j -/
theorem ls_frzL {t : TS} {xs : List D} {Γ' : Env} (j : Nat) (hj : Γ[j]? = some (some (.own S.length))) (hw : w.as0.length ≤ S.length) (hl : Γ'.length = Γ.length)
    (hg : ∀ (i : Nat) (e : Ent), Γ'[i]? = some (some e) → (Γ.set j (some (.d (.lst xs))))[i]? = some (some e) ∧ e.wf S.length = true) (h : LS w t Γ' S G) : LS w t Γ (S ++ [.lst xs]) G := by
  refine ls_frz S.length j (xs := xs) List.getElem?_concat_length hj ?_
  rw [show (S ++ [Own.lst xs]).set S.length .gone = S ++ [.gone] by rw [List.set_append_right _ _ (Nat.le_refl _), Nat.sub_self]; rfl]
  exact ls_forget hw (by rw [List.length_set]; exact hl) hg h
end

/-! ### a def's body -/
def startG (N : List Str) (es : List Ent) : Env := es.map some ++ List.replicate (N.length - es.length) none
theorem sts_start {K : PySem.W.Frag} {R : Hp} {as : List Addr} {N : List Str} {vs : List V} {es : List Ent} (h : EntsOk K R as vs es) : Sts K R as (L2.start N vs) (startG N es) := by
  have hl := h.len
  refine ⟨by unfold L2.start startG; rw [List.length_append, List.length_append, List.length_map, List.length_map, List.length_replicate, List.length_replicate, hl], fun i e q => ?_⟩
  unfold startG at q
  by_cases hi : i < es.length
  · rw [List.getElem?_append_left (by rw [List.length_map]; exact hi), List.getElem?_map] at q
    have : ∀ {vs : List V} {es : List Ent} {i : Nat} {e : Ent}, EntsOk K R as vs es → es[i]? = some e → ∃ v, vs[i]? = some v ∧ EntOk K R as v e := by
      intro vs es
      induction es generalizing vs with
      | nil => intro i e _ q; simp at q
      | cons x es ih =>
        intro i e h q
        cases vs with
        | nil => exact h.elim
        | cons v vs =>
          cases i with
          | zero => simp at q; subst q; exact ⟨v, rfl, h.1⟩
          | succ i => obtain ⟨u, a, b⟩ := ih h.2 (by simpa using q); exact ⟨u, by simpa using a, b⟩
    rw [List.getElem?_eq_getElem hi] at q
    have q' : es[i]'hi = e := by simpa using q
    obtain ⟨v, h1, h2⟩ := this h (List.getElem?_eq_getElem hi)
    rw [q'] at h2
    refine ⟨v, ?_, h2⟩
    unfold L2.start
    rw [List.getElem?_append_left (by rw [List.length_map, hl]; exact hi), List.getElem?_map, h1]; rfl
  · rw [List.getElem?_append_right (by rw [List.length_map]; omega)] at q
    rw [List.getElem?_replicate] at q
    split at q <;> simp at q
section
variable {P : Program} {w0 : World} {K : PySem.W.Frag} {mg : Str → Option Value} {base : Heap}
/-- a def that lets no exception out -/
theorem fn0 {x qual : Str} {st : Stmt} {f : Addr} {fd : FuncData} {N ps : List Str} {k : Nat} {ds : DS} (F : Fun K x qual st f fd) (Sc : FnScope N ps (defScope st)) (len : ∀ es S p e, ds es S p e → es.length = ps.length)
    (hbody : ∀ (cdv : Value) (A : Around) (outer : List PySem.Env) (s : Shared) (H : Hp) (E : XK), Room k (A.deeper (PyProof.Rows.envOfC qual (defScope st) s.heap.objs.size f cdv)) →
      ∀ (w : Wd) (es : List Ent) (S : List Own) (p : KE) (e : KX), w.K = K → w.as0.length = S.length → ds es S p e → ∃ t, PSs (cxOf CX0 P w0 K mg base N qual (defScope st) f cdv A outer s H E).nox (defBody st) t ∧ LS w t (startG N es) S { nx := fun _ S' => p (.d .non) S', rt := p }) :
    FnOk P w0 K mg base CX0 (k + 1) f fd ps (spD K ds) := by
  refine F.ok Sc (fun vs H Q E ⟨R, as, S, es, p, e, h1, h2, h3, h4, h5⟩ => by rw [h1.len]; exact len es S p e h3) (fun cdv A outer s H vs Q E hr h => ?_)
  obtain ⟨R, as, S, es, p, e, h1, h2, h3, h4, h5⟩ := h
  obtain ⟨t, ht, hL⟩ := hbody cdv A outer s H E hr ⟨K, R, H, as⟩ es S p e rfl h2.len h3
  refine ⟨t, ht, ?_⟩
  refine hL _ _ R H as h2 (sts_start h1) ⟨fun Γ' S' σ' R' H' as' u a b c => ?_, fun v x S' R' H' as' u a b c => h4 v x S' R' H' as' a b c, fun _ _ _ _ _ _ _ _ _ c => c.elim, fun _ _ _ _ _ _ _ _ _ c => c.elim⟩
  exact h4 .non (.d .non) S' R' H' as' a Den.non c
/-- a def that may raise -/
theorem fnX {x qual : Str} {st : Stmt} {f : Addr} {fd : FuncData} {N ps : List Str} {k : Nat} {ds : DS} (F : Fun K x qual st f fd) (Sc : FnScope N ps (defScope st)) (len : ∀ es S p e, ds es S p e → es.length = ps.length)
    (hbody : ∀ (cdv : Value) (A : Around) (outer : List PySem.Env) (s : Shared) (H : Hp) (E : XK), Room k (A.deeper (PyProof.Rows.envOfC qual (defScope st) s.heap.objs.size f cdv)) →
      ∀ (w : Wd) (es : List Ent) (S : List Own) (p : KE) (e : KX), w.K = K → w.as0.length = S.length → ExOk w E e → ds es S p e → ∃ t, PSs (cxOf (L2.CX P w0) P w0 K mg base N qual (defScope st) f cdv A outer s H E) (defBody st) t ∧ LS w t (startG N es) S { nx := fun _ S' => p (.d .non) S', rt := p }) :
    FnOk P w0 K mg base (L2.CX P w0) (k + 1) f fd ps (spD K ds) := by
  refine F.okX Sc (fun vs H Q E ⟨R, as, S, es, p, e, h1, h2, h3, h4, h5⟩ => by rw [h1.len]; exact len es S p e h3) (fun cdv A outer s H vs Q E hr h => ?_)
  obtain ⟨R, as, S, es, p, e, h1, h2, h3, h4, h5⟩ := h
  obtain ⟨t, ht, hL⟩ := hbody cdv A outer s H E hr ⟨K, R, H, as⟩ es S p e rfl h2.len h5 h3
  refine ⟨t, ht, ?_⟩
  refine hL _ _ R H as h2 (sts_start h1) ⟨fun Γ' S' σ' R' H' as' u a b c => ?_, fun v x S' R' H' as' u a b c => h4 v x S' R' H' as' a b c, fun _ _ _ _ _ _ _ _ _ c => c.elim, fun _ _ _ _ _ _ _ _ _ c => c.elim⟩
  exact h4 .non (.d .non) S' R' H' as' a Den.non c
end
end Gm
/-! short words for a def's text, and the step tactic -/
namespace Gm
open PySem L2

section
variable {X : Cx}
theorem gn (i : Nat) {x : Str} {pos : Pos} (hN : X.N.Nodup) (hi : X.N[i]? = some x := by rfl) (hx : Loc X.env.scope x := by first | exact Or.inl rfl | exact Or.inr rfl) (hf : X.fn x = true ∨ X.env.scope.names.lookup x = some .local := by first | exact Or.inl rfl | exact Or.inr rfl) : PG X (.Name x pos) (gName i) := pg_name hN hi hx hf
theorem sset (i : Nat) {x : Str} {e : Expr} {te : TE} {pos p : Pos} (he : PE X e te) (hN : X.N.Nodup) (hi : X.N[i]? = some x := by rfl) (hx : Loc X.env.scope x := by first | exact Or.inl rfl | exact Or.inr rfl) (hf : X.fn x = true ∨ X.env.scope.names.lookup x = some .local := by first | exact Or.inl rfl | exact Or.inr rfl)
    (hs : swapsWithSole [.Name x p] e pos.line X.env = pure false := by rfl) (hw : swappedStores [.Name x p] e X.env = pure none := by rfl) : PS X (.Assign [.Name x p] e pos) (tAsg te (gName i)) := ps_asg he (pg_name hN hi hx hf) hs hw
variable {e e1 e2 : Expr} {p pos : Pos} {te te1 te2 : TE}
theorem b_len (hm : X.mg "len" = none) (he : PE X e te) (hg : Gl X "len" := by rfl) (hs : starEach [e] X.env = (false, eval e X.env) :: starEach [] X.env := by rfl) : PE X (.Call (.Name "len" p) [e] [] pos) (tCB (gLen X.K) (tCons te tNil)) :=
  pe_callB c_len hg hm PySem.boot_len (pa_cons he pa_nil hs) (he := hs)
theorem b_abs (hm : X.mg "abs" = none) (he : PE X e te) (hg : Gl X "abs" := by rfl) (hs : starEach [e] X.env = (false, eval e X.env) :: starEach [] X.env := by rfl) : PE X (.Call (.Name "abs" p) [e] [] pos) (tCB gAbs (tCons te tNil)) :=
  pe_callB c_abs hg hm (by decide +kernel) (pa_cons he pa_nil hs) (he := hs)
theorem b_int (hm : X.mg "int" = none) (he : PE X e te) (hg : Gl X "int" := by rfl) (hs : starEach [e] X.env = (false, eval e X.env) :: starEach [] X.env := by rfl) : PE X (.Call (.Name "int" p) [e] [] pos) (tCB gInt1 (tCons te tNil)) :=
  pe_callTy c_int1 hg hm (by decide +kernel) (pa_cons he pa_nil hs) (he := hs)
theorem b_list (hm : X.mg "list" = none) (he : PE X e te) (hg : Gl X "list" := by rfl) (hs : starEach [e] X.env = (false, eval e X.env) :: starEach [] X.env := by rfl) : PE X (.Call (.Name "list" p) [e] [] pos) (tCB (gList X.K) (tCons te tNil)) :=
  pe_callTy c_list hg hm (by decide +kernel) (pa_cons he pa_nil hs) (he := hs)
theorem b_max2 (hm : X.mg "max" = none) (h1 : PE X e1 te1) (h2 : PE X e2 te2) (hc : X.calm = true := by rfl) (hg : Gl X "max" := by rfl) (hs : starEach [e1, e2] X.env = (false, eval e1 X.env) :: starEach [e2] X.env := by rfl) (hs2 : starEach [e2] X.env = (false, eval e2 X.env) :: starEach [] X.env := by rfl) (hpl : (backTo pos (starEach [e2] X.env)).any (·.1) = false := by rfl) :
    PE X (.Call (.Name "max" p) [e1, e2] [] pos) (tCB gMax2 (tCons te1 (tCons te2 tNil))) :=
  pe_callB (c_max2 hc) hg hm (by decide +kernel) (pa_cons h1 (pa_cons h2 pa_nil hs2) hs) (he := hs) (hpl := hpl)
theorem b_min2 (hm : X.mg "min" = none) (h1 : PE X e1 te1) (h2 : PE X e2 te2) (hc : X.calm = true := by rfl) (hg : Gl X "min" := by rfl) (hs : starEach [e1, e2] X.env = (false, eval e1 X.env) :: starEach [e2] X.env := by rfl) (hs2 : starEach [e2] X.env = (false, eval e2 X.env) :: starEach [] X.env := by rfl) (hpl : (backTo pos (starEach [e2] X.env)).any (·.1) = false := by rfl) :
    PE X (.Call (.Name "min" p) [e1, e2] [] pos) (tCB gMin2 (tCons te1 (tCons te2 tNil))) :=
  pe_callB (c_min2 hc) hg hm (by decide +kernel) (pa_cons h1 (pa_cons h2 pa_nil hs2) hs) (he := hs) (hpl := hpl)
/-- powers of any size the model has -/
def CPowW (i j : Int) : Prop := 0 ≤ j ∧ (Builtin.Int.intBits i : Int) * j ≤ 2 ^ 27
theorem op_powW : OpR X (binaryOp .Pow) (rI CPowW fun i j => .int (i ^ j.toNat)) := opI fun _ _ _ _ _ _ _ hc q => PyProof.Rows.pow_int hc.1 hc.2 q
theorem powW {i j : Int} {b : Nat} (h0 : 0 ≤ j) (h : i.natAbs < 2 ^ b) (h1 : (b : Int) * j ≤ 2 ^ 27) : CPowW i j := by
  refine ⟨h0, ?_⟩
  have hb : Builtin.Int.intBits i ≤ b := by
    unfold Builtin.Int.intBits
    split
    · omega
    · rename_i hz
      by_cases h2 : b = 0
      · subst h2
        have : i.natAbs = 0 := by omega
        exact absurd (by simpa using (show i = 0 by omega)) hz
      · have := PySem.Flt.log2_lt_of (by omega) h
        omega
  exact Int.le_trans (Int.mul_le_mul_of_nonneg_right (Int.ofNat_le.mpr hb) h0) h1
end
/-- a def of the program, as its callers have it -/
structure Df (P : Program) (w0 : World) (K : PySem.W.Frag) (mg : Str → Option Value) (base : Heap) (CX : CXT) (k : Nat) (x : Str) (n : Nat) (ds : DS) : Prop where
  ex : ∃ (f : Addr) (fd : FuncData) (ps : List Str), ps.length = n ∧ FnOk P w0 K mg base CX k f fd ps (spD K ds) ∧ mg x = some (.ref f) ∧ PySem.W.keepIn K (.ref f) = true ∧ Binds K fd ps []
section
variable {X : Cx} {CX : CXT} {k n : Nat} {x : Str} {ds : DS} {E : XK} {p pos : Pos} {e : Expr} {es : List Expr} {t : TA}
theorem pe_df (d : Df X.prog X.w X.K X.mg X.base CX k x n ds) (hr : Room k X.A) (hx : Passes CX X E) (ha : PA X (e :: es) t) (hg : Gl X x := by rfl) (hdb : (x == ("__debug__" : Str)) = false := by decide)
    (he : starEach (e :: es) X.env = (false, eval e X.env) :: starEach es X.env := by rfl) (hpl : (backTo pos (starEach es X.env)).any (·.1) = false := by rfl) : PE X (.Call (.Name x p) (e :: es) [] pos) (tCall (spD X.K ds) [] E t) := by
  obtain ⟨f, fd, ps, _, F, hm, hk, hb⟩ := d.ex
  exact pe_call F hr hg hm hk hb .nil hx ha (hdb := hdb) (he := he) (hpl := hpl)
end
theorem sz {n : Nat} (h : Nat.ble n 100000 = true) : n ≤ sizeLine := Nat.le_trans (Nat.le_of_ble_eq_true h) (by decide)
end Gm
/-! methods, makings, properties, keywords -/
namespace Gm
open PySem L2

/-- a class of the program -/
structure Cd (K : PySem.W.Frag) (mg : Str → Option Value) (x : Str) (C : Addr) : Prop where
  cls : Cls K C
  mg : mg x = some (.ref C)
structure Mt (P : Program) (w0 : World) (K : PySem.W.Frag) (mg : Str → Option Value) (base : Heap) (CX : CXT) (k : Nat) (C : Addr) (m : Str) (ds : DS) : Prop where
  ex : ∃ (f : Addr) (fd : FuncData) (ps : List Str), FnOk P w0 K mg base CX k f fd ps (spD K ds) ∧ Meth K C m f ∧ Binds K fd ps [] ∧ Cls K C
structure Ct (P : Program) (w0 : World) (K : PySem.W.Frag) (mg : Str → Option Value) (base : Heap) (CX : CXT) (k : Nat) (x : Str) (C : Addr) (ds : DS) : Prop where
  ex : ∃ (f : Addr) (fd : FuncData) (ps : List Str), FnOk P w0 K mg base CX k f fd ps (spD K ds) ∧ Mk K C f ∧ mg x = some (.ref C) ∧ Binds K fd ps []
structure Pr (P : Program) (w0 : World) (K : PySem.W.Frag) (mg : Str → Option Value) (base : Heap) (CX : CXT) (k : Nat) (C : Addr) (f : Str) (ds : DS) : Prop where
  ex : ∃ (p g : Addr) (fd : FuncData) (ps : List Str), FnOk P w0 K mg base CX k g fd ps (spD K ds) ∧ PropOf K C f p g ∧ Binds K fd ps [] ∧ Cls K C

/-! keywords -/
def permA {α : Type} (z : α) (pm : List Nat) (xs : List α) : List α := pm.map fun i => (xs[i]?).getD z
def gKw {α : Type} (z : α) (n m : Nat) (pm : List Nat) (us ws : List α) : List α := if us.length = n ∧ ws.length = m then us ++ permA z pm ws else []
structure KB (K : PySem.W.Frag) (fd : FuncData) (ps ks : List Str) (n : Nat) (pm : List Nat) : Prop where
  pos : 0 < ps.length
  to : ∀ (s : Shared) (us ws : List Value), us.length = n → ws.length = ks.length → BindsTo s fd ⟨us, ks.zip ws⟩ (ps.zip (us ++ permA .none pm ws))
theorem vals_getD {xs : List V} {us : List Value} (r : Vals xs us) (i : Nat) : RelV ((xs[i]?).getD .non) ((us[i]?).getD .none) := by
  cases h : xs[i]? with
  | none => rw [r.none_of h]; rfl
  | some x => obtain ⟨u, h1, h2⟩ := r.get h; rw [h1]; exact h2
theorem vals_perm {xs : List V} {us : List Value} (r : Vals xs us) : ∀ pm : List Nat, Vals (permA .non pm xs) (permA .none pm us)
  | [] => .nil
  | i :: pm => .cons (vals_getD r i) (vals_perm r pm)
theorem KB.kb {K : PySem.W.Frag} {fd : FuncData} {ps ks : List Str} {n : Nat} {pm : List Nat} (b : KB K fd ps ks n pm) : KBinds K fd ps ks (gKw .none n ks.length pm) (gKw .non n ks.length pm) where
  to := fun s us ws _ hl => by
    unfold gKw at hl ⊢
    by_cases h : us.length = n ∧ ws.length = ks.length
    · rw [if_pos h]; exact b.to s us ws h.1 h.2
    · rw [if_neg h] at hl
      have hp := b.pos
      have hl' : 0 = ps.length := hl
      omega
  rel := fun {vs us zs ws} r1 r2 => by
    unfold gKw
    rw [r1.length, r2.length]
    by_cases h : us.length = n ∧ ws.length = ks.length
    · rw [if_pos h, if_pos h]; exact r1.append (vals_perm r2 pm)
    · rw [if_neg h, if_neg h]; exact .nil
section
variable {X : Cx} {CX : CXT} {k : Nat} {C : Addr} {x m : Str} {ds : DS} {E : XK} {p pos apos : Pos} {o e : Expr} {es : List Expr} {kws : List Keyword} {ta : TE} {t tk : TA} {pl : Sem Bool}
theorem pe_md (d : Mt X.prog X.w X.K X.mg X.base CX k C m ds) (hr : Room k X.A) (hx : Passes CX X E) (he : PE X o ta) (ha : PA X (e :: es) t)
    (hst : starEach (e :: es) X.env = (false, eval e X.env) :: starEach es X.env := by rfl) (hpl : (backTo pos (starEach es X.env)).any (·.1) = false := by rfl)
    (ht : eval (.Call (.Attribute o m apos) (e :: es) [] pos) X.env = (do
      let ov ← eval o X.env
      standAt apos.atName
      let (f, first) ← holding [ov] (getMethod ov m pl)
      callWith pos f first (backTo pos (starEach (e :: es) X.env)) (backToKw pos (keywordEach [] X.env))) := by rfl) : PE X (.Call (.Attribute o m apos) (e :: es) [] pos) (tMeth C m (spD X.K ds) [] E ta t) := by
  obtain ⟨f, fd, ps, F, hm, hb, c⟩ := d.ex
  exact pe_meth he c hm F hr hb .nil hx ha (hst := hst) (hpl := hpl) (ht := ht)
theorem pe_md0 (d : Mt X.prog X.w X.K X.mg X.base CX k C m ds) (hr : Room k X.A) (hx : Passes CX X E) (he : PE X o ta)
    (ht : eval (.Call (.Attribute o m apos) [] [] pos) X.env = (do
      let ov ← eval o X.env
      standAt apos.atName
      let (f, first) ← holding [ov] (getMethod ov m pl)
      callWith pos f first (backTo pos (starEach [] X.env)) (backToKw pos (keywordEach [] X.env))) := by rfl) : PE X (.Call (.Attribute o m apos) [] [] pos) (tMeth C m (spD X.K ds) [] E ta tNil) := by
  obtain ⟨f, fd, ps, F, hm, hb, c⟩ := d.ex
  exact pe_meth0 he c hm F hr hb .nil hx (ht := ht)
theorem pe_mk (d : Ct X.prog X.w X.K X.mg X.base CX k x C ds) (hr : Room (k + 1) X.A) (hx : Passes CX X E) (ha : PA X (e :: es) t) (hg : Gl X x := by rfl) (hdb : (x == ("__debug__" : Str)) = false := by decide)
    (he : starEach (e :: es) X.env = (false, eval e X.env) :: starEach es X.env := by rfl) (hpl : (backTo pos (starEach es X.env)).any (·.1) = false := by rfl) : PE X (.Call (.Name x p) (e :: es) [] pos) (tMake C (spD X.K ds) [] E t) := by
  obtain ⟨f, fd, ps, F, M, hm, hb⟩ := d.ex
  exact pe_make M F hr hg hm hb .nil hx ha (hdb := hdb) (he := he) (hpl := hpl)
theorem pe_pr (d : Pr X.prog X.w X.K X.mg X.base CX k C m ds) (hr : Room (k + 1) X.A) (hx : Passes CX X.nox E) (he : PE X o ta) (hab : attributeBase o m X.env (eval o X.env) = eval o X.env := by rfl) : PE X (.Attribute o m pos) (tProp C (spD X.K ds) [] E ta) := by
  obtain ⟨p, g, fd, ps, F, hp, hb, c⟩ := d.ex
  exact pe_prop he c hp F hr hb .nil hx hab
/-- o.m(k = v, ..), keywords alone -/
def tMethK (C : Addr) (m : Str) (sp : Sp) (n : Nat) (pm : List Nat) (E : XK) (ta : TE) (tk : TA) : TE := fun σ H Q => ta σ H fun x H1 => ∃ a dx fs, x = .ref a ∧ H1 a = some (.ins C dx fs) ∧ fs.lookup m = none ∧
  tk σ H1 fun zs H2 => sp (gKw .non 1 n pm [x] zs) H2 Q E
structure MtK (P : Program) (w0 : World) (K : PySem.W.Frag) (mg : Str → Option Value) (base : Heap) (CX : CXT) (k : Nat) (C : Addr) (m : Str) (ks : List Str) (pm : List Nat) (ds : DS) : Prop where
  ex : ∃ (f : Addr) (fd : FuncData) (ps : List Str), FnOk P w0 K mg base CX k f fd ps (spD K ds) ∧ Meth K C m f ∧ KB K fd ps ks 1 pm ∧ Cls K C
theorem pe_mdK {ks : List Str} {pm : List Nat} {n : Nat} (d : MtK X.prog X.w X.K X.mg X.base CX k C m ks pm ds) (hr : Room k X.A) (hx : Passes CX X E) (he : PE X o ta) (hkw : PK X kws tk) (hn : ks.length = n := by rfl)
    (hall : (backToKw pos (keywordEach kws X.env)).all (·.1.isSome) = true := by rfl) (hks : (backToKw pos (keywordEach kws X.env)).filterMap (·.1) = ks := by rfl)
    (hpl : ((backTo pos (starEach [] X.env)).any (·.1) || (backToKw pos (keywordEach kws X.env)).any (·.1.isNone)) = false := by rfl)
    (ht : eval (.Call (.Attribute o m apos) [] kws pos) X.env = (do
      let ov ← eval o X.env
      standAt apos.atName
      let (f, first) ← holding [ov] (getMethod ov m pl)
      callWith pos f first (backTo pos (starEach [] X.env)) (backToKw pos (keywordEach kws X.env))) := by rfl) : PE X (.Call (.Attribute o m apos) [] kws pos) (tMethK C m (spD X.K ds) n pm E ta tk) := by
  obtain ⟨f, fd, ps, F, hm, hb, c⟩ := d.ex
  refine ⟨fun pins s σ H Q I h => ?_⟩
  refine PySem.W.methodCall_KW (pl := pl) (thn (he.run pins s σ H _ I h) fun u s1 ⟨x, H1, I1, rx, a, dx, fs, ex, ea, l, q⟩ => ?_) ht
  subst ex
  obtain rfl : u = Value.ref a := rx
  refine getmeth_ok I1 ea c hm l ?_
  refine PySem.W.callWith_KW0 (first := [.ref a]) (h₀ := X.base) I.ok.mod.kin hm.kp hall (thn (hkw.run pos pins s1 σ H1 _ I1 q) fun ws s2 ⟨zs, H2, I2, rz, q2⟩ => ⟨I2.kIn, ?_⟩) hpl
  rw [hks, List.append_nil]
  rw [← hn] at q2
  exact run_fnk (us := [.ref a]) (vs := [.ref a]) F hr hb.kb hx I2 (.cons rfl .nil) rz q2
/-- f(k = v, ..), keywords alone -/
def tCallK0 (sp : Sp) (n : Nat) (pm : List Nat) (E : XK) (tk : TA) : TE := fun σ H Q => tk σ H fun zs H2 => sp (gKw .non 0 n pm [] zs) H2 Q E
structure DfK (P : Program) (w0 : World) (K : PySem.W.Frag) (mg : Str → Option Value) (base : Heap) (CX : CXT) (k : Nat) (x : Str) (ks : List Str) (pm : List Nat) (ds : DS) : Prop where
  ex : ∃ (f : Addr) (fd : FuncData) (ps : List Str), FnOk P w0 K mg base CX k f fd ps (spD K ds) ∧ mg x = some (.ref f) ∧ PySem.W.keepIn K (.ref f) = true ∧ KB K fd ps ks 0 pm
theorem pe_dfK {ks : List Str} {pm : List Nat} {n : Nat} (d : DfK X.prog X.w X.K X.mg X.base CX k x ks pm ds) (hr : Room k X.A) (hx : Passes CX X E) (hkw : PK X kws tk) (hn : ks.length = n := by rfl) (hg : Gl X x := by rfl)
    (hall : (backToKw pos (keywordEach kws X.env)).all (·.1.isSome) = true := by rfl) (hks : (backToKw pos (keywordEach kws X.env)).filterMap (·.1) = ks := by rfl)
    (hdb : (x == ("__debug__" : Str)) = false := by decide)
    (hpl : ((backTo pos (starEach [] X.env)).any (·.1) || (backToKw pos (keywordEach kws X.env)).any (·.1.isNone)) = false := by rfl) : PE X (.Call (.Name x p) [] kws pos) (tCallK0 (spD X.K ds) n pm E tk) := by
  obtain ⟨f, fd, ps, F, hm, hk, hb⟩ := d.ex
  refine ⟨fun pins s σ H Q I h => ?_⟩
  refine wpAny_Call_Name_kw (ld_glob I hg hm ?_ hdb)
  refine PySem.W.callWith_KW0 (first := []) (h₀ := X.base) I.ok.mod.kin hk hall (thn (hkw.run pos pins s σ H _ I h) fun ws s2 ⟨zs, H2, I2, rz, q2⟩ => ⟨I2.kIn, ?_⟩) hpl
  rw [hks]
  rw [← hn] at q2
  exact run_fnk (us := []) (vs := []) F hr hb.kb hx I2 .nil rz q2
end
section
variable {w : Wd} {Γ : Env} {S : List Own} {k : KE} {ta : TE} {f : DS} {E : XK}
theorem ents_getD {K : PySem.W.Frag} {R : Hp} {as : List Addr} : ∀ {vs : List V} {es : List Ent} (i : Nat), EntsOk K R as vs es → EntOk K R as ((vs[i]?).getD .non) ((es[i]?).getD (.d .non))
  | [], [], i, _ => by simp only [List.getElem?_nil, Option.getD_none]; exact Den.non
  | v :: vs, e :: es, 0, ⟨h, _⟩ => h
  | v :: vs, e :: es, i + 1, ⟨_, t⟩ => by simpa using ents_getD i t
  | [], _ :: _, _, h => h.elim
  | _ :: _, [], _, h => h.elim
theorem ents_perm {K : PySem.W.Frag} {R : Hp} {as : List Addr} {vs : List V} {es : List Ent} (h : EntsOk K R as vs es) : ∀ pm : List Nat, EntsOk K R as (permA .non pm vs) (permA (.d .non) pm es)
  | [] => trivial
  | i :: pm => ⟨ents_getD i h, ents_perm h pm⟩
theorem le_methK {C : Addr} {m : Str} {n : Nat} {pm : List Nat} {tk : TA} (h : LE w ta Γ S fun x S1 => ∃ gs, IsObj x S1 C gs ∧ gs.lookup m = none ∧ LA w tk Γ S1 fun es S2 => es.length = n ∧ RS w f E (x :: permA (.d .non) pm es) S2 k) : LE w (tMethK C m (spD w.K f) n pm E ta tk) Γ S k := fun σ R H as Q rl s c => by
  refine h σ R H as _ rl s fun v x S1 R1 H1 as1 rl1 s1 p1 e1 ⟨gs, h1, h2, h3⟩ => ?_
  obtain ⟨a, dx, fs, rfl, q2, q3⟩ := isObj_at h1 rl1 e1
  refine ⟨a, dx, fs, rfl, q2, q3.none h2, ?_⟩
  refine h3 σ R1 H1 as1 _ rl1 (s.mono s1 p1) fun vs es S2 R2 H2 as2 rl2 s2 p2 e2 ⟨hn, h4⟩ => ?_
  have e : gKw V.non 1 n pm [.ref a] vs = .ref a :: permA .non pm vs := by unfold gKw; rw [if_pos ⟨rfl, by rw [e2.len]; exact hn⟩]; rfl
  rw [e]
  exact h4 R2 H2 as2 _ Q rl2 ⟨e1.mono s2 p2, ents_perm e2 pm⟩ fun v' e' S' R' H' as' a1 a2 a3 a4 a5 => c v' e' S' R' H' as' a1 ((s1.trans s2).trans a2) ((p1.trans p2).trans a3) a4 a5
theorem le_callK {n : Nat} {pm : List Nat} {tk : TA} (h : LA w tk Γ S fun es S2 => es.length = n ∧ RS w f E (permA (.d .non) pm es) S2 k) : LE w (tCallK0 (spD w.K f) n pm E tk) Γ S k := fun σ R H as Q rl s c => by
  refine h σ R H as _ rl s fun vs es S2 R2 H2 as2 rl2 s2 p2 e2 ⟨hn, h4⟩ => ?_
  have e : gKw V.non 0 n pm [] vs = permA .non pm vs := by unfold gKw; rw [if_pos ⟨rfl, by rw [e2.len]; exact hn⟩]; rfl
  rw [e]
  exact h4 R2 H2 as2 _ Q rl2 (ents_perm e2 pm) fun v' e' S' R' H' as' a1 a2 a3 a4 a5 => c v' e' S' R' H' as' a1 (s2.trans a2) (p2.trans a3) a4 a5
end

section
variable {w : Wd} {Γ : Env} {S rest : List Own} {k : KE} {f : DS} {E : XK} {o : Own}
theorem ren_wf1 : ∀ {es : List Ent}, es.all (Ent.wf 1) = true → es = es.map (Ent.ren [0])
  | [], _ => rfl
  | .d x :: es, h => by
    have h' : es.all (Ent.wf 1) = true := by simpa [Ent.wf] using h
    show Ent.d x :: es = Ent.d x :: es.map _
    rw [← ren_wf1 h']
  | .own j :: es, h => by
    have h' : j < 1 ∧ es.all (Ent.wf 1) = true := by simpa [Ent.wf] using h
    have e : j = 0 := by omega
    subst e
    show Ent.own 0 :: es = Ent.own 0 :: es.map _
    rw [← ren_wf1 h'.2]
  | .tup _ :: es, h => by simp [Ent.wf] at h
theorem ren_wf0 : ∀ {es : List Ent}, es.all (Ent.wf 0) = true → es = es.map (Ent.ren [])
  | [], _ => rfl
  | .d x :: es, h => by
    have h' : es.all (Ent.wf 0) = true := by simpa [Ent.wf] using h
    show Ent.d x :: es = Ent.d x :: es.map _
    rw [← ren_wf0 h']
  | .own j :: es, h => by simp [Ent.wf] at h
  | .tup _ :: es, h => by simp [Ent.wf] at h
/-- a def that is handed the first thing of the store, and gives data -/
theorem rs_p {es : List Ent} (hn : o ≠ .gone) (hw : es.all (Ent.wf 1) = true) (h : f es [o] (fun e S' => ∃ o' d, S' = [o'] ∧ o' ≠ .gone ∧ e = .d d ∧ k (.d d) (o' :: rest)) (fun _ _ _ => False))
    (mono : ∀ {es S} {p p' : KE} {x x' : KX}, (∀ e S, p e S → p' e S) → (∀ C u S, x C u S → x' C u S) → f es S p x → f es S p' x') : RS w f E es (o :: rest) k := by
  refine rs_call (ex0 (w := w) (E := E)) [0] (Pick.one (o := o) rfl hn) (ren_wf1 hw) hw (mono (fun e S' q => ?_) (fun C u S' q => q.elim) h)
  obtain ⟨o', d, rfl, h1, rfl, h2⟩ := q
  refine ⟨[o'], [], rfl, rfl, by simpa using h1, ?_⟩
  show k (.d d) ((o' :: rest) ++ [])
  rw [List.append_nil]; exact h2
/-- the same, it gives a list of the store -/
theorem rs_pO {es : List Ent} (hn : o ≠ .gone) (hw : es.all (Ent.wf 1) = true) (h : f es [o] (fun e S' => ∃ o' ds, S' = [o', .lst ds] ∧ o' ≠ .gone ∧ e = .own 1 ∧ k (.own (rest.length + 1)) (o' :: rest ++ [.lst ds])) (fun _ _ _ => False))
    (mono : ∀ {es S} {p p' : KE} {x x' : KX}, (∀ e S, p e S → p' e S) → (∀ C u S, x C u S → x' C u S) → f es S p x → f es S p' x') : RS w f E es (o :: rest) k := by
  refine rs_call (ex0 (w := w) (E := E)) [0] (Pick.one (o := o) rfl hn) (ren_wf1 hw) hw (mono (fun e S' q => ?_) (fun C u S' q => q.elim) h)
  obtain ⟨o', d, rfl, h1, rfl, h2⟩ := q
  exact ⟨[o'], [.lst d], rfl, rfl, by simpa using h1, h2⟩
/-- nothing is borrowed, it gives data -/
theorem rs_0 {es : List Ent} (hw : es.all (Ent.wf 0) = true) (h : f es [] (fun e S' => ∃ d, S' = [] ∧ e = .d d ∧ k (.d d) S) (fun _ _ _ => False))
    (mono : ∀ {es S} {p p' : KE} {x x' : KX}, (∀ e S, p e S → p' e S) → (∀ C u S, x C u S → x' C u S) → f es S p x → f es S p' x') : RS w f E es S k := by
  refine rs_call (ex0 (w := w) (E := E)) [] Pick.nil (ren_wf0 hw) hw (mono (fun e S' q => ?_) (fun C u S' q => q.elim) h)
  obtain ⟨d, rfl, rfl, h2⟩ := q
  refine ⟨[], [], rfl, rfl, by simp, ?_⟩
  show k (.d d) (wb S [] [] ++ [])
  rw [List.append_nil]
  simpa [wb] using h2
end

/-- a promise by a precondition and what comes behind -/
def ds {α : Type} (pre : α → List Ent → List Own → Prop) (post : α → Ent → List Own → Prop) : DS := fun es S p _ => ∃ a, pre a es S ∧ ∀ e S', post a e S' → p e S'
theorem ds_mono {α : Type} {pre : α → List Ent → List Own → Prop} {post : α → Ent → List Own → Prop} {es : List Ent} {S : List Own} {p p' : KE} {x x' : KX} (h : ∀ e S, p e S → p' e S) (_ : ∀ C u S, x C u S → x' C u S) (q : ds pre post es S p x) : ds pre post es S p' x' := by
  obtain ⟨a, h1, h2⟩ := q
  exact ⟨a, h1, fun e S' z => h e S' (h2 e S' z)⟩
section
variable {w : Wd} {S rest : List Own} {k : KE} {E : XK} {o : Own} {α : Type} {pre : α → List Ent → List Own → Prop} {post : α → Ent → List Own → Prop}
theorem rp {es : List Ent} (a : α) (hpre : pre a es [o]) (h : ∀ e S', post a e S' → ∃ o' d, S' = [o'] ∧ o' ≠ .gone ∧ e = .d d ∧ k (.d d) (o' :: rest)) (hn : o ≠ .gone) (hw : es.all (Ent.wf 1) = true := by rfl) : RS w (ds pre post) E es (o :: rest) k :=
  rs_p hn hw ⟨a, hpre, h⟩ fun a b c => ds_mono a b c
theorem rpO {es : List Ent} (a : α) (hpre : pre a es [o]) (h : ∀ e S', post a e S' → ∃ o' xs, S' = [o', .lst xs] ∧ o' ≠ .gone ∧ e = .own 1 ∧ k (.own (rest.length + 1)) (o' :: rest ++ [.lst xs])) (hn : o ≠ .gone) (hw : es.all (Ent.wf 1) = true := by rfl) : RS w (ds pre post) E es (o :: rest) k :=
  rs_pO hn hw ⟨a, hpre, h⟩ fun a b c => ds_mono a b c
theorem r0 {es : List Ent} (a : α) (hpre : pre a es []) (h : ∀ e S', post a e S' → ∃ d, S' = [] ∧ e = .d d ∧ k (.d d) S) (hw : es.all (Ent.wf 0) = true := by rfl) : RS w (ds pre post) E es S k :=
  rs_0 hw ⟨a, hpre, h⟩ fun a b c => ds_mono a b c
/-- nothing is borrowed, it gives a new thing of the store -/
theorem r0O {es : List Ent} (a : α) (hpre : pre a es []) (h : ∀ e S', post a e S' → ∃ o', S' = [o'] ∧ e = .own 0 ∧ k (.own S.length) (S ++ [o'])) (hw : es.all (Ent.wf 0) = true := by rfl) : RS w (ds pre post) E es S k := by
  refine rs_call (ex0 (w := w) (E := E)) [] Pick.nil (ren_wf0 hw) hw ⟨a, hpre, fun e S' q => ?_⟩
  obtain ⟨o', rfl, rfl, h2⟩ := h e S' q
  exact ⟨[], [o'], rfl, rfl, by simp, h2⟩
theorem mk0 {Γ : Env} {C : Addr} {t : TA} (h : LA w t Γ S fun es S1 => es.all (Ent.wf 0) = true ∧ ∃ a, pre a (.own 0 :: es) [.ins C []] ∧ ∀ e S', post a e S' → e = .d .non ∧ ∃ gs, S' = [.ins C gs] ∧ k (.d (.obj C gs)) S1) : LE w (tMake C (spD w.K (ds pre post)) [] E t) Γ S k := by
  refine le_make (ex0 (w := w) (E := E)) fun σ R H as Q rl s c => h σ R H as Q rl s fun vs es S' R' H' as' a1 a2 a3 a4 ⟨q1, a, q2, q3⟩ => c vs es S' R' H' as' a1 a2 a3 a4 ⟨q1, a, q2, q3⟩
end

/-- Γ' is Γ with some names forgotten, and names no place from n on -/
inductive EnvLe (n : Nat) : Env → Env → Prop
  | nil : EnvLe n [] []
  | none {x : Option Ent} {Γ' Γ : Env} : EnvLe n Γ' Γ → EnvLe n (none :: Γ') (x :: Γ)
  | same {e : Ent} {Γ' Γ : Env} : e.wf n = true → EnvLe n Γ' Γ → EnvLe n (some e :: Γ') (some e :: Γ)
theorem EnvLe.len {n : Nat} : ∀ {Γ' Γ : Env}, EnvLe n Γ' Γ → Γ'.length = Γ.length
  | _, _, .nil => rfl
  | _, _, .none h => congrArg (· + 1) h.len
  | _, _, .same _ h => congrArg (· + 1) h.len
theorem EnvLe.at_ {n : Nat} : ∀ {Γ' Γ : Env}, EnvLe n Γ' Γ → ∀ (j : Nat) (e : Ent), Γ'[j]? = some (some e) → Γ[j]? = some (some e) ∧ e.wf n = true
  | _, _, .nil, _, _, h => by simp at h
  | _, _, .none h, 0, e, q => by simp at q
  | _, _, .none h, j + 1, e, q => by simpa using h.at_ j e (by simpa using q)
  | _, _, .same w h, 0, e, q => by simp at q; subst q; exact ⟨rfl, w⟩
  | _, _, .same w h, j + 1, e, q => by simpa using h.at_ j e (by simpa using q)
section
variable {w : Wd} {S : List Own} {G : GE} {Γ Γ' : Env} {t : TS}
theorem forget {o : Own} (h : LS w t Γ' S G) (hE : EnvLe S.length Γ' Γ) (hw : w.as0.length ≤ S.length) : LS w t Γ (S ++ [o]) G := ls_forget hw hE.len hE.at_ h
theorem frzL {xs : List D} (j : Nat) (hj : Γ[j]? = some (some (.own S.length))) (h : LS w t Γ' S G) (hE : EnvLe S.length Γ' (Γ.set j (some (.d (.lst xs))))) (hw : w.as0.length ≤ S.length) : LS w t Γ (S ++ [.lst xs]) G :=
  ls_frzL j hj hw (by rw [hE.len, List.length_set]) hE.at_ h
end
/-- an item at an unknown place -/
theorem ix_any {ds : List D} {i : Int} (P : D → Prop) (h0 : 0 ≤ i) (h1 : i < ds.length) (h : ∀ x ∈ ds, P x) : ∃ x, atI ds i = some x ∧ P x := by
  have hl : i.toNat < ds.length := by omega
  refine ⟨ds[i.toNat], ?_, h _ (List.getElem_mem hl)⟩
  unfold atI ixN
  rw [if_pos h0, if_pos h1]
  exact List.getElem?_eq_getElem hl

section
variable {w : Wd} {S : List Own} {Γ : Env} {k : Env → List Own → Prop}
theorem lg_tup2 {i j : Nat} {x y : D} (q : k ((Γ.set i (some (.d x))).set j (some (.d y))) S) : LG w (gTup w.K 2 (gCons (gName i) (gCons (gName j) gNil))) (.d (.tup [x, y])) Γ S k :=
  lg_tup rfl (lgs_cons (lg_name (lgs_cons (lg_name (lgs_nil q)))))
theorem lg_tup3 {i j l : Nat} {x y z : D} (q : k (((Γ.set i (some (.d x))).set j (some (.d y))).set l (some (.d z))) S) : LG w (gTup w.K 3 (gCons (gName i) (gCons (gName j) (gCons (gName l) gNil)))) (.d (.tup [x, y, z])) Γ S k :=
  lg_tup rfl (lgs_cons (lg_name (lgs_cons (lg_name (lgs_cons (lg_name (lgs_nil q)))))))
theorem lg_tup4 {i j l m : Nat} {x y z u : D} (q : k ((((Γ.set i (some (.d x))).set j (some (.d y))).set l (some (.d z))).set m (some (.d u))) S) : LG w (gTup w.K 4 (gCons (gName i) (gCons (gName j) (gCons (gName l) (gCons (gName m) gNil))))) (.d (.tup [x, y, z, u])) Γ S k :=
  lg_tup rfl (lgs_cons (lg_name (lgs_cons (lg_name (lgs_cons (lg_name (lgs_cons (lg_name (lgs_nil q)))))))))
theorem lg_tup5 {i j l m n : Nat} {x y z u v : D} (q : k (((((Γ.set i (some (.d x))).set j (some (.d y))).set l (some (.d z))).set m (some (.d u))).set n (some (.d v))) S) : LG w (gTup w.K 5 (gCons (gName i) (gCons (gName j) (gCons (gName l) (gCons (gName m) (gCons (gName n) gNil)))))) (.d (.tup [x, y, z, u, v])) Γ S k :=
  lg_tup rfl (lgs_cons (lg_name (lgs_cons (lg_name (lgs_cons (lg_name (lgs_cons (lg_name (lgs_cons (lg_name (lgs_nil q)))))))))))
theorem notself {v : V} (h : (!decide (v = v)) = true) : False := by simp at h
end

section
variable {w : Wd} {S : List Own} {G : GE} {Γ Γ' Γa Γb : Env} {t : TS}
theorem ls_weak {n : Nat} (hE : EnvLe n Γ' Γ) (h : LS w t Γ' S G) : LS w t Γ S G := fun D σ R H as rl s e =>
  h D σ R H as rl (s.weak hE.len fun i x q => (hE.at_ i x q).1) e
/-- a loop's turn begins anew: the thing of the turn before is forgotten -/
theorem ls_either {i : Nat} {e : Ent} (hI : (S = [] ∧ Γ = Γa) ∨ ∃ o, S = [o] ∧ Γ = Γb) (h : LS w t Γ' [] G) (ha : EnvLe 0 Γ' (Γa.set i (some e))) (hb : EnvLe 0 Γ' (Γb.set i (some e))) (hw : w.as0.length ≤ 0) : LS w t (Γ.set i (some e)) S G := by
  rcases hI with ⟨rfl, rfl⟩ | ⟨o, rfl, rfl⟩
  · exact ls_weak ha h
  · exact forget (S := []) h hb hw
end

section
variable {w : Wd} {S : List Own} {G : GE} {Γ Γ' Γa Γb : Env} {t : TS}
theorem ls_either0 (hI : (S = [] ∧ Γ = Γa) ∨ ∃ o, S = [o] ∧ Γ = Γb) (h : LS w t Γ' [] G) (ha : EnvLe 0 Γ' Γa) (hb : EnvLe 0 Γ' Γb) (hw : w.as0.length ≤ 0) : LS w t Γ S G := by
  rcases hI with ⟨rfl, rfl⟩ | ⟨o, rfl, rfl⟩
  · exact ls_weak ha h
  · exact forget (S := []) h hb hw
end

/-! ### the end -/
theorem Fun_kb {K : PySem.W.Frag} {x qual : Str} {st : Stmt} {f : Addr} {fd : FuncData} {ps ks : List Str} {n : Nat} {pm : List Nat} (F : Fun K x qual st f fd) (hp : 0 < ps.length)
    (h : ∀ (kV doc pm' : Value) (an : Option Addr) (cdv ct : Value) (us ws : List Value), us.length = n → ws.length = ks.length → bindArgs (PySem.W.fnOf x qual (defArgs st) (defBody st) (defScope st) .none kV doc pm' an cdv ct) ⟨us, ks.zip ws⟩ = pure (ps.zip (us ++ permA .none pm ws))) : KB K fd ps ks n pm := by
  obtain ⟨oc, od, kV, doc, pm', an, cdv, ct, osl, rfl, lk, hcd⟩ := F.ex
  exact ⟨hp, fun s us ws h1 h2 => .of_eq (h kV doc pm' an cdv ct us ws h1 h2)⟩
theorem rel0 {K : PySem.W.Frag} {H : Hp} : Rel ⟨K, H, H, []⟩ H H [] [] := by
  refine ⟨Sub.refl _, Sub.refl _, fun b o e _ => e, fun b e => e, fun i a e => e, fun b o e => .inl e, rfl, fun i o a h => by simp at h, fun i j a o u h => by simp at h⟩
theorem law_sp {K : PySem.W.Frag} {H : Hp} {a : Addr} {ns : List Int} {f : DS} (hS : SqL K H a (ns.map V.int)) (h : f [.d (.scr ns)] [] (fun e _ => e = .d (.bl true)) (fun _ _ _ => False)) :
    spD K f [.ref a] H (fun v _ => v = .bl true) fun _ _ _ => False := by
  refine ⟨H, [], [], [.d (.scr ns)], _, _, ⟨Den.scr hS, trivial⟩, rel0, h, fun v e S' R' H' as' _ ok he => ?_, ex0⟩
  subst he
  cases ok; rfl
end Gm
/-! len, ==, + by a class's own methods; lcm, gcd; isinstance -/
namespace Gm
open PySem L2

section
variable {X : Cx} {CX : CXT} {k : Nat} {C f : Addr} {fd : FuncData} {ps : List Str} {sp : Sp} {E : XK}
def gLenO (C : Addr) (sp : Sp) (E : XK) : List V → Hp → VK → Prop := fun xs H Q => ∃ a dx fs, xs = [.ref a] ∧ H a = some (.ins C dx fs) ∧ sp [.ref a] H (fun v H' => ∃ n : Int, v = .int n ∧ 0 ≤ n ∧ n < 2 ^ 63 ∧ Q (.int n) H') E
theorem c_lenO (F : FnOk X.prog X.w X.K X.mg X.base CX k f fd ps sp) (hr : Room (k + 1) X.A) (hs : PySem.W.findIn X.K (.ref C) "__len__" = some (some (.ref f))) (hf : PySem.W.isFn X.K (.ref f) = true) (hb : Binds X.K fd ps []) (hx : Passes CX X E) : CallR X (.builtin "len") (gLenO C sp E) := by
  intro pins s σ H xs us Q I r h
  obtain ⟨a, dx, fs, rfl, ha, h⟩ := h
  obtain ⟨u, rfl, ru⟩ := vals1 r
  cases (show u = Value.ref a from ru)
  obtain ⟨mA, J, _⟩ := ins_get I.hok ha
  obtain ⟨od, J, _⟩ := J.look
  obtain ⟨m, hF⟩ := I.fr
  refine PySem.W.len_K hF I.ok.mod.kin J hs hf ?_
  have hl : ([Value.ref a] ++ []).length = ps.length := by rw [← F.len _ _ _ _ h]; rfl
  refine wpAny_call (codeAny_mono (F.run X.A.in1 X.stack s H ⟨[.ref a], []⟩ [.ref a] [.ref a] _ E hr.in1 I.env0.in1 (by simpa using hb s [.ref a] I.kIn hl) (.cons rfl .nil) h) fun r s' hq => ?_)
  cases r with
  | error e => exact hx pins σ H s e s' I hq
  | ok fl =>
    cases fl with
    | ret w =>
      obtain ⟨z, H', I', rz, n, ez, h0, h1, q⟩ := I.after hq
      subst ez
      obtain ⟨t, rfl⟩ := rz
      exact ⟨⟨h0, h1⟩, .int n, H', I'.tok _, ⟨_, rfl⟩, q⟩
    | next => exact False.elim hq
    | brk => exact False.elim hq
    | cont => exact False.elim hq
/-- x == y, x an instance of the class at C with the text's own ==, y of the type t -/
def rEqO (K : PySem.W.Frag) (C : Addr) (sp : Sp) (E : XK) : R2 := fun x y H Q => ∃ a dx fs t, x = .ref a ∧ H a = some (.ins C dx fs) ∧ TyX K H y t ∧ PySem.W.notFirst K C t = true ∧ sp [x, y] H (fun v H' => ∃ b, v = .bl b ∧ Q (.bl b) H') E
theorem op_eqO (F : FnOk X.prog X.w X.K X.mg X.base CX k f fd ps sp) (hr : Room k X.A) (hs : PySem.W.findIn X.K (.ref C) "__eq__" = some (some (.ref f))) (hf : PySem.W.isFn X.K (.ref f) = true) (hb : Binds X.K fd ps []) (hx : Passes CX X E) : OpR X (compareOp .Eq) (rEqO X.K C sp E) := by
  intro pins s σ H x y v u Q I rx ry h
  obtain ⟨a, dx, fs, t, rfl, ha, ty, hn, h⟩ := h
  cases (show v = Value.ref a from rx)
  obtain ⟨mA, J, _⟩ := ins_get I.hok ha
  obtain ⟨od, J, _⟩ := J.look
  obtain ⟨m, hF⟩ := I.fr
  obtain ⟨Pk, Z, pk, _⟩ := kit_of I ry ty
  show wpAny (model X.prog X.w) X.A (richCompare .Eq (.ref a) u) (EP X pins σ Q) X.xe s
  refine PySem.W.cmp_K (op := .Eq) (tb := t) hr.units0 hF I.ok.mod.kin J (Z.ty _ _ I.kIn pk) hn hs hf ?_
  have hl : ([Value.ref a, u] ++ []).length = ps.length := by rw [← F.len _ _ _ _ h]; rfl
  refine wpAny_call (codeAny_mono (F.run X.A X.stack s H ⟨[.ref a, u], []⟩ [.ref a, u] [.ref a, y] _ E hr I.env0 (by simpa using hb s [.ref a, u] I.kIn hl) (.cons rfl (.cons ry .nil)) h) fun r s' hq => ?_)
  cases r with
  | error e => exact hx pins σ H s e s' I hq
  | ok fl =>
    cases fl with
    | ret w =>
      obtain ⟨z, H', I', rz, b, ez, q⟩ := I.after hq
      subst ez
      cases rz
      exact ⟨.bl b, H', I', rfl, q⟩
    | next => exact False.elim hq
    | brk => exact False.elim hq
    | cont => exact False.elim hq
/-- x + y of two instances of the class at C, by its own + -/
def rAddO (C : Addr) (sp : Sp) (E : XK) : R2 := fun x y H Q => ∃ a b dx dy fs gs, x = .ref a ∧ y = .ref b ∧ H a = some (.ins C dx fs) ∧ H b = some (.ins C dy gs) ∧ sp [x, y] H (fun v H' => (∃ p, v = .ref p) ∧ Q v H') E
theorem op_addO (F : FnOk X.prog X.w X.K X.mg X.base CX k f fd ps sp) (hr : Room k X.A) (hc : PySem.W.selfFirst X.K C = true) (hs : PySem.W.findIn X.K (.ref C) "__add__" = some (some (.ref f))) (hf : PySem.W.isFn X.K (.ref f) = true) (hb : Binds X.K fd ps []) (hx : Passes CX X E) : OpR X (binaryOp .Add) (rAddO C sp E) := by
  intro pins s σ H x y v u Q I rx ry h
  obtain ⟨a, b, dx, dy, fs, gs, rfl, rfl, ha, hb', h⟩ := h
  cases (show v = Value.ref a from rx)
  cases (show u = Value.ref b from ry)
  obtain ⟨mA, J, _⟩ := ins_get I.hok ha
  obtain ⟨mB, J', _⟩ := ins_get I.hok hb'
  obtain ⟨od, J, _⟩ := J.look
  obtain ⟨od', J', _⟩ := J'.look
  obtain ⟨m, hF⟩ := I.fr
  refine PySem.W.binop_K (op := .Add) hF I.ok.mod.kin J J'.type hc hs hf ?_
  have hl : ([Value.ref a, .ref b] ++ []).length = ps.length := by rw [← F.len _ _ _ _ h]; rfl
  refine wpAny_call (codeAny_mono (F.run X.A X.stack s H ⟨[.ref a, .ref b], []⟩ [.ref a, .ref b] [.ref a, .ref b] _ E hr I.env0 (by simpa using hb s [.ref a, .ref b] I.kIn hl) (.cons rfl (.cons rfl .nil)) h) fun r s' hq => ?_)
  cases r with
  | error e => exact hx pins σ H s e s' I hq
  | ok fl =>
    cases fl with
    | ret w =>
      obtain ⟨z, H', I', rz, ⟨p, ez⟩, q⟩ := I.after hq
      subst ez
      cases (show w = Value.ref p from rz)
      exact ⟨.ref p, H', I', rfl, q⟩
    | next => exact False.elim hq
    | brk => exact False.elim hq
    | cont => exact False.elim hq
def gGcd : List V → Hp → VK → Prop := fun vs H Q => ∃ a b : Int, vs = [.int a, .int b] ∧ Q (.int ((Nat.gcd a.natAbs b.natAbs : Nat) : Int)) H
def gLcm : List V → Hp → VK → Prop := fun vs H Q => ∃ a b : Int, vs = [.int a, .int b] ∧ a.natAbs < 2 ^ 64 ∧ b.natAbs < 2 ^ 64 ∧ Q (.int ((Nat.lcm a.natAbs b.natAbs : Nat) : Int)) H
theorem c_gcd : CallR X (.builtin "math.gcd") gGcd := cr_gcd
theorem c_lcm : CallR X (.builtin "math.lcm") gLcm := by
  intro pins s σ H vs us Q I r h
  obtain ⟨a, b, rfl, ha, hb, q⟩ := h
  obtain ⟨u, w', rfl, ⟨t, rfl⟩, ⟨t', rfl⟩⟩ := vals2 r
  exact PySem.W.mc_lcm ha hb fun _ => ⟨.int _, H, I.tok _, ⟨_, rfl⟩, q⟩
variable {e e1 e2 : Expr} {p pos : Pos} {te te1 te2 : TE}
theorem b_gcd (hm : X.mg "gcd" = some (.builtin "math.gcd")) (h1 : PE X e1 te1) (h2 : PE X e2 te2) (hg : Gl X "gcd" := by rfl) (hs : starEach [e1, e2] X.env = (false, eval e1 X.env) :: starEach [e2] X.env := by rfl) (hs2 : starEach [e2] X.env = (false, eval e2 X.env) :: starEach [] X.env := by rfl) (hpl : (backTo pos (starEach [e2] X.env)).any (·.1) = false := by rfl) :
    PE X (.Call (.Name "gcd" p) [e1, e2] [] pos) (tCB gGcd (tCons te1 (tCons te2 tNil))) := pe_callBfun c_gcd hg hm (pa_cons h1 (pa_cons h2 pa_nil hs2) hs) (he := hs) (hpl := hpl)
theorem b_lcm (hm : X.mg "lcm" = some (.builtin "math.lcm")) (h1 : PE X e1 te1) (h2 : PE X e2 te2) (hg : Gl X "lcm" := by rfl) (hs : starEach [e1, e2] X.env = (false, eval e1 X.env) :: starEach [e2] X.env := by rfl) (hs2 : starEach [e2] X.env = (false, eval e2 X.env) :: starEach [] X.env := by rfl) (hpl : (backTo pos (starEach [e2] X.env)).any (·.1) = false := by rfl) :
    PE X (.Call (.Name "lcm" p) [e1, e2] [] pos) (tCB gLcm (tCons te1 (tCons te2 tNil))) := pe_callBfun c_lcm hg hm (pa_cons h1 (pa_cons h2 pa_nil hs2) hs) (he := hs) (hpl := hpl)
end
/-- special methods, as one has them -/
structure Sm (P : Program) (w0 : World) (K : PySem.W.Frag) (mg : Str → Option Value) (base : Heap) (CX : CXT) (k : Nat) (C : Addr) (m : Str) (ds : DS) : Prop where
  ex : ∃ (f : Addr) (fd : FuncData) (ps : List Str), FnOk P w0 K mg base CX k f fd ps (spD K ds) ∧ PySem.W.findIn K (.ref C) m = some (some (.ref f)) ∧ PySem.W.isFn K (.ref f) = true ∧ Binds K fd ps []
section
variable {X : Cx} {CX : CXT} {k : Nat} {C : Addr} {ds : DS} {E : XK} {e e1 e2 : Expr} {p pos : Pos} {te : TE}
theorem o_len (d : Sm X.prog X.w X.K X.mg X.base CX k C "__len__" ds) (hr : Room (k + 1) X.A) (hx : Passes CX X E) (hm : X.mg "len" = none) (he : PE X e te) (hg : Gl X "len" := by rfl) (hs : starEach [e] X.env = (false, eval e X.env) :: starEach [] X.env := by rfl) : PE X (.Call (.Name "len" p) [e] [] pos) (tCB (gLenO C (spD X.K ds) E) (tCons te tNil)) := by
  obtain ⟨f, fd, ps, F, h1, h2, h3⟩ := d.ex
  exact pe_callB (c_lenO F hr h1 h2 h3 hx) hg hm PySem.boot_len (pa_cons he pa_nil hs) (he := hs)
theorem o_eq (d : Sm X.prog X.w X.K X.mg X.base CX k C "__eq__" ds) (hr : Room k X.A) (hx : Passes CX X E) : OpR X (compareOp .Eq) (rEqO X.K C (spD X.K ds) E) := by
  obtain ⟨f, fd, ps, F, h1, h2, h3⟩ := d.ex
  exact op_eqO F hr h1 h2 h3 hx
theorem o_add (d : Sm X.prog X.w X.K X.mg X.base CX k C "__add__" ds) (hc : PySem.W.selfFirst X.K C = true) (hr : Room k X.A) (hx : Passes CX X E) : OpR X (binaryOp .Add) (rAddO C (spD X.K ds) E) := by
  obtain ⟨f, fd, ps, F, h1, h2, h3⟩ := d.ex
  exact op_addO F hr hc h1 h2 h3 hx
end
/-! over data -/
/-- the type of a thing, as isinstance and == look at it -/
structure InsTy (K : PySem.W.Frag) (C : Addr) : Prop where
  cl : Cls K C
  ha : PySem.W.findIn K (.ref C) "__class__" = some (some (.builtin "object.__class__"))
  hn : PySem.W.specialIn K (.builtin "object.__class__") "__get__" = some (some (.builtin "getset_descriptor.__get__"))
  htk : PySem.W.takesIn K (.builtin "object.__class__") = some true
  hm : PySem.W.mroIn K C (.type "object") = some true
def tyE (S : List Own) : Ent → Option Value
  | .d .non => some (.type "NoneType")
  | .d (.bl _) => some (.type "bool")
  | .d (.int _) => some (.type "int")
  | .d (.str _) => some (.type "str")
  | .d (.lst _) => some (.type "list")
  | .d (.tup _) => some (.type "tuple")
  | .d (.obj C _) => some (.ref C)
  | .d (.scr _) => none
  | .d (.cls _) => none
  | .d (.exn _ _ _) => none
  | .d (.eob _ _) => none
  | .d (.ty _) => none
  | .tup _ => some (.type "tuple")
  | .own i => match S[i]? with
    | some (.lst _) => some (.type "list")
    | some (.ins C _) => some (.ref C)
    | _ => none
theorem ty_of {w : Wd} {R H : Hp} {as : List Addr} {S : List Own} {v : V} {x : Ent} {t : Value} (rl : Rel w R H as S) (h : EntOk w.K R as v x) (e : tyE S x = some t) (hi : ∀ C, t = .ref C → InsTy w.K C) : TyX w.K H v t := by
  have ins : ∀ {a C dx : Addr} {fs : List (Str × V)}, H a = some (.ins C dx fs) → t = .ref C → TyX w.K H (.ref a) t := fun q z => by
    subst z
    have i := hi _ rfl
    exact .base (.ins q i.cl i.ha i.hn i.htk i.hm)
  cases x with
  | d x =>
    cases x with
    | non => cases h; cases e; exact .base .non
    | bl b => cases h; cases e; exact .base (.bl _)
    | int b => cases h; cases e; exact .base (.int _)
    | str b => cases h; cases e; exact .base (.str _)
    | scr b => cases e
    | cls b => cases e
    | exn _ _ _ => cases e
    | eob _ _ => cases e
    | ty b => cases e
    | lst b => cases e; cases h with | lst h1 h2 => exact .base (.lst (rl.sub _ _ h1))
    | tup b => cases e; cases h with | tup h1 h2 => exact .base (.tup (rl.sub _ _ h1))
    | obj C b => cases e; cases h with | obj h1 h2 => exact ins (rl.sub _ _ h1) rfl
  | tup es => obtain ⟨a, vs, rfl, h1, h2⟩ := h; cases e; exact .base (.tup (rl.sub _ _ h1))
  | own i =>
    obtain ⟨a, ha, rfl⟩ := h
    simp only [tyE] at e
    cases q : S[i]? with
    | none => rw [q] at e; cases e
    | some o =>
      rw [q] at e
      cases o with
      | gone => cases e
      | dct _ => cases e
      | lat _ _ => cases e
      | sn _ => cases e
      | lst xs =>
        obtain ⟨⟨z, vs, c1, c2⟩, _⟩ := rl.reg i _ a q ha (by intro z; cases z)
        cases e; exact .base (.lst c1)
      | ins C gs =>
        obtain ⟨⟨z, dx, fs, c1, c2⟩, _⟩ := rl.reg i _ a q ha (by intro z; cases z)
        cases e; exact ins c1 rfl
section
variable {w : Wd} {Γ : Env} {S : List Own} {k : KE} {f : DS} {E : XK} {C : Addr}
theorem rc_lenOwn {x : Ent} {gs : List (Str × D)} (hx : IsObj x S C gs) (h : RS w f E [x] S fun e S1 => ∃ n : Int, e = .d (.int n) ∧ 0 ≤ n ∧ n < 2 ^ 63 ∧ k (.d (.int n)) S1) : RC w (gLenO C (spD w.K f) E) [x] S k := fun R H as us Q rl hu c => by
  obtain ⟨v, rfl, hv⟩ := one_ent hu
  obtain ⟨a, dx, fs, rfl, q2, q3⟩ := isObj_at hx rl hv
  refine ⟨a, dx, fs, rfl, q2, h R H as _ _ rl ⟨hv, trivial⟩ fun v' e' S' R' H' as' a1 a2 a3 a4 ⟨n, e1, e2, e3, e4⟩ => ?_⟩
  subst e1
  cases a4
  exact ⟨n, rfl, e2, e3, c _ _ S' R' H' as' a1 a2 a3 (ok_d (Den.int n)) e4⟩
theorem rr_eqO {x y : Ent} {t : Value} {gs : List (Str × D)} (hx : IsObj x S C gs) (ht : tyE S y = some t) (hi : ∀ C, t = .ref C → InsTy w.K C) (hn : PySem.W.notFirst w.K C t = true)
    (h : RS w f E [x, y] S fun e S1 => ∃ b, e = .d (.bl b) ∧ k (.d (.bl b)) S1) : RR w (rEqO w.K C (spD w.K f) E) x y S k := fun R H as u v Q rl hu hv c => by
  obtain ⟨a, dx, fs, rfl, q2, q3⟩ := isObj_at hx rl hu
  refine ⟨a, dx, fs, t, rfl, q2, ty_of rl hv ht hi, hn, h R H as _ _ rl ⟨hu, hv, trivial⟩ fun v' e' S' R' H' as' a1 a2 a3 a4 ⟨b, e1, e4⟩ => ?_⟩
  subst e1
  cases a4
  exact ⟨b, rfl, c _ _ S' R' H' as' a1 a2 a3 (ok_d (Den.bl b)) e4⟩
theorem rr_addO {x y : Ent} {gs hs : List (Str × D)} (hx : IsObj x S C gs) (hy : IsObj y S C hs) (h : RS w f E [x, y] S fun e S1 => (∃ C' g', e = .d (.obj C' g')) ∧ k e S1) : RR w (rAddO C (spD w.K f) E) x y S k := fun R H as u v Q rl hu hv c => by
  obtain ⟨a, dx, fs, rfl, q2, q3⟩ := isObj_at hx rl hu
  obtain ⟨b, dy, gs', rfl, q4, q5⟩ := isObj_at hy rl hv
  refine ⟨a, b, dx, dy, fs, gs', rfl, rfl, q2, q4, h R H as _ _ rl ⟨hu, hv, trivial⟩ fun v' e' S' R' H' as' a1 a2 a3 a4 ⟨⟨C', g', e1⟩, e4⟩ => ?_⟩
  subst e1
  refine ⟨?_, c _ _ S' R' H' as' a1 a2 a3 a4 e4⟩
  have a4' : Den w.K R' v' (.obj C' g') := a4
  cases a4'
  exact ⟨_, rfl⟩
theorem rc_gcd {i j : Int} (q : k (.d (.int ((Nat.gcd i.natAbs j.natAbs : Nat) : Int))) S) : RC w gGcd [.d (.int i), .d (.int j)] S k := fun R H as us Q rl hu c => by
  obtain ⟨v, u, rfl, hv, hv2⟩ := two_ent hu
  cases hv; cases hv2
  exact ⟨i, j, rfl, c _ _ S R H as rl (Sub.refl _) (Pre.refl _) (ok_d (Den.int _)) q⟩
theorem rc_lcm {i j : Int} (hi : i.natAbs < 2 ^ 64) (hj : j.natAbs < 2 ^ 64) (q : k (.d (.int ((Nat.lcm i.natAbs j.natAbs : Nat) : Int))) S) : RC w gLcm [.d (.int i), .d (.int j)] S k := fun R H as us Q rl hu c => by
  obtain ⟨v, u, rfl, hv, hv2⟩ := two_ent hu
  cases hv; cases hv2
  exact ⟨i, j, rfl, hi, hj, c _ _ S R H as rl (Sub.refl _) (Pre.refl _) (ok_d (Den.int _)) q⟩
end
/-! isinstance -/
section
variable {X : Cx} {e1 e2 : Expr} {p pos : Pos} {te1 te2 : TE}
theorem b_isi (hm : X.mg "isinstance" = none) (h1 : PE X e1 te1) (h2 : PE X e2 te2) (hg : Gl X "isinstance" := by rfl) (hs : starEach [e1, e2] X.env = (false, eval e1 X.env) :: starEach [e2] X.env := by rfl) (hs2 : starEach [e2] X.env = (false, eval e2 X.env) :: starEach [] X.env := by rfl) (hpl : (backTo pos (starEach [e2] X.env)).any (·.1) = false := by rfl) :
    PE X (.Call (.Name "isinstance" p) [e1, e2] [] pos) (tCB (rIsi X.K) (tCons te1 (tCons te2 tNil))) := pe_callB call_isi hg hm (by decide +kernel) (pa_cons h1 (pa_cons h2 pa_nil hs2) hs) (he := hs) (hpl := hpl)
theorem b_isiT (hm : X.mg "isinstance" = none) (h1 : PE X e1 te1) (h2 : PE X e2 te2) (hg : Gl X "isinstance" := by rfl) (hs : starEach [e1, e2] X.env = (false, eval e1 X.env) :: starEach [e2] X.env := by rfl) (hs2 : starEach [e2] X.env = (false, eval e2 X.env) :: starEach [] X.env := by rfl) (hpl : (backTo pos (starEach [e2] X.env)).any (·.1) = false := by rfl) :
    PE X (.Call (.Name "isinstance" p) [e1, e2] [] pos) (tCB (rIsiT X.K) (tCons te1 (tCons te2 tNil))) := pe_callB call_isiT hg hm (by decide +kernel) (pa_cons h1 (pa_cons h2 pa_nil hs2) hs) (he := hs) (hpl := hpl)
end
section
variable {w : Wd} {S : List Own} {k : KE}
theorem rc_isi {x : Ent} {C : Addr} {t : Value} {b : Bool} (ht : tyE S x = some t) (hi : ∀ C, t = .ref C → InsTy w.K C) (hk : PySem.W.kitOne w.K t (.ref C) = some b) (q : k (.d (.bl b)) S) : RC w (rIsi w.K) [x, .d (.cls C)] S k := fun R H as us Q rl hu c => by
  obtain ⟨v, u, rfl, hv, hv2⟩ := two_ent hu
  cases hv2
  exact ⟨v, _, t, .ref C, b, rfl, .own C, ty_of rl hv ht hi, hk, c _ _ S R H as rl (Sub.refl _) (Pre.refl _) (ok_d (Den.bl b)) q⟩
end

/-! C(k = v, ..), keywords alone -/
def tPermA (n : Nat) (pm : List Nat) (tk : TA) : TA := fun σ H Q => tk σ H fun zs H2 => zs.length = n ∧ Q (permA .non pm zs) H2
structure CtK (P : Program) (w0 : World) (K : PySem.W.Frag) (mg : Str → Option Value) (base : Heap) (CX : CXT) (k : Nat) (x : Str) (C : Addr) (ks : List Str) (pm : List Nat) (ds : DS) : Prop where
  ex : ∃ (f : Addr) (fd : FuncData) (ps : List Str), FnOk P w0 K mg base CX k f fd ps (spD K ds) ∧ Mk K C f ∧ mg x = some (.ref C) ∧ KB K fd ps ks 1 pm
section
variable {X : Cx} {CX : CXT} {k n : Nat} {C : Addr} {ks : List Str} {pm : List Nat} {ds : DS} {E : XK} {x : Str} {p pos : Pos} {kws : List Keyword} {tk : TA}
theorem pe_mkK (d : CtK X.prog X.w X.K X.mg X.base CX k x C ks pm ds) (hr : Room (k + 1) X.A) (hx : Passes CX X E) (hkw : PK X kws tk) (hn : ks.length = n := by rfl) (hg : Gl X x := by rfl)
    (hall : (backToKw pos (keywordEach kws X.env)).all (·.1.isSome) = true := by rfl) (hks : (backToKw pos (keywordEach kws X.env)).filterMap (·.1) = ks := by rfl)
    (hdb : (x == ("__debug__" : Str)) = false := by decide)
    (hpl : ((backTo pos (starEach [] X.env)).any (·.1) || (backToKw pos (keywordEach kws X.env)).any (·.1.isNone)) = false := by rfl) : PE X (.Call (.Name x p) [] kws pos) (tMake C (spD X.K ds) [] E (tPermA n pm tk)) := by
  obtain ⟨f, fd, ps, F, M, hm, hb⟩ := d.ex
  refine ⟨fun pins s σ H Q I h => ?_⟩
  refine wpAny_Call_Name_kw (ld_glob I hg hm ?_ hdb)
  refine PySem.W.callWith_KW0 (first := []) (h₀ := X.base) I.ok.mod.kin M.kp hall (thn (hkw.run pos pins s σ H _ I h) fun ws s2 ⟨zs, H2, I2, rz, l2, q2⟩ => ⟨I2.kIn, ?_⟩) hpl
  rw [hks]
  have hbn : KBn X.K fd ps (0 + 1) ks (fun us ws => us ++ permA .none pm ws) (fun vs zs => vs ++ permA .non pm zs) := ⟨fun s us ws _ l1 l2 => hb.to s us ws l1 l2, fun r1 r2 => r1.append (vals_perm r2 pm)⟩
  exact run_makeN (vs := []) (us := []) M F hr hbn hx I2 .nil rz rfl (by rw [hn]; exact l2) (by simpa using q2)
end
theorem la_perm {w : Wd} {Γ : Env} {S : List Own} {n : Nat} {pm : List Nat} {tk : TA} {k : List Ent → List Own → Prop} (h : LA w tk Γ S fun es S1 => es.length = n ∧ k (permA (.d .non) pm es) S1) : LA w (tPermA n pm tk) Γ S k := fun σ R H as Q rl s c =>
  h σ R H as _ rl s fun vs es S1 R1 H1 as1 rl1 s1 p1 e1 ⟨h1, h2⟩ => ⟨by rw [e1.len]; exact h1, c _ _ S1 R1 H1 as1 rl1 s1 p1 (ents_perm e1 pm) h2⟩

section
variable {w : Wd} {S : List Own} {k : KE}
theorem rc_listN {x : D} {ds : List D} (h : itemsOf x = some ds) (q : k (.own S.length) (S ++ [.lst ds])) : RC w (gList w.K) [.d x] S k := fun R H as us Q rl hu c => by
  obtain ⟨v, rfl, hv⟩ := one_ent hu
  have hv' : Den w.K R v x := hv
  have fin : ∀ {a : Addr} {vs : List V}, v = .ref a → (SqL w.K H a vs ∨ SqT w.K H a vs) → Dens w.K R vs ds → gList w.K [v] H Q := fun {a vs} e1 e2 e3 => by
    subst e1
    refine ⟨a, vs, rfl, e2, fun p hp => ?_⟩
    have rl2 := rl.allocO hp (.lst vs) (o := .lst ds) ⟨(rl.fresh hp).1, vs, upd_same, e3⟩
    exact c _ _ _ _ _ _ rl2 (Sub.refl _) (Pre.app _ _) (ok_own (by rw [← rl.len]; exact List.getElem?_concat_length)) q
  cases hv' with
  | non => cases h
  | bl _ => cases h
  | int _ => cases h
  | str _ => cases h
  | obj _ _ => cases h
  | cls _ => cases h
  | ty _ => cases h
  | exn _ _ => cases h
  | eob _ _ _ => cases h
  | scr h1 => cases h
  | lst h1 h2 => cases h; exact fin rfl (.inl (SqL.of (rl.sub _ _ h1))) h2
  | tup h1 h2 => cases h; exact fin rfl (.inr (SqT.of (rl.sub _ _ h1))) h2
theorem rc_listNO {i : Nat} {ds : List D} (hi : S[i]? = some (.lst ds)) (q : k (.own S.length) (S ++ [.lst ds])) : RC w (gList w.K) [.own i] S k := fun R H as us Q rl hu c => by
  obtain ⟨v, rfl, hv⟩ := one_ent hu
  obtain ⟨a, vs, rfl, q2, q3⟩ := isLst_at (.inr ⟨i, rfl, hi⟩) rl hv
  refine ⟨_, _, rfl, .inl (SqL.of q2), fun p hp => ?_⟩
  have rl2 := rl.allocO hp (.lst vs) (o := .lst ds) ⟨(rl.fresh hp).1, vs, upd_same, q3⟩
  exact c _ _ _ _ _ _ rl2 (Sub.refl _) (Pre.app _ _) (ok_own (by rw [← rl.len]; exact List.getElem?_concat_length)) q
end
/-! == of lists of ints -/
theorem lay_ints : ∀ s : List Int, PyData.canLayAll0 (s.map PyData.int) = true
  | [] => rfl
  | x :: s => by show (true && PyData.canLayAll0 (s.map PyData.int)) = true; rw [lay_ints s]; rfl
theorem depth_ints : ∀ s : List Int, PyData.depthAll (s.map PyData.int) = 0
  | [] => rfl
  | x :: s => by show max 0 (PyData.depthAll (s.map PyData.int)) = 0; rw [depth_ints s]; rfl
theorem shaped_ints (s : List Int) : SeqAt.shaped (.list (s.map PyData.int)) = true := by
  unfold SeqAt.shaped
  rw [Bool.and_eq_true]
  refine ⟨lay_ints s, decide_eq_true ?_⟩
  show PyData.depthAll (s.map PyData.int) + 1 ≤ 64
  rw [depth_ints]; decide
theorem eqv_ints : ∀ (s t : List Int), PyData.eqvAll (s.map PyData.int) (t.map PyData.int) = decide (s = t)
  | [], [] => rfl
  | [], _ :: _ => rfl
  | _ :: _, [] => rfl
  | x :: s, y :: t => by
    show (x == y && PyData.eqvAll (s.map PyData.int) (t.map PyData.int)) = _
    rw [eqv_ints s t]
    by_cases h1 : x = y
    · subst h1
      by_cases h2 : s = t
      · subst h2; simp
      · simp [h2]
    · simp [h1]
theorem eqv_lz (s t : List Int) : PyData.eqv (.list (s.map PyData.int)) (.list (t.map PyData.int)) = decide (s = t) := eqv_ints s t
theorem toPs_ints : ∀ s : List Int, toPs (s.map D.int) = some (s.map PyData.int)
  | [] => by simp [toPs]
  | x :: s => by
    simp only [List.map_cons, toPs, toP]
    rw [toPs_ints s]; rfl
theorem toP_lz (s : List Int) : toP (.lst (s.map D.int)) = some (.list (s.map PyData.int)) := by
  simp only [toP]
  rw [toPs_ints]; rfl

theorem g_cls {X : Cx} {x : Str} {C : Addr} {pos : Pos} (hm : X.mg x = some (.ref C)) (hg : Gl X x := by rfl) (hd : (x == ("__debug__" : Str)) = false := by decide) : PE X (.Name x pos) (tC (.ref C)) := pe_glob hg hm rfl hd
end Gm
/-! stepped lines, in plain numbers -/
namespace Ln
/-- the value at n of the line told by s and r -/
def at_ (s : List Int) (r n : Int) : Int := s.getD (n % s.length).toNat 0 + n / s.length * r
/-- d is a period of what s and r tell (within s) -/
def Per (s : List Int) (r : Int) (d : Nat) : Prop := r * d % s.length = 0 ∧ ∀ i, d ≤ i → i < s.length → s.getD i 0 = s.getD (i - d) 0 + r * d / s.length
/-- what a line may be told by -/
structure Ok (s : List Int) (r : Int) : Prop where
  pos : 0 < s.length
  up : ∀ i, 0 < i → i < s.length → s.getD (i - 1) 0 ≤ s.getD i 0
  last : s.getD (s.length - 1) 0 ≤ s.getD 0 0 + r
theorem Ok.le {s : List Int} {r : Int} (o : Ok s r) {i : Nat} : ∀ {j : Nat}, i ≤ j → j < s.length → s.getD i 0 ≤ s.getD j 0
  | 0, h, _ => by
    have e : i = 0 := by omega
    subst e; exact Int.le_refl _
  | j + 1, h, hj => by
    by_cases e : i = j + 1
    · subst e; exact Int.le_refl _
    · have h1 := Ok.le o (i := i) (j := j) (by omega) (by omega)
      have h2 := o.up (j + 1) (by omega) hj
      rw [Nat.add_sub_cancel] at h2
      omega
theorem Ok.rise {s : List Int} {r : Int} (o : Ok s r) : 0 ≤ r := by
  have := o.le (i := 0) (j := s.length - 1) (by omega) (by have := o.pos; omega)
  have := o.last
  omega
/-- s by rest and turn -/
theorem per_at {s : List Int} {r : Int} {d : Nat} (hd : 0 < d) (h : Per s r d) : ∀ (n i : Nat), i ≤ n → i < s.length → s.getD i 0 = s.getD (i % d) 0 + ((i / d : Nat) : Int) * (r * d / s.length)
  | n, i, hn, hi => by
    by_cases hlt : i < d
    · rw [Nat.mod_eq_of_lt hlt, Nat.div_eq_of_lt hlt]; simp
    · match n, hn with
      | 0, hn => omega
      | n + 1, hn =>
        have ih := per_at hd h n (i - d) (by omega) (by omega)
        have e1 := h.2 i (by omega) hi
        have e2 : i % d = (i - d) % d := by rw [Nat.mod_eq_sub_mod (by omega)]
        have e3 : i / d = (i - d) / d + 1 := by rw [Nat.div_eq i d, if_pos ⟨hd, by omega⟩]
        rw [e1, ih, e2, e3]
        rw [show (((i - d) / d + 1 : Nat) : Int) = (((i - d) / d : Nat) : Int) + 1 by omega, Int.add_mul]
        omega
theorem per_part {s : List Int} {r : Int} {d k : Nat} (hd : 0 < d) (hs : s.length = d * k) (h : r * d % s.length = 0) : r = k * (r * d / s.length) := by
  have h1 : r * d = s.length * (r * d / s.length) := by
    have := Int.mul_ediv_add_emod (r * d) s.length
    omega
  generalize hp : r * d / (s.length : Int) = p at h1 ⊢
  rw [hs] at h1
  have h2 : (d : Int) * r = d * (k * p) := by
    rw [Int.mul_comm, h1, show ((d * k : Nat) : Int) = (d : Int) * k by simp, Int.mul_assoc]
  exact Int.eq_of_mul_eq_mul_left (by omega) h2
theorem getD_take {s : List Int} {d i : Nat} (h : i < d) : (s.take d).getD i 0 = s.getD i 0 := by
  rw [List.getD_eq_getElem?_getD, List.getD_eq_getElem?_getD, List.getElem?_take, if_pos h]
/-- a period tells the same line -/
theorem at_per {s : List Int} {r : Int} {d : Nat} (hd : 0 < d) (hdv : s.length % d = 0) (hs : 0 < s.length) (h : Per s r d) (n : Int) : at_ (s.take d) (r * d / s.length) n = at_ s r n := by
  obtain ⟨k, hk⟩ : ∃ k, s.length = d * k := ⟨s.length / d, by have := Nat.div_add_mod s.length d; omega⟩
  have hk0 : 0 < k := by
    rcases Nat.eq_zero_or_pos k with e | e
    · subst e; omega
    · exact e
  have hle : d ≤ s.length := by rw [hk]; exact Nat.le_mul_of_pos_right _ hk0
  have hlen : (s.take d).length = d := by rw [List.length_take]; omega
  have hr := per_part hd hk h.1
  unfold at_
  rw [hlen]
  generalize hp : r * d / (s.length : Int) = p at hr ⊢
  have hN : ((s.length : Nat) : Int) = (d : Int) * k := by rw [hk]; simp
  generalize hq : n / (s.length : Int) = q
  obtain ⟨i, hi⟩ : ∃ i : Nat, n % (s.length : Int) = i := ⟨(n % (s.length : Int)).toNat, by have := Int.emod_nonneg n (show (s.length : Int) ≠ 0 by omega); omega⟩
  have hil : i < s.length := by have := Int.emod_lt_of_pos n (show (0 : Int) < s.length by omega); omega
  have hn : n = (s.length : Int) * q + i := by have := Int.mul_ediv_add_emod n s.length; rw [hq, hi] at this; omega
  have hdz : (d : Int) ≠ 0 := by omega
  have e1 : n % (d : Int) = ((i % d : Nat) : Int) := by
    rw [hn, hN, Int.mul_assoc, Int.add_comm, Int.add_mul_emod_self_left]; simp
  have e2 : n / (d : Int) = (k : Int) * q + ((i / d : Nat) : Int) := by
    rw [hn, hN, Int.mul_assoc, Int.add_comm, Int.add_mul_ediv_left _ _ hdz]
    simp; omega
  rw [e1, e2, hi]
  have e3 := per_at hd h i i (Nat.le_refl _) hil
  rw [hp] at e3
  have e4 : (((i % d : Nat) : Int)).toNat = i % d := by omega
  have e5 : ((i : Int)).toNat = i := by omega
  rw [e4, e5, getD_take (Nat.mod_lt _ hd), e3]
  have e6 : ((k : Int) * q + ((i / d : Nat) : Int)) * p = q * r + ((i / d : Nat) : Int) * p := by
    rw [Int.add_mul]
    congr 1
    rw [Int.mul_comm (k : Int) q, Int.mul_assoc, ← hr]
  rw [e6]; omega
theorem ok_take {s : List Int} {r : Int} {d : Nat} (o : Ok s r) (hd : 0 < d) (hdv : s.length % d = 0) (h : Per s r d) : Ok (s.take d) (r * d / s.length) := by
  obtain ⟨k, hk⟩ : ∃ k, s.length = d * k := ⟨s.length / d, by have := Nat.div_add_mod s.length d; omega⟩
  have hs := o.pos
  have hk0 : 0 < k := by
    rcases Nat.eq_zero_or_pos k with e | e
    · subst e; omega
    · exact e
  have hle : d ≤ s.length := by rw [hk]; exact Nat.le_mul_of_pos_right _ hk0
  have hlen : (s.take d).length = d := by rw [List.length_take]; omega
  refine ⟨by omega, fun i h0 hi => ?_, ?_⟩
  · rw [hlen] at hi
    rw [getD_take hi, getD_take (by omega)]
    exact o.up i h0 (by omega)
  · rw [hlen, getD_take (by omega), getD_take hd]
    by_cases hdl : d < s.length
    · have h1 := h.2 d (Nat.le_refl _) hdl
      rw [Nat.sub_self] at h1
      have h2 := o.up d hd hdl
      omega
    · have e : d = s.length := by omega
      subst e
      have hz : (s.length : Int) ≠ 0 := by omega
      rw [Int.mul_ediv_cancel _ hz]
      exact o.last
/-- the least place -/
theorem least {s : List Int} {r v : Int} (o : Ok s r) (hr : 0 < r) (j : Nat) (hj : j < s.length) (hlo : ∀ i, i < j → s.getD i 0 < v - (-((s.getD (s.length - 1) 0 - v) / r)) * r)
    (hhi : v - (-((s.getD (s.length - 1) 0 - v) / r)) * r ≤ s.getD j 0) :
    v ≤ at_ s r (-((s.getD (s.length - 1) 0 - v) / r) * s.length + j) ∧ at_ s r (-((s.getD (s.length - 1) 0 - v) / r) * s.length + j - 1) < v := by
  have hs := o.pos
  generalize hl : s.getD (s.length - 1) 0 = l at *
  generalize ht : -((l - v) / r) = t at *
  have hN : (s.length : Int) ≠ 0 := by omega
  have val : ∀ (q : Int) (i : Nat), i < s.length → at_ s r (q * s.length + i) = s.getD i 0 + q * r := fun q i hi => by
    unfold at_
    have e1 : (q * s.length + i) % (s.length : Int) = i := by
      rw [Int.add_comm, Int.add_mul_emod_self_right]
      exact Int.emod_eq_of_lt (by omega) (by omega)
    have e2 : (q * s.length + i) / (s.length : Int) = q := by
      rw [Int.add_comm, Int.add_mul_ediv_right _ _ hN, Int.ediv_eq_zero_of_lt (by omega) (by omega)]; omega
    rw [e1, e2]
    simp
  refine ⟨by rw [val t j hj]; omega, ?_⟩
  match j, hj, hlo, hhi with
  | j + 1, hj, hlo, _ =>
    have e : t * s.length + ((j + 1 : Nat) : Int) - 1 = t * s.length + (j : Nat) := by omega
    rw [e, val t j (by omega)]
    have := hlo j (by omega)
    omega
  | 0, hj, _, _ =>
    have e : t * s.length + ((0 : Nat) : Int) - 1 = (t - 1) * s.length + ((s.length - 1 : Nat) : Int) := by
      rw [Int.sub_mul]; omega
    rw [e, val (t - 1) (s.length - 1) (by omega), hl]
    -- l + (t - 1) * r < v
    have h1 := Int.mul_ediv_add_emod (l - v) r
    have h2 := Int.emod_nonneg (l - v) (show r ≠ 0 by omega)
    have h3 := Int.emod_lt_of_pos (l - v) hr
    have e2 : (l - v) / r = -t := by omega
    rw [e2] at h1
    have e3 : r * -t = -(t * r) := by rw [Int.mul_neg, Int.mul_comm]
    rw [e3] at h1
    rw [Int.sub_mul]; omega
end Ln
/-! the least form is of the function -/
namespace Ln
def IsPer (f : Int → Int) (d : Nat) : Prop := ∃ Q, ∀ n, f (n + d) = f n + Q
theorem IsPer.mul {f : Int → Int} {d : Nat} {Q : Int} (h : ∀ n, f (n + d) = f n + Q) : ∀ (k : Nat) (n : Int), f (n + (k : Int) * d) = f n + k * Q
  | 0, n => by simp
  | k + 1, n => by
    have e : n + ((k + 1 : Nat) : Int) * d = (n + (k : Int) * d) + d := by
      rw [show ((k + 1 : Nat) : Int) = (k : Int) + 1 by omega, Int.add_mul]; omega
    rw [e, h, IsPer.mul h k n, show ((k + 1 : Nat) : Int) = (k : Int) + 1 by omega, Int.add_mul]; omega
theorem IsPer.mod {f : Int → Int} {a b : Nat} (ha : IsPer f a) (hb : IsPer f b) : IsPer f (a % b) := by
  obtain ⟨Qa, ha⟩ := ha
  obtain ⟨Qb, hb⟩ := hb
  refine ⟨Qa - (a / b : Nat) * Qb, fun n => ?_⟩
  have h1 := IsPer.mul hb (a / b) (n - ((a / b : Nat) : Int) * b)
  have h2 := ha (n - ((a / b : Nat) : Int) * b)
  have e : n - ((a / b : Nat) : Int) * b + a = n + ((a % b : Nat) : Int) := by
    have := Nat.div_add_mod a b
    have e2 : ((a / b : Nat) : Int) * b = ((b * (a / b) : Nat) : Int) := by rw [Int.mul_comm]; simp
    omega
  rw [e] at h2
  rw [show n - ((a / b : Nat) : Int) * b + ((a / b : Nat) : Int) * b = n by omega] at h1
  omega
theorem IsPer.gcd {f : Int → Int} : ∀ (a b : Nat), IsPer f a → IsPer f b → IsPer f (Nat.gcd a b) := by
  intro a b
  induction a, b using Nat.gcd.induction with
  | H0 b => intro _ hb; rw [Nat.gcd_zero_left]; exact hb
  | H1 a b ha ih => intro h1 h2; rw [Nat.gcd_rec]; exact ih (h2.mod h1) h1
theorem at_add {s : List Int} {r : Int} (hs : 0 < s.length) (n : Int) : at_ s r (n + s.length) = at_ s r n + r := by
  unfold at_
  have hz : (s.length : Int) ≠ 0 := by omega
  rw [Int.add_emod_right, Int.add_ediv_of_dvd_right (Int.dvd_refl _), Int.ediv_self hz, Int.add_mul]
  omega
theorem at_nat {s : List Int} {r : Int} {i : Nat} (hi : i < s.length) : at_ s r i = s.getD i 0 := by
  unfold at_
  rw [Int.emod_eq_of_lt (by omega) (by omega), Int.ediv_eq_zero_of_lt (by omega) (by omega)]
  simp
theorem isPer_len {s : List Int} {r : Int} (hs : 0 < s.length) : IsPer (at_ s r) s.length := ⟨r, at_add hs⟩
theorem isPer_of {s : List Int} {r : Int} {d : Nat} (hd : 0 < d) (hdv : s.length % d = 0) (hs : 0 < s.length) (h : Per s r d) : IsPer (at_ s r) d := by
  refine ⟨r * d / s.length, fun n => ?_⟩
  have hle : d ≤ s.length := Nat.le_of_dvd hs (Nat.dvd_of_mod_eq_zero hdv)
  have hlen : (s.take d).length = d := by rw [List.length_take]; omega
  have := at_add (s := s.take d) (r := r * d / s.length) (by omega) n
  rw [hlen, at_per hd hdv hs h, at_per hd hdv hs h] at this
  exact this
theorem per_of {s : List Int} {r : Int} {d : Nat} (hd : 0 < d) (hdv : s.length % d = 0) (hs : 0 < s.length) (h : IsPer (at_ s r) d) : Per s r d := by
  obtain ⟨Q, hQ⟩ := h
  obtain ⟨k, hk⟩ : ∃ k, s.length = d * k := ⟨s.length / d, by have := Nat.div_add_mod s.length d; omega⟩
  have h1 := IsPer.mul hQ k 0
  have h2 := at_add (r := r) hs 0
  have e : (0 : Int) + (k : Int) * d = 0 + s.length := by rw [hk]; simp [Int.mul_comm]
  rw [e, h2] at h1
  have hr : r = k * Q := by omega
  have hz : (s.length : Int) ≠ 0 := by omega
  have e2 : r * d = Q * s.length := by
    rw [hr, hk, Int.mul_comm (k : Int) Q, Int.mul_assoc]
    congr 1
    simp [Int.mul_comm]
  refine ⟨by rw [e2]; exact Int.mul_emod_left _ _, fun i h3 h4 => ?_⟩
  rw [e2, Int.mul_ediv_cancel _ hz]
  have h5 := hQ ((i - d : Nat) : Int)
  have e3 : ((i - d : Nat) : Int) + d = (i : Nat) := by omega
  rw [e3, at_nat h4, at_nat (show i - d < s.length by omega)] at h5
  exact h5
/-- the least period within s -/
structure Lp (s : List Int) (r : Int) (p : Nat) : Prop where
  pos : 0 < p
  le : p ≤ s.length
  dv : s.length % p = 0
  per : Per s r p
  least : ∀ q, 0 < q → q < p → s.length % q = 0 → ¬ Per s r q
theorem Lp.le_of {s : List Int} {r : Int} {p d : Nat} (h : Lp s r p) (hd : 0 < d) (q : IsPer (at_ s r) d) : p ≤ d := by
  have hs : 0 < s.length := Nat.lt_of_lt_of_le h.pos h.le
  have g0 : 0 < Nat.gcd d s.length := Nat.gcd_pos_of_pos_left _ hd
  have g1 : s.length % Nat.gcd d s.length = 0 := Nat.mod_eq_zero_of_dvd (Nat.gcd_dvd_right _ _)
  have g2 := per_of g0 g1 hs (IsPer.gcd d s.length q (isPer_len hs))
  have g3 : Nat.gcd d s.length ≤ d := Nat.le_of_dvd hd (Nat.gcd_dvd_left _ _)
  by_cases hlt : Nat.gcd d s.length < p
  · exact absurd g2 (h.least _ g0 hlt g1)
  · omega
theorem Lp.uniq {s s' : List Int} {r r' : Int} {p p' : Nat} (h : Lp s r p) (h' : Lp s' r' p') (e : ∀ n, at_ s r n = at_ s' r' n) : p = p' ∧ s.take p = s'.take p' ∧ r * p / s.length = r' * p' / s'.length := by
  have hs : 0 < s.length := Nat.lt_of_lt_of_le h.pos h.le
  have hs' : 0 < s'.length := Nat.lt_of_lt_of_le h'.pos h'.le
  have ef : at_ s r = at_ s' r' := funext e
  have i1 := isPer_of h.pos h.dv hs h.per
  have i2 := isPer_of h'.pos h'.dv hs' h'.per
  have l1 := h.le_of h'.pos (by rw [ef]; exact i2)
  have l2 := h'.le_of h.pos (by rw [← ef]; exact i1)
  have ep : p = p' := by omega
  subst ep
  have len1 : (s.take p).length = p := by rw [List.length_take]; have := h.le; omega
  have len2 : (s'.take p).length = p := by rw [List.length_take]; have := h'.le; omega
  have f1 : ∀ n, at_ (s.take p) (r * p / s.length) n = at_ s r n := at_per h.pos h.dv hs h.per
  have f2 : ∀ n, at_ (s'.take p) (r' * p / s'.length) n = at_ s' r' n := at_per h'.pos h'.dv hs' h'.per
  have es : s.take p = s'.take p := by
    refine List.ext_getElem (by rw [len1, len2]) fun i h1 h2 => ?_
    have q1 := f1 i
    have q2 := f2 i
    rw [at_nat h1] at q1
    rw [at_nat h2] at q2
    rw [List.getD_eq_getElem?_getD, List.getElem?_eq_getElem h1] at q1
    rw [List.getD_eq_getElem?_getD, List.getElem?_eq_getElem h2] at q2
    have q3 := e i
    simp at q1 q2 ⊢
    omega
  refine ⟨rfl, es, ?_⟩
  have q1 := at_add (s := s.take p) (r := r * p / s.length) (by rw [len1]; exact h.pos) 0
  have q2 := at_add (s := s'.take p) (r := r' * p / s'.length) (by rw [len2]; exact h.pos) 0
  rw [f1, f1] at q1
  rw [f2, f2] at q2
  rw [len1] at q1
  rw [len2] at q2
  have q3 := e 0
  have q4 := e (0 + (p : Int))
  omega

/-- s, k times over -/
def rep (s : List Int) (r : Int) : Nat → List Int
  | 0 => []
  | k + 1 => rep s r k ++ s.map fun x => x + k * r
theorem rep_len (s : List Int) (r : Int) : ∀ k, (rep s r k).length = k * s.length
  | 0 => by simp [rep]
  | k + 1 => by unfold rep; rw [List.length_append, List.length_map, rep_len s r k, Nat.succ_mul]
theorem getD_map {s : List Int} {f : Int → Int} {i : Nat} (h : i < s.length) : (s.map f).getD i 0 = f (s.getD i 0) := by
  rw [List.getD_eq_getElem?_getD, List.getD_eq_getElem?_getD, List.getElem?_map, List.getElem?_eq_getElem h]; rfl
theorem rep_get {s : List Int} {r : Int} (hs : 0 < s.length) : ∀ (k i : Nat), i < k * s.length → (rep s r k).getD i 0 = s.getD (i % s.length) 0 + ((i / s.length : Nat) : Int) * r
  | 0, i, h => by simp at h
  | k + 1, i, h => by
    rw [Nat.succ_mul] at h
    unfold rep
    by_cases hi : i < k * s.length
    · rw [List.getD_eq_getElem?_getD, List.getElem?_append_left (by rw [rep_len]; exact hi), ← List.getD_eq_getElem?_getD]
      exact rep_get hs k i hi
    · rw [List.getD_eq_getElem?_getD, List.getElem?_append_right (by rw [rep_len]; omega), ← List.getD_eq_getElem?_getD, rep_len, getD_map (by omega)]
      have e : i = s.length * k + (i - k * s.length) := by rw [Nat.mul_comm]; omega
      have e1 : i % s.length = i - k * s.length := by
        rw [e, Nat.mul_add_mod, Nat.mod_eq_of_lt (by rw [Nat.mul_comm] at hi ⊢; omega)]
        rw [Nat.mul_comm]; omega
      have e2 : i / s.length = k := by
        rw [e, Nat.mul_add_div hs, Nat.div_eq_of_lt (by rw [Nat.mul_comm] at hi ⊢; omega)]; rfl
      rw [e1, e2]
theorem rep_ok {s : List Int} {r : Int} {k : Nat} (o : Ok s r) (hk : 0 < k) : Ok (rep s r k) (r * k) := by
  have hs := o.pos
  have hl : (rep s r k).length = k * s.length := rep_len s r k
  have hpos : 0 < k * s.length := Nat.mul_pos hk hs
  refine ⟨by rw [hl]; exact hpos, fun i h0 hi => ?_, ?_⟩
  · rw [hl] at hi
    rw [rep_get hs k i hi, rep_get hs k (i - 1) (by omega)]
    by_cases hm : i % s.length = 0
    · obtain ⟨q, hq⟩ : ∃ q, i = s.length * q := ⟨i / s.length, by have := Nat.div_add_mod i s.length; omega⟩
      have hq0 : 0 < q := by
        rcases Nat.eq_zero_or_pos q with e | e
        · subst e; omega
        · exact e
      have e : i - 1 = s.length * (q - 1) + (s.length - 1) := by
        have : s.length * q = s.length * (q - 1) + s.length := by
          rw [← Nat.mul_succ]; congr 1; omega
        omega
      have e1 : (i - 1) % s.length = s.length - 1 := by rw [e, Nat.mul_add_mod, Nat.mod_eq_of_lt (by omega)]
      have e2 : (i - 1) / s.length = q - 1 := by rw [e, Nat.mul_add_div hs, Nat.div_eq_of_lt (by omega)]; rfl
      have e3 : i / s.length = q := by rw [hq, Nat.mul_div_cancel_left _ hs]
      rw [e1, e2, e3, hm]
      have h1 := o.last
      have e4 : ((q : Nat) : Int) = ((q - 1 : Nat) : Int) + 1 := by omega
      rw [e4, Int.add_mul]
      omega
    · have hdm := Nat.div_add_mod i s.length
      have hlt := Nat.mod_lt i hs
      have e : i - 1 = s.length * (i / s.length) + (i % s.length - 1) := by omega
      have e1 : (i - 1) % s.length = i % s.length - 1 := by rw [e, Nat.mul_add_mod, Nat.mod_eq_of_lt (by omega)]
      have e2 : (i - 1) / s.length = i / s.length := by rw [e, Nat.mul_add_div hs, Nat.div_eq_of_lt (Nat.lt_of_le_of_lt (Nat.sub_le _ _) hlt)]; rfl
      rw [e1, e2]
      have h1 := o.up (i % s.length) (by omega) hlt
      omega
  · rw [hl, rep_get hs k (k * s.length - 1) (by omega), rep_get hs k 0 hpos]
    have e : k * s.length - 1 = s.length * (k - 1) + (s.length - 1) := by
      have : k * s.length = s.length * (k - 1) + s.length := by
        rw [← Nat.mul_succ, Nat.mul_comm]; congr 1; omega
      omega
    have e1 : (k * s.length - 1) % s.length = s.length - 1 := by rw [e, Nat.mul_add_mod, Nat.mod_eq_of_lt (by omega)]
    have e2 : (k * s.length - 1) / s.length = k - 1 := by rw [e, Nat.mul_add_div hs, Nat.div_eq_of_lt (by omega)]; rfl
    rw [e1, e2, Nat.zero_mod, Nat.zero_div]
    have h1 := o.last
    have e4 : r * (k : Int) = ((k - 1 : Nat) : Int) * r + r := by
      have e5 : ((k : Nat) : Int) = ((k - 1 : Nat) : Int) + 1 := by omega
      rw [e5, Int.mul_add, Int.mul_comm r ((k - 1 : Nat) : Int)]; omega
    rw [e4]
    have e6 : ((0 : Nat) : Int) * r = 0 := by simp
    rw [e6]
    omega
theorem rep_take {s : List Int} {r : Int} : ∀ {k : Nat}, 0 < k → (rep s r k).take s.length = s
  | 1, _ => by
    unfold rep rep
    simp
  | k + 2, _ => by
    unfold rep
    rw [List.take_append_of_le_length (by rw [rep_len, Nat.succ_mul]; omega)]
    exact rep_take (k := k + 1) (by omega)
theorem rep_per {s : List Int} {r : Int} {k : Nat} (hs : 0 < s.length) (hk : 0 < k) : Per (rep s r k) (r * k) s.length ∧ r * k * s.length / (rep s r k).length = r := by
  have hl : ((rep s r k).length : Int) = k * s.length := by rw [rep_len]; simp
  have hz : (k : Int) * s.length ≠ 0 := by
    have := Nat.mul_pos hk hs
    have e : (k : Int) * s.length = ((k * s.length : Nat) : Int) := by simp
    omega
  have e : r * k * s.length = r * (k * s.length) := Int.mul_assoc ..
  have e0 : r * k * s.length / (rep s r k).length = r := by rw [hl, e, Int.mul_ediv_cancel _ hz]
  refine ⟨⟨by rw [hl, e]; exact Int.mul_emod_left _ _, fun i h1 h2 => ?_⟩, e0⟩
  rw [e0]
  rw [rep_len] at h2
  rw [rep_get hs k i h2, rep_get hs k (i - s.length) (by omega)]
  have e1 : i % s.length = (i - s.length) % s.length := by rw [Nat.mod_eq_sub_mod h1]
  have e2 : i / s.length = (i - s.length) / s.length + 1 := by rw [Nat.div_eq i s.length, if_pos ⟨hs, h1⟩]
  rw [e1, e2, show (((i - s.length) / s.length + 1 : Nat) : Int) = (((i - s.length) / s.length : Nat) : Int) + 1 by omega, Int.add_mul]
  omega
theorem rep_at {s : List Int} {r : Int} {k : Nat} (hs : 0 < s.length) (hk : 0 < k) (n : Int) : at_ (rep s r k) (r * k) n = at_ s r n := by
  obtain ⟨h1, h2⟩ := rep_per (r := r) hs hk
  have h3 := at_per (s := rep s r k) (r := r * k) hs (by rw [rep_len]; exact Nat.mul_mod_left _ _) (by rw [rep_len]; exact Nat.mul_pos hk hs) h1 n
  rw [rep_take hk, h2] at h3
  exact h3.symm
/-- all values times m -/
theorem scale_ok {s : List Int} {r m : Int} (o : Ok s r) (hm : 0 ≤ m) : Ok (s.map fun x => m * x) (m * r) := by
  refine ⟨by rw [List.length_map]; exact o.pos, fun i h0 hi => ?_, ?_⟩
  · rw [List.length_map] at hi
    rw [getD_map hi, getD_map (by omega)]
    exact Int.mul_le_mul_of_nonneg_left (o.up i h0 hi) hm
  · have := o.pos
    rw [List.length_map, getD_map (by omega), getD_map this, ← Int.mul_add]
    exact Int.mul_le_mul_of_nonneg_left o.last hm
end Ln
/-! sums of lines, lines after lines -/
namespace Ln
theorem at_qi {s : List Int} {r n q i : Int} (h0 : 0 ≤ i) (h1 : i < s.length) (h : n = s.length * q + i) : at_ s r n = s.getD i.toNat 0 + q * r := by
  have := (Int.ediv_emod_unique (a := n) (b := s.length) (r := i) (q := q) (by omega)).mpr ⟨by omega, h0, h1⟩
  unfold at_
  rw [this.1, this.2]
theorem at_mono1 {s : List Int} {r : Int} (o : Ok s r) (n : Int) : at_ s r n ≤ at_ s r (n + 1) := by
  have hs := o.pos
  have h1 := Int.mul_ediv_add_emod n s.length
  have h2 := Int.emod_nonneg n (show (s.length : Int) ≠ 0 by omega)
  have h3 := Int.emod_lt_of_pos n (show (0 : Int) < s.length by omega)
  rw [at_qi (q := n / s.length) (i := n % s.length) h2 h3 h1.symm]
  by_cases hi : n % s.length + 1 < s.length
  · rw [at_qi (q := n / s.length) (i := n % s.length + 1) (by omega) hi (by omega)]
    have := o.up (n % s.length + 1).toNat (by omega) (by omega)
    have e : (n % s.length + 1).toNat - 1 = (n % s.length).toNat := by omega
    rw [e] at this
    omega
  · rw [at_qi (q := n / s.length + 1) (i := 0) (by omega) (by omega) (by rw [Int.mul_add]; omega)]
    have := o.last
    have e : (n % (s.length : Int)).toNat = s.length - 1 := by omega
    rw [e, Int.add_mul]
    have e0 : (0 : Int).toNat = 0 := rfl
    rw [e0]
    omega
theorem at_mono {s : List Int} {r : Int} (o : Ok s r) (n : Int) : ∀ k : Nat, at_ s r n ≤ at_ s r (n + k)
  | 0 => by rw [show n + ((0 : Nat) : Int) = n by omega]; exact Int.le_refl _
  | k + 1 => by
    have h1 := at_mono o n k
    have h2 := at_mono1 o (n + k)
    rw [show n + ((k + 1 : Nat) : Int) = n + k + 1 by omega]
    omega
theorem at_le {s : List Int} {r : Int} (o : Ok s r) {n m : Int} (h : n ≤ m) : at_ s r n ≤ at_ s r m := by
  have := at_mono o n (m - n).toNat
  rw [show n + ((m - n).toNat : Int) = m by omega] at this
  exact this
theorem getD_range {f : Nat → Int} {L i : Nat} (h : i < L) : ((List.range L).map f).getD i 0 = f i := by
  rw [List.getD_eq_getElem?_getD, List.getElem?_map, List.getElem?_range h]; rfl
theorem per_all {f : Int → Int} {L : Nat} {Q : Int} (h : ∀ n, f (n + L) = f n + Q) (q n : Int) : f (n + q * L) = f n + q * Q := by
  by_cases hq : 0 ≤ q
  · have := IsPer.mul h q.toNat n
    rw [show ((q.toNat : Nat) : Int) = q by omega] at this
    exact this
  · have := IsPer.mul h (-q).toNat (n + q * L)
    rw [show (((-q).toNat : Nat) : Int) = -q by omega, show n + q * (L : Int) + -q * (L : Int) = n by rw [Int.neg_mul]; omega, Int.neg_mul] at this
    omega
theorem of_fun {f : Int → Int} {L : Nat} {Q : Int} (hL : 0 < L) (per : ∀ n, f (n + L) = f n + Q) (mono : ∀ n, f n ≤ f (n + 1)) :
    Ok ((List.range L).map fun i : Nat => f i) Q ∧ ∀ n, at_ ((List.range L).map fun i : Nat => f i) Q n = f n := by
  have hl : ((List.range L).map fun i : Nat => f i).length = L := by rw [List.length_map, List.length_range]
  refine ⟨⟨by rw [hl]; exact hL, fun i h0 hi => ?_, ?_⟩, fun n => ?_⟩
  · rw [hl] at hi
    rw [getD_range hi, getD_range (by omega)]
    have := mono ((i - 1 : Nat) : Int)
    rw [show ((i - 1 : Nat) : Int) + 1 = (i : Nat) by omega] at this
    exact this
  · rw [hl, getD_range (by omega), getD_range hL]
    have h1 := mono ((L - 1 : Nat) : Int)
    have h2 := per 0
    rw [show ((L - 1 : Nat) : Int) + 1 = 0 + (L : Nat) by omega, h2] at h1
    exact h1
  · have h1 := Int.mul_ediv_add_emod n L
    have h2 := Int.emod_nonneg n (show (L : Int) ≠ 0 by omega)
    have h3 := Int.emod_lt_of_pos n (show (0 : Int) < L by omega)
    rw [at_qi (q := n / L) (i := n % L) h2 (by rw [hl]; exact h3) (by rw [hl]; exact h1.symm), getD_range (by omega)]
    have h4 := per_all per (n / L) (n % L)
    rw [show n % (L : Int) + n / (L : Int) * L = n by rw [Int.mul_comm]; omega] at h4
    rw [h4, show ((n % (L : Int)).toNat : Int) = n % L by omega]
def sumL (s1 s2 : List Int) : Nat := Nat.lcm s1.length s2.length
def sumS (s1 : List Int) (r1 : Int) (s2 : List Int) (r2 : Int) : List Int := (List.range (sumL s1 s2)).map fun i : Nat => at_ s1 r1 i + at_ s2 r2 i
def sumQ (s1 : List Int) (r1 : Int) (s2 : List Int) (r2 : Int) : Int := at_ s1 r1 (sumL s1 s2) + at_ s2 r2 (sumL s1 s2) - (at_ s1 r1 0 + at_ s2 r2 0)
def aftL (s1 s2 : List Int) (r2 : Int) : Nat := s1.length / Nat.gcd s1.length r2.natAbs * s2.length
def aftS (s1 : List Int) (r1 : Int) (s2 : List Int) (r2 : Int) : List Int := (List.range (aftL s1 s2 r2)).map fun i : Nat => at_ s1 r1 (at_ s2 r2 i)
def aftQ (s1 : List Int) (r1 : Int) (s2 : List Int) (r2 : Int) : Int := at_ s1 r1 (at_ s2 r2 (aftL s1 s2 r2)) - at_ s1 r1 (at_ s2 r2 0)
theorem at_mul {s : List Int} {r : Int} (hs : 0 < s.length) (q n : Int) : at_ s r (n + q * s.length) = at_ s r n + q * r := per_all (at_add hs) q n
theorem at_dvd {s : List Int} {r : Int} (hs : 0 < s.length) {L : Nat} (h : s.length ∣ L) (n : Int) : at_ s r (n + L) = at_ s r n + (at_ s r L - at_ s r 0) := by
  obtain ⟨k, rfl⟩ := h
  have e : ((s.length * k : Nat) : Int) = (k : Int) * s.length := by rw [Int.mul_comm]; simp
  have h1 := at_mul (r := r) hs k n
  have h2 := at_mul (r := r) hs k 0
  rw [e, h1]
  rw [show (0 : Int) + (k : Int) * s.length = (k : Int) * s.length by omega] at h2
  rw [h2]
  omega
theorem sumL_pos {s1 s2 : List Int} (h1 : 0 < s1.length) (h2 : 0 < s2.length) : 0 < sumL s1 s2 := Nat.lcm_pos h1 h2
theorem sumL_le {s1 s2 : List Int} (h1 : 0 < s1.length) (h2 : 0 < s2.length) : sumL s1 s2 ≤ s1.length * s2.length := Nat.le_of_dvd (Nat.mul_pos h1 h2) (Nat.lcm_dvd_mul _ _)
theorem sum_is {s1 : List Int} {r1 : Int} {s2 : List Int} {r2 : Int} (o1 : Ok s1 r1) (o2 : Ok s2 r2) : Ok (sumS s1 r1 s2 r2) (sumQ s1 r1 s2 r2) ∧ ∀ n, at_ (sumS s1 r1 s2 r2) (sumQ s1 r1 s2 r2) n = at_ s1 r1 n + at_ s2 r2 n := by
  refine of_fun (f := fun n => at_ s1 r1 n + at_ s2 r2 n) (sumL_pos o1.pos o2.pos) (fun n => ?_) fun n => ?_
  · have h1 := at_dvd (r := r1) o1.pos (Nat.dvd_lcm_left s1.length s2.length) n
    have h2 := at_dvd (r := r2) o2.pos (Nat.dvd_lcm_right s1.length s2.length) n
    show at_ s1 r1 (n + sumL s1 s2) + at_ s2 r2 (n + sumL s1 s2) = _
    unfold sumQ
    unfold sumL at *
    omega
  · have h1 := at_mono1 o1 n
    have h2 := at_mono1 o2 n
    show _ + _ ≤ _ + _
    omega
theorem gcd_pos {a : Nat} (h : 0 < a) (b : Nat) : 0 < Nat.gcd a b := Nat.gcd_pos_of_pos_left _ h
theorem turns_pos {a : Nat} (h : 0 < a) (b : Nat) : 0 < a / Nat.gcd a b := Nat.div_pos (Nat.le_of_dvd h (Nat.gcd_dvd_left _ _)) (gcd_pos h b)
theorem aftL_pos {s1 s2 : List Int} {r2 : Int} (h1 : 0 < s1.length) (h2 : 0 < s2.length) : 0 < aftL s1 s2 r2 := Nat.mul_pos (turns_pos h1 _) h2
theorem aftL_le {s1 s2 : List Int} {r2 : Int} : aftL s1 s2 r2 ≤ s1.length * s2.length := Nat.mul_le_mul_right _ (Nat.div_le_self _ _)
/-- after a round of the inner line, the outer one has whole rounds -/
theorem aft_turns {s1 : List Int} {r2 : Int} (h1 : 0 < s1.length) : ∃ k : Int, ((s1.length / Nat.gcd s1.length r2.natAbs : Nat) : Int) * r2 = k * s1.length := by
  have hg := gcd_pos h1 r2.natAbs
  obtain ⟨a, ha⟩ := Nat.gcd_dvd_left s1.length r2.natAbs
  obtain ⟨b, hb⟩ : ((Nat.gcd s1.length r2.natAbs : Nat) : Int) ∣ r2 := Int.dvd_natAbs.mp (Int.natCast_dvd_natCast.mpr (Nat.gcd_dvd_right _ _))
  refine ⟨b, ?_⟩
  generalize Nat.gcd s1.length r2.natAbs = g at *
  have e : s1.length / g = a := by rw [ha, Nat.mul_div_cancel_left _ hg]
  rw [e, hb, ha]
  simp only [Int.natCast_mul]
  rw [Int.mul_comm (g : Int) b, Int.mul_comm (a : Int), Int.mul_assoc]
theorem aft_is {s1 : List Int} {r1 : Int} {s2 : List Int} {r2 : Int} (o1 : Ok s1 r1) (o2 : Ok s2 r2) : Ok (aftS s1 r1 s2 r2) (aftQ s1 r1 s2 r2) ∧ ∀ n, at_ (aftS s1 r1 s2 r2) (aftQ s1 r1 s2 r2) n = at_ s1 r1 (at_ s2 r2 n) := by
  obtain ⟨k, hk⟩ := aft_turns (r2 := r2) o1.pos
  have key : ∀ n, at_ s1 r1 (at_ s2 r2 (n + aftL s1 s2 r2)) = at_ s1 r1 (at_ s2 r2 n) + k * r1 := fun n => by
    have e : ((aftL s1 s2 r2 : Nat) : Int) = ((s1.length / Nat.gcd s1.length r2.natAbs : Nat) : Int) * s2.length := by unfold aftL; simp
    rw [e, at_mul o2.pos, hk, at_mul o1.pos]
  have hq : aftQ s1 r1 s2 r2 = k * r1 := by
    have := key 0
    unfold aftQ
    rw [show (0 : Int) + ((aftL s1 s2 r2 : Nat) : Int) = ((aftL s1 s2 r2 : Nat) : Int) by omega] at this
    omega
  rw [hq]
  refine of_fun (f := fun n => at_ s1 r1 (at_ s2 r2 n)) (aftL_pos o1.pos o2.pos) key fun n => ?_
  exact at_le o1 (at_mono1 o2 n)
/-! bounds -/
structure Bd (s : List Int) (r : Int) (l m : Nat) : Prop where
  len : s.length ≤ l
  r : r.natAbs < 2 ^ m
  el : ∀ i, (s.getD i 0).natAbs < 2 ^ m
theorem div_le_abs {a r : Int} (hr : 0 < r) : (a / r).natAbs ≤ a.natAbs := by
  by_cases h : 0 ≤ a
  · have h1 := Int.ediv_nonneg h (show 0 ≤ r by omega)
    have h2 := Int.ediv_le_self r h
    omega
  · have h1 : a ≤ a / r := by
      refine Int.le_ediv_of_mul_le hr ?_
      have h3 := Int.mul_nonneg (show 0 ≤ -a by omega) (show 0 ≤ r - 1 by omega)
      rw [Int.neg_mul, Int.mul_sub] at h3
      omega
    have h2 : a / r < 0 := Int.ediv_neg_of_neg_of_pos (by omega) hr
    omega
theorem Bd.at_ {s : List Int} {r : Int} {l m : Nat} (b : Bd s r l m) (hs : 0 < s.length) {n : Int} {j : Nat} (hn : n.natAbs < 2 ^ j) : (at_ s r n).natAbs < 2 ^ (m + j + 1) := by
  have h1 := b.el (n % s.length).toNat
  have h2 : (n / (s.length : Int) * r).natAbs < 2 ^ j * 2 ^ m := by
    rw [Int.natAbs_mul]
    exact Nat.mul_lt_mul'' (Nat.lt_of_le_of_lt (div_le_abs (by omega)) hn) b.r
  have h3 := Int.natAbs_add_le (s.getD (n % s.length).toNat 0) (n / (s.length : Int) * r)
  have e1 : (2 : Nat) ^ (m + j + 1) = 2 ^ m * 2 ^ j + 2 ^ m * 2 ^ j := by rw [Nat.pow_succ, Nat.pow_add]; omega
  have e2 : 2 ^ m ≤ 2 ^ m * 2 ^ j := Nat.le_mul_of_pos_right _ (Nat.pow_pos (by decide))
  have e3 : 2 ^ j * 2 ^ m = 2 ^ m * 2 ^ j := Nat.mul_comm _ _
  unfold Ln.at_
  omega
theorem Bd.mono {s : List Int} {r : Int} {l m l' m' : Nat} (b : Bd s r l m) (hl : l ≤ l') (hm : m ≤ m') : Bd s r l' m' := by
  have := Nat.pow_le_pow_right (show 2 > 0 by decide) hm
  exact ⟨Nat.le_trans b.len hl, Nat.lt_of_lt_of_le b.r this, fun i => Nat.lt_of_lt_of_le (b.el i) this⟩
theorem el_range {f : Nat → Int} {L : Nat} {m : Nat} (h : ∀ i, i < L → (f i).natAbs < 2 ^ m) (i : Nat) : (((List.range L).map f).getD i 0).natAbs < 2 ^ m := by
  by_cases hi : i < L
  · rw [getD_range hi]; exact h i hi
  · rw [List.getD_eq_getElem?_getD, List.getElem?_eq_none (by rw [List.length_map, List.length_range]; omega)]
    exact Nat.pow_pos (by decide)
theorem sum_bd {s1 : List Int} {r1 : Int} {s2 : List Int} {r2 : Int} {l1 l2 m : Nat} (o1 : Ok s1 r1) (o2 : Ok s2 r2) (b1 : Bd s1 r1 l1 m) (b2 : Bd s2 r2 l2 m) (hl : l1 * l2 < 2 ^ 10) :
    Bd (sumS s1 r1 s2 r2) (sumQ s1 r1 s2 r2) (l1 * l2) (m + 13) := by
  have hL : sumL s1 s2 ≤ l1 * l2 := Nat.le_trans (sumL_le o1.pos o2.pos) (Nat.mul_le_mul b1.len b2.len)
  have A : ∀ i : Nat, i ≤ sumL s1 s2 → (at_ s1 r1 i + at_ s2 r2 i).natAbs < 2 ^ (m + 12) := fun i hi => by
    have h1 := b1.at_ o1.pos (n := (i : Int)) (j := 10) (by omega)
    have h2 := b2.at_ o2.pos (n := (i : Int)) (j := 10) (by omega)
    have e : (2 : Nat) ^ (m + 12) = 2 ^ (m + 10 + 1) + 2 ^ (m + 10 + 1) := by rw [show m + 12 = m + 10 + 1 + 1 by omega, Nat.pow_succ 2 (m + 10 + 1)]; omega
    rw [e]
    generalize (2 : Nat) ^ (m + 10 + 1) = z at *
    omega
  have e13 : (2 : Nat) ^ (m + 13) = 2 ^ (m + 12) + 2 ^ (m + 12) := by rw [show m + 13 = m + 12 + 1 by omega, Nat.pow_succ]; omega
  refine ⟨by unfold sumS; rw [List.length_map, List.length_range]; exact hL, ?_, el_range fun i hi => ?_⟩
  · have h1 := A (sumL s1 s2) (Nat.le_refl _)
    have h2 := A 0 (Nat.zero_le _)
    rw [show ((0 : Nat) : Int) = 0 from rfl] at h2
    unfold sumQ
    omega
  · have := A i (Nat.le_of_lt hi)
    omega
theorem aft_bd {s1 : List Int} {r1 : Int} {s2 : List Int} {r2 : Int} {l1 l2 m1 m2 : Nat} (o1 : Ok s1 r1) (o2 : Ok s2 r2) (b1 : Bd s1 r1 l1 m1) (b2 : Bd s2 r2 l2 m2) (hl : l1 * l2 < 2 ^ 10) :
    Bd (aftS s1 r1 s2 r2) (aftQ s1 r1 s2 r2) (l1 * l2) (m1 + m2 + 13) := by
  have hL : aftL s1 s2 r2 ≤ l1 * l2 := Nat.le_trans aftL_le (Nat.mul_le_mul b1.len b2.len)
  have A : ∀ i : Nat, i ≤ aftL s1 s2 r2 → (at_ s1 r1 (at_ s2 r2 i)).natAbs < 2 ^ (m1 + m2 + 12) := fun i hi => by
    have h2 := b2.at_ o2.pos (n := (i : Int)) (j := 10) (by omega)
    have h1 := b1.at_ o1.pos h2
    rw [show m1 + (m2 + 10 + 1) + 1 = m1 + m2 + 12 by omega] at h1
    exact h1
  have e13 : (2 : Nat) ^ (m1 + m2 + 13) = 2 ^ (m1 + m2 + 12) + 2 ^ (m1 + m2 + 12) := by rw [show m1 + m2 + 13 = m1 + m2 + 12 + 1 by omega, Nat.pow_succ]; omega
  refine ⟨by unfold aftS; rw [List.length_map, List.length_range]; exact hL, ?_, el_range fun i hi => ?_⟩
  · have h1 := A (aftL s1 s2 r2) (Nat.le_refl _)
    have h2 := A 0 (Nat.zero_le _)
    rw [show ((0 : Nat) : Int) = 0 from rfl] at h2
    unfold aftQ
    omega
  · have := A i (Nat.le_of_lt hi)
    omega
/-! lines in least form -/
theorem Lp.mul {s : List Int} {r : Int} {p : Nat} (h : Lp s r p) : ∃ k : Nat, 0 < k ∧ s.length = p * k ∧ r = k * (r * p / s.length) := by
  obtain ⟨k, hk⟩ : ∃ k, s.length = p * k := ⟨s.length / p, by have := Nat.div_add_mod s.length p; have := h.dv; omega⟩
  refine ⟨k, ?_, hk, per_part h.pos hk h.per.1⟩
  rcases Nat.eq_zero_or_pos k with e | e
  · subst e; have := h.pos; have := h.le; omega
  · exact e
theorem Lp.take {s : List Int} {r : Int} {p : Nat} (h : Lp s r p) : (s.take p).length = p ∧ Lp (s.take p) (r * p / s.length) p := by
  have hs : 0 < s.length := Nat.lt_of_lt_of_le h.pos h.le
  have hl : (s.take p).length = p := by rw [List.length_take]; have := h.le; omega
  have ef : at_ (s.take p) (r * p / s.length) = at_ s r := funext (at_per h.pos h.dv hs h.per)
  refine ⟨hl, h.pos, by omega, by rw [hl]; exact Nat.mod_self _, ⟨by rw [hl]; exact Int.mul_emod_left _ _, fun i h1 h2 => by omega⟩, fun q q0 q1 q2 q3 => ?_⟩
  rw [hl] at q2
  have i1 := isPer_of (s := s.take p) q0 (by rw [hl]; exact q2) (by rw [hl]; exact h.pos) q3
  rw [ef] at i1
  have d1 : q ∣ s.length := Nat.dvd_trans (Nat.dvd_of_mod_eq_zero q2) (Nat.dvd_of_mod_eq_zero h.dv)
  exact h.least q q0 q1 (Nat.mod_eq_zero_of_dvd d1) (per_of q0 (Nat.mod_eq_zero_of_dvd d1) hs i1)
theorem Lp.bd {s : List Int} {r : Int} {p l m : Nat} (h : Lp s r p) (b : Bd s r l m) : Bd (s.take p) (r * p / s.length) l m := by
  refine ⟨by rw [List.length_take]; have := b.len; omega, ?_, fun i => ?_⟩
  · obtain ⟨k, hk, _, h⟩ := h.mul
    have h2 := b.r
    generalize r * p / (s.length : Int) = q at h
    have h3 : r.natAbs = k * q.natAbs := by rw [h, Int.natAbs_mul]; simp
    have := Nat.le_mul_of_pos_left q.natAbs hk
    omega
  · rw [List.getD_eq_getElem?_getD, List.getElem?_take]
    split
    · have := b.el i; rw [List.getD_eq_getElem?_getD] at this; exact this
    · exact Nat.pow_pos (by decide)
/-- s, r tell f by its least period -/
structure Fm (f : Int → Int) (l m : Nat) (s : List Int) (r : Int) : Prop where
  ok : Ok s r
  lp : Lp s r s.length
  at_ : ∀ n, at_ s r n = f n
  bd : Bd s r l m
theorem fm_of {s : List Int} {r : Int} {p l m : Nat} {f : Int → Int} (o : Ok s r) (b : Bd s r l m) (lp : Lp s r p) (h : ∀ n, Ln.at_ s r n = f n) : Fm f l m (s.take p) (r * p / s.length) where
  ok := ok_take o lp.pos lp.dv lp.per
  lp := by rw [lp.take.1]; exact lp.take.2
  at_ n := by rw [at_per lp.pos lp.dv o.pos lp.per n]; exact h n
  bd := lp.bd b
theorem fm_uniq {f g : Int → Int} {l m l' m' : Nat} {s s' : List Int} {r r' : Int} (h : Fm f l m s r) (h' : Fm g l' m' s' r') (e : ∀ n, f n = g n) : s = s' ∧ r = r' := by
  obtain ⟨e1, e2, e3⟩ := h.lp.uniq h'.lp fun n => by rw [h.at_, h'.at_]; exact e n
  rw [List.take_length, List.take_length] at e2
  have z : (s.length : Int) ≠ 0 := by have := h.ok.pos; omega
  have z' : (s'.length : Int) ≠ 0 := by have := h'.ok.pos; omega
  rw [Int.mul_ediv_cancel _ z, Int.mul_ediv_cancel _ z'] at e3
  exact ⟨e2, e3⟩
theorem take_self {s : List Int} {r : Int} (hs : 0 < s.length) : s.take s.length = s ∧ r * s.length / s.length = r :=
  ⟨List.take_length, Int.mul_ediv_cancel _ (by omega)⟩
end Ln
/-! where two lines meet, where they part -/
namespace Ln
/-- the least n from b on with P -/
def LeastAt (P : Int → Prop) (b : Int) : Option Int → Prop
  | some n => b ≤ n ∧ P n ∧ ∀ m, b ≤ m → m < n → ¬ P m
  | none => ∀ m, b ≤ m → ¬ P m
theorem LeastAt.uniq {P : Int → Prop} {b : Int} : ∀ {o u : Option Int}, LeastAt P b o → LeastAt P b u → o = u
  | none, none, _, _ => rfl
  | none, some n, h, ⟨a, q, _⟩ => absurd q (h n a)
  | some n, none, ⟨a, q, _⟩, h => absurd q (h n a)
  | some n, some m, ⟨a, q, r⟩, ⟨a', q', r'⟩ => by
    rcases Int.lt_trichotomy n m with h | h | h
    · exact absurd q (r' n a h)
    · rw [h]
    · exact absurd q' (r m a' h)
theorem split_at {L : Nat} (hL : 0 < L) (b n : Int) : ∃ (j : Nat) (k : Int), j < L ∧ n = b + j + k * L ∧ (b ≤ n → 0 ≤ k) := by
  have h1 := Int.mul_ediv_add_emod (n - b) L
  have h2 := Int.emod_nonneg (n - b) (show (L : Int) ≠ 0 by omega)
  have h3 := Int.emod_lt_of_pos (n - b) (show (0 : Int) < L by omega)
  refine ⟨((n - b) % L).toNat, (n - b) / L, by omega, ?_, fun hb => Int.ediv_nonneg (by omega) (by omega)⟩
  rw [Int.toNat_of_nonneg h2, Int.mul_comm ((n - b) / L)]
  omega
section
variable {h : Int → Int} {L : Nat} {G b : Int}
def cand (h : Int → Int) (L : Nat) (G p : Int) : Option Int := if h p * G < 0 ∧ (h p).fmod G = 0 then some (p - (h p).fdiv G * L) else none
theorem cand_sound (hL : 0 < L) (per : ∀ n, h (n + L) = h n + G) {p n : Int} (e : cand h L G p = some n) : h n = 0 ∧ p + L ≤ n := by
  unfold cand at e
  split at e
  · rename_i c
    obtain ⟨c1, c2⟩ := c
    cases e
    have h1 := Int.mul_fdiv_add_fmod (h p) G
    rw [c2, Int.add_zero] at h1
    generalize (h p).fdiv G = q at h1 ⊢
    have hq : q < 0 := by
      rw [← h1] at c1
      by_cases hq : q < 0
      · exact hq
      · exfalso
        have h2 : 0 ≤ G * G := by
          rcases Int.le_total 0 G with g | g
          · exact Int.mul_nonneg g g
          · exact Int.mul_nonneg_of_nonpos_of_nonpos g g
        have h3 := Int.mul_nonneg h2 (show 0 ≤ q by omega)
        rw [show G * q * G = G * G * q by rw [Int.mul_assoc, Int.mul_comm q G, ← Int.mul_assoc]] at c1
        omega
    constructor
    · have := per_all per (-q) p
      rw [Int.neg_mul] at this
      rw [show p - q * (L : Int) = p + -(q * (L : Int)) by omega, this, ← h1, Int.mul_comm G q, Int.neg_mul]
      omega
    · have := Int.mul_le_mul_of_nonneg_right (show q ≤ -1 by omega) (show (0 : Int) ≤ L by omega)
      omega
  · cases e
theorem cand_complete (hL : 0 < L) (per : ∀ n, h (n + L) = h n + G) {p k : Int} (hk : 0 < k) (h0 : h p ≠ 0) (e : h (p + k * L) = 0) : cand h L G p = some (p + k * L) := by
  have h1 := per_all per k p
  rw [e] at h1
  have hp : h p = -k * G := by rw [Int.neg_mul]; omega
  have hG : G ≠ 0 := fun z => h0 (by rw [hp, z, Int.mul_zero])
  unfold cand
  have hd : (h p).fdiv G = -k := by rw [hp]; exact Int.mul_fdiv_cancel _ hG
  rw [if_pos, hd, Int.neg_mul]
  · congr 1; omega
  · refine ⟨?_, by rw [hp]; exact Int.mul_fmod_left _ _⟩
    rw [hp, Int.mul_assoc, Int.neg_mul]
    have h2 : 0 < G * G := by
      rcases Int.lt_or_gt_of_ne hG with g | g
      · exact Int.mul_pos_of_neg_of_neg g g
      · exact Int.mul_pos g g
    have := Int.mul_pos hk h2
    omega
structure BestI (h : Int → Int) (L : Nat) (G b : Int) (i : Nat) (o : Option Int) : Prop where
  no : ∀ j : Nat, j < i → h (b + j) ≠ 0
  of : ∀ n, o = some n → ∃ j : Nat, j < i ∧ cand h L G (b + j) = some n
  le : ∀ j : Nat, j < i → ∀ n, cand h L G (b + j) = some n → ∃ m, o = some m ∧ m ≤ n
theorem best_hit {i : Nat} {o : Option Int} (B : BestI h L G b i o) (e : h (b + i) = 0) : LeastAt (fun n => h n = 0) b (some (b + i)) := by
  refine ⟨by omega, e, fun m h1 h2 q => B.no (m - b).toNat (by omega) ?_⟩
  rw [Int.toNat_of_nonneg (by omega), show b + (m - b) = m by omega]; exact q
theorem best_end {o : Option Int} (hL : 0 < L) (per : ∀ n, h (n + L) = h n + G) (B : BestI h L G b L o) : LeastAt (fun n => h n = 0) b o := by
  have key : ∀ m, b ≤ m → h m = 0 → ∃ n, o = some n ∧ n ≤ m := fun m hm e => by
    obtain ⟨j, k, hj, rfl, hk⟩ := split_at hL b m
    have hk0 := hk hm
    have h0 := B.no j hj
    have hkp : 0 < k := by
      rcases Int.lt_or_eq_of_le hk0 with z | z
      · exact z
      · subst z; rw [Int.zero_mul, Int.add_zero] at e; exact absurd e h0
    exact B.le j hj _ (cand_complete hL per hkp h0 e)
  cases o with
  | none => exact fun m hm e => by obtain ⟨n, q, _⟩ := key m hm e; cases q
  | some n =>
    obtain ⟨j, hj, hc⟩ := B.of n rfl
    obtain ⟨c1, c2⟩ := cand_sound hL per hc
    refine ⟨by omega, c1, fun m hm hlt e => ?_⟩
    obtain ⟨n', q, hle⟩ := key m hm e
    cases q; omega
theorem best_start : BestI h L G b 0 none := ⟨fun j hj => absurd hj (by omega), fun n e => (nomatch e), fun j hj => absurd hj (by omega)⟩
theorem best_none {i : Nat} {o : Option Int} (B : BestI h L G b i o) (h0 : h (b + i) ≠ 0) (e : cand h L G (b + i) = none) : BestI h L G b (i + 1) o where
  no := fun j hj => by
    by_cases z : j = i
    · subst z; exact h0
    · exact B.no j (by omega)
  of := fun n q => by obtain ⟨j, hj, c⟩ := B.of n q; exact ⟨j, by omega, c⟩
  le := fun j hj n c => by
    by_cases z : j = i
    · subst z; rw [e] at c; cases c
    · exact B.le j (by omega) n c
theorem best_new {i : Nat} {o : Option Int} {n : Int} (B : BestI h L G b i o) (h0 : h (b + i) ≠ 0) (e : cand h L G (b + i) = some n) (lt : ∀ m, o = some m → n < m) : BestI h L G b (i + 1) (some n) where
  no := fun j hj => by
    by_cases z : j = i
    · subst z; exact h0
    · exact B.no j (by omega)
  of := fun n' q => by cases q; exact ⟨i, by omega, e⟩
  le := fun j hj n' c => by
    by_cases z : j = i
    · subst z; rw [e] at c; cases c; exact ⟨n, rfl, Int.le_refl _⟩
    · obtain ⟨m, q, hm⟩ := B.le j (by omega) n' c
      have := lt m q
      exact ⟨n, rfl, by omega⟩
theorem best_old {i : Nat} {n m : Int} (B : BestI h L G b i (some m)) (h0 : h (b + i) ≠ 0) (e : cand h L G (b + i) = some n) (le : m ≤ n) : BestI h L G b (i + 1) (some m) where
  no := fun j hj => by
    by_cases z : j = i
    · subst z; exact h0
    · exact B.no j (by omega)
  of := fun n q => by obtain ⟨j, hj, c⟩ := B.of n q; exact ⟨j, by omega, c⟩
  le := fun j hj n' c => by
    by_cases z : j = i
    · subst z; rw [e] at c; cases c; exact ⟨m, rfl, le⟩
    · exact B.le j (by omega) n' c
/-! the law's own lists -/
structure SameI (h : Int → Int) (L : Nat) (b : Int) (i : Nat) (xs : List Int) : Prop where
  of : ∀ x ∈ xs, b ≤ x ∧ h x = 0
  has : ∀ (j : Nat) (k : Int), j < i → 0 ≤ k → h (b + j + k * L) = 0 → ∃ x ∈ xs, x ≤ b + j + k * L
theorem same_start : SameI h L b 0 [] := ⟨fun x hx => (List.not_mem_nil hx).elim, fun j k hj => absurd hj (by omega)⟩
theorem same_nil (hL : 0 < L) (S : SameI h L b L []) : LeastAt (fun n => h n = 0) b none := fun m hm e => by
  obtain ⟨j, k, hj, rfl, hk⟩ := split_at hL b m
  obtain ⟨x, hx, _⟩ := S.has j k hj (hk hm) e
  cases hx
theorem same_min {xs : List Int} {m : Int} (hL : 0 < L) (S : SameI h L b L xs) (hm : m ∈ xs) (hle : ∀ y ∈ xs, m ≤ y) : LeastAt (fun n => h n = 0) b (some m) := by
  refine ⟨(S.of m hm).1, (S.of m hm).2, fun n hn hlt e => ?_⟩
  obtain ⟨j, k, hj, rfl, hk⟩ := split_at hL b n
  obtain ⟨x, hx, hxn⟩ := S.has j k hj (hk hn) e
  have := hle x hx
  omega
theorem same_zero {i : Nat} {xs : List Int} (S : SameI h L b i xs) (e : h (b + i) = 0) : SameI h L b (i + 1) (xs ++ [b + i]) where
  of := fun x hx => by
    rcases List.mem_append.mp hx with hx | hx
    · exact S.of x hx
    · simp only [List.mem_cons, List.not_mem_nil, or_false] at hx
      subst hx; exact ⟨by omega, e⟩
  has := fun j k hj hk q => by
    by_cases z : j = i
    · subst z
      have := Int.mul_nonneg hk (show (0 : Int) ≤ L by omega)
      exact ⟨b + j, by simp, by omega⟩
    · obtain ⟨x, hx, hx2⟩ := S.has j k (by omega) hk q
      exact ⟨x, List.mem_append_left _ hx, hx2⟩
theorem neg_div {g q : Int} (hG : G ≠ 0) (h1 : g.fmod G = 0) (e : (0 - g).fdiv G = q) : g + q * G = 0 := by
  have h2 := Int.mul_fdiv_add_fmod g G
  rw [h1, Int.add_zero] at h2
  have h3 : 0 - g = -(g.fdiv G) * G := by rw [Int.neg_mul, Int.mul_comm]; omega
  rw [h3, Int.mul_fdiv_cancel _ hG] at e
  subst e
  rw [Int.neg_mul, Int.mul_comm]; omega
theorem div_neg {g k : Int} (hG : G ≠ 0) (e : g + k * G = 0) : g.fmod G = 0 ∧ (0 - g).fdiv G = k := by
  have h1 : g = -k * G := by rw [Int.neg_mul]; omega
  have h2 : 0 - g = k * G := by omega
  exact ⟨by rw [h1]; exact Int.mul_fmod_left _ _, by rw [h2]; exact Int.mul_fdiv_cancel _ hG⟩
theorem same_later {i : Nat} {xs : List Int} {q : Int} (per : ∀ n, h (n + L) = h n + G) (S : SameI h L b i xs) (h0 : h (b + i) ≠ 0) (hG : G ≠ 0) (h1 : (h (b + i)).fmod G = 0) (e : (0 - h (b + i)).fdiv G = q) (hq : 0 < q) : SameI h L b (i + 1) (xs ++ [b + i + L * q]) where
  of := fun x hx => by
    rcases List.mem_append.mp hx with hx | hx
    · exact S.of x hx
    · simp only [List.mem_cons, List.not_mem_nil, or_false] at hx
      subst hx
      have := Int.mul_nonneg (show (0 : Int) ≤ L by omega) (show 0 ≤ q by omega)
      refine ⟨by omega, ?_⟩
      rw [Int.mul_comm, per_all per]
      exact neg_div hG h1 e
  has := fun j k hj hk z => by
    by_cases zj : j = i
    · subst zj
      rw [per_all per] at z
      obtain ⟨_, e2⟩ := div_neg hG z
      rw [e] at e2
      subst e2
      exact ⟨b + j + L * q, by simp, by rw [Int.mul_comm]; exact Int.le_refl _⟩
    · obtain ⟨x, hx, hx2⟩ := S.has j k (by omega) hk z
      exact ⟨x, List.mem_append_left _ hx, hx2⟩
theorem same_skip {i : Nat} {xs : List Int} (per : ∀ n, h (n + L) = h n + G) (S : SameI h L b i xs) (h0 : h (b + i) ≠ 0) (hn : ¬(G ≠ 0 ∧ (h (b + i)).fmod G = 0 ∧ 0 < (0 - h (b + i)).fdiv G)) : SameI h L b (i + 1) xs where
  of := S.of
  has := fun j k hj hk z => by
    by_cases zj : j = i
    · subst zj
      rw [per_all per] at z
      exfalso
      have hG : G ≠ 0 := fun e => by rw [e, Int.mul_zero, Int.add_zero] at z; exact h0 z
      obtain ⟨e1, e2⟩ := div_neg hG z
      refine hn ⟨hG, e1, ?_⟩
      rw [e2]
      rcases Int.lt_or_eq_of_le hk with y | y
      · exact y
      · subst y; rw [Int.zero_mul, Int.add_zero] at z; exact absurd z h0
    · exact S.has j k (by omega) hk z
structure UnI (h : Int → Int) (b : Int) (i : Nat) (xs : List Int) : Prop where
  of : ∀ x ∈ xs, b ≤ x ∧ x < b + i ∧ h x ≠ 0
  has : ∀ j : Nat, j < i → h (b + j) ≠ 0 → b + j ∈ xs
theorem un_start : UnI h b 0 [] := ⟨fun x hx => (List.not_mem_nil hx).elim, fun j hj => by omega⟩
theorem un_yes {i : Nat} {xs : List Int} (S : UnI h b i xs) (e : h (b + i) ≠ 0) : UnI h b (i + 1) (xs ++ [b + i]) where
  of := fun x hx => by
    rcases List.mem_append.mp hx with hx | hx
    · obtain ⟨a, c, d⟩ := S.of x hx; exact ⟨a, by omega, d⟩
    · simp only [List.mem_cons, List.not_mem_nil, or_false] at hx
      subst hx; exact ⟨by omega, by omega, e⟩
  has := fun j hj q => by
    by_cases z : j = i
    · subst z; simp
    · exact List.mem_append_left _ (S.has j (by omega) q)
theorem un_no {i : Nat} {xs : List Int} (S : UnI h b i xs) (e : h (b + i) = 0) : UnI h b (i + 1) xs where
  of := fun x hx => by obtain ⟨a, c, d⟩ := S.of x hx; exact ⟨a, by omega, d⟩
  has := fun j hj q => by
    by_cases z : j = i
    · subst z; exact absurd e q
    · exact S.has j (by omega) q
theorem all_zero (hL : 0 < L) (per : ∀ n, h (n + L) = h n + G) (z : ∀ j : Nat, j ≤ L → h (b + j) = 0) (n : Int) : h n = 0 := by
  have hG : G = 0 := by
    have h1 := per b
    have h2 := z 0 (by omega)
    have h3 := z L (Nat.le_refl _)
    rw [Int.natCast_zero, Int.add_zero] at h2
    omega
  obtain ⟨j, k, hj, rfl, _⟩ := split_at hL b n
  rw [per_all per, hG, Int.mul_zero, Int.add_zero]
  exact z j (by omega)
theorem un_nil {N : Nat} (hL : 0 < L) (per : ∀ n, h (n + L) = h n + G) (hN : L < N) (S : UnI h b N []) : LeastAt (fun n => h n ≠ 0) b none := fun m _ e => by
  refine e (all_zero (b := b) hL per (fun j hj => ?_) m)
  by_cases q : h (b + j) = 0
  · exact q
  · exact (List.not_mem_nil (S.has j (by omega) q)).elim
theorem un_min {N : Nat} {xs : List Int} {m : Int} (S : UnI h b N xs) (hm : m ∈ xs) (hle : ∀ y ∈ xs, m ≤ y) : LeastAt (fun n => h n ≠ 0) b (some m) := by
  obtain ⟨a, c, d⟩ := S.of m hm
  refine ⟨a, d, fun n hn hlt e => ?_⟩
  have h1 := S.has (n - b).toNat (by omega)
  rw [Int.toNat_of_nonneg (by omega), show b + (n - b) = n by omega] at h1
  have := hle n (h1 e)
  omega
theorem part_soon (hL : 0 < L) (per : ∀ n, h (n + L) = h n + G) (e : ∃ n, h n ≠ 0) (b : Int) : ∃ j : Nat, j ≤ L ∧ h (b + j) ≠ 0 := by
  obtain ⟨n, hn⟩ := e
  by_cases q : ∀ j : Nat, j ≤ L → h (b + j) = 0
  · exact absurd (all_zero hL per q n) hn
  · obtain ⟨j, hj⟩ := Classical.not_forall.mp q
    obtain ⟨h1, h2⟩ := Classical.not_imp.mp hj
    exact ⟨j, h1, h2⟩
end
end Ln
/-! bounds of sums and compositions, for longer lists -/
namespace Ln
theorem sum_bd2 {s1 : List Int} {r1 : Int} {s2 : List Int} {r2 : Int} {l1 l2 m : Nat} (o1 : Ok s1 r1) (o2 : Ok s2 r2) (b1 : Bd s1 r1 l1 m) (b2 : Bd s2 r2 l2 m) (hl : l1 * l2 < 2 ^ 13) :
    Bd (sumS s1 r1 s2 r2) (sumQ s1 r1 s2 r2) (l1 * l2) (m + 16) := by
  have hL : sumL s1 s2 ≤ l1 * l2 := Nat.le_trans (sumL_le o1.pos o2.pos) (Nat.mul_le_mul b1.len b2.len)
  have A : ∀ i : Nat, i ≤ sumL s1 s2 → (at_ s1 r1 i + at_ s2 r2 i).natAbs < 2 ^ (m + 15) := fun i hi => by
    have h1 := b1.at_ o1.pos (n := (i : Int)) (j := 13) (by omega)
    have h2 := b2.at_ o2.pos (n := (i : Int)) (j := 13) (by omega)
    have e : (2 : Nat) ^ (m + 15) = 2 ^ (m + 13 + 1) + 2 ^ (m + 13 + 1) := by rw [show m + 15 = m + 13 + 1 + 1 by omega, Nat.pow_succ 2 (m + 13 + 1)]; omega
    rw [e]
    generalize (2 : Nat) ^ (m + 13 + 1) = z at *
    omega
  have e16 : (2 : Nat) ^ (m + 16) = 2 ^ (m + 15) + 2 ^ (m + 15) := by rw [show m + 16 = m + 15 + 1 by omega, Nat.pow_succ]; omega
  refine ⟨by unfold sumS; rw [List.length_map, List.length_range]; exact hL, ?_, el_range fun i hi => ?_⟩
  · have h1 := A (sumL s1 s2) (Nat.le_refl _)
    have h2 := A 0 (Nat.zero_le _)
    rw [show ((0 : Nat) : Int) = 0 from rfl] at h2
    unfold sumQ
    omega
  · have := A i (Nat.le_of_lt hi)
    omega
theorem aft_bd2 {s1 : List Int} {r1 : Int} {s2 : List Int} {r2 : Int} {l1 l2 m1 m2 : Nat} (o1 : Ok s1 r1) (o2 : Ok s2 r2) (b1 : Bd s1 r1 l1 m1) (b2 : Bd s2 r2 l2 m2) (hl : l1 * l2 < 2 ^ 13) :
    Bd (aftS s1 r1 s2 r2) (aftQ s1 r1 s2 r2) (l1 * l2) (m1 + m2 + 16) := by
  have hL : aftL s1 s2 r2 ≤ l1 * l2 := Nat.le_trans aftL_le (Nat.mul_le_mul b1.len b2.len)
  have A : ∀ i : Nat, i ≤ aftL s1 s2 r2 → (at_ s1 r1 (at_ s2 r2 i)).natAbs < 2 ^ (m1 + m2 + 15) := fun i hi => by
    have h2 := b2.at_ o2.pos (n := (i : Int)) (j := 13) (by omega)
    have h1 := b1.at_ o1.pos h2
    rw [show m1 + (m2 + 13 + 1) + 1 = m1 + m2 + 15 by omega] at h1
    exact h1
  have e16 : (2 : Nat) ^ (m1 + m2 + 16) = 2 ^ (m1 + m2 + 15) + 2 ^ (m1 + m2 + 15) := by rw [show m1 + m2 + 16 = m1 + m2 + 15 + 1 by omega, Nat.pow_succ]; omega
  refine ⟨by unfold aftS; rw [List.length_map, List.length_range]; exact hL, ?_, el_range fun i hi => ?_⟩
  · have h1 := A (aftL s1 s2 r2) (Nat.le_refl _)
    have h2 := A 0 (Nat.zero_le _)
    rw [show ((0 : Nat) : Int) = 0 from rfl] at h2
    unfold aftQ
    omega
  · have := A i (Nat.le_of_lt hi)
    omega
end Ln
/-! forms of sizes: counting residues -/
namespace Nf
/-- how many of b, b + 1, .. (n of them) G has -/
def cnt (G : Int → Bool) (b : Int) : Nat → Nat
  | 0 => 0
  | n + 1 => cnt G b n + (if G (b + n) = true then 1 else 0)
theorem cnt_add (G : Int → Bool) (b : Int) (m : Nat) : ∀ n : Nat, cnt G b (m + n) = cnt G b m + cnt G (b + m) n
  | 0 => rfl
  | n + 1 => by
    show cnt G b (m + n) + (if G (b + ((m + n : Nat) : Int)) = true then 1 else 0) = cnt G b m + (cnt G (b + m) n + _)
    rw [cnt_add G b m n, show b + ((m + n : Nat) : Int) = b + m + n by omega]
    omega
theorem cnt_congr {F G : Int → Bool} {b : Int} : ∀ {n : Nat}, (∀ i : Nat, i < n → F (b + i) = G (b + i)) → cnt F b n = cnt G b n
  | 0, _ => rfl
  | n + 1, h => by
    show cnt F b n + _ = cnt G b n + _
    rw [cnt_congr fun i hi => h i (by omega), h n (by omega)]
theorem cnt_le {F G : Int → Bool} {b : Int} : ∀ {n : Nat}, (∀ i : Nat, i < n → G (b + i) = true → F (b + i) = true) → cnt G b n ≤ cnt F b n
  | 0, _ => Nat.le_refl _
  | n + 1, h => by
    have ih := cnt_le (n := n) fun i hi => h i (by omega)
    have h1 := h n (by omega)
    show cnt G b n + _ ≤ cnt F b n + _
    by_cases e : G (b + n) = true
    · rw [if_pos e, if_pos (h1 e)]; omega
    · rw [if_neg e]; split <;> omega
theorem cnt_eq {F G : Int → Bool} {b : Int} : ∀ {n : Nat}, (∀ i : Nat, i < n → G (b + i) = true → F (b + i) = true) → cnt G b n = cnt F b n → ∀ i : Nat, i < n → G (b + i) = F (b + i)
  | 0, _, _, i, hi => absurd hi (by omega)
  | n + 1, h, e, i, hi => by
    have le := cnt_le (n := n) fun i hi => h i (by omega)
    have h1 := h n (by omega)
    have e : cnt G b n + (if G (b + n) = true then 1 else 0) = cnt F b n + (if F (b + n) = true then 1 else 0) := e
    by_cases hG : G (b + n) = true
    · rw [if_pos hG, if_pos (h1 hG)] at e
      by_cases hin : i = n
      · subst hin; rw [hG, h1 hG]
      · exact cnt_eq (n := n) (fun i hi => h i (by omega)) (by omega) i (by omega)
    · rw [if_neg hG] at e
      by_cases hF : F (b + n) = true
      · rw [if_pos hF] at e; omega
      · rw [if_neg hF] at e
        by_cases hin : i = n
        · subst hin
          rw [Bool.not_eq_true] at hG hF
          rw [hG, hF]
        · exact cnt_eq (n := n) (fun i hi => h i (by omega)) (by omega) i (by omega)
theorem cnt_one (G : Int → Bool) (b : Int) : cnt G b 1 = if G b = true then 1 else 0 := by
  show 0 + _ = _
  rw [show b + ((0 : Nat) : Int) = b by omega, Nat.zero_add]
theorem cnt_succ (G : Int → Bool) (b : Int) (p : Nat) (h : G (b + p) = G b) : cnt G (b + 1) p = cnt G b p := by
  have h1 := cnt_add G b p 1
  have h2 := cnt_add G b 1 p
  rw [cnt_one, h] at h1
  rw [cnt_one, Nat.add_comm 1 p, show b + ((1 : Nat) : Int) = b + 1 by omega] at h2
  omega
theorem cnt_up (G : Int → Bool) (p : Nat) (h : ∀ n, G (n + p) = G n) (b : Int) : ∀ k : Nat, cnt G (b + k) p = cnt G b p
  | 0 => by rw [show b + ((0 : Nat) : Int) = b by omega]
  | k + 1 => by
    rw [show b + ((k + 1 : Nat) : Int) = b + k + 1 by omega, cnt_succ G (b + k) p (h _), cnt_up G p h b k]
theorem cnt_any (G : Int → Bool) (p : Nat) (h : ∀ n, G (n + p) = G n) (b c : Int) : cnt G b p = cnt G c p := by
  rcases Int.le_total b c with q | q
  · have := cnt_up G p h b (c - b).toNat
    rw [show b + ((c - b).toNat : Int) = c by omega] at this
    exact this.symm
  · have := cnt_up G p h c (b - c).toNat
    rw [show c + ((b - c).toNat : Int) = b by omega] at this
    exact this
theorem cnt_mul (G : Int → Bool) (p : Nat) (h : ∀ n, G (n + p) = G n) (b : Int) : ∀ k : Nat, cnt G b (k * p) = k * cnt G b p
  | 0 => by rw [Nat.zero_mul, Nat.zero_mul]; rfl
  | k + 1 => by
    rw [Nat.succ_mul, cnt_add, cnt_mul G p h b k, cnt_any G p h (b + (k * p : Nat)) b, Nat.succ_mul]
/-- the ascending list of those -/
def lst (G : Int → Bool) (b : Int) : Nat → List Int
  | 0 => []
  | n + 1 => lst G b n ++ (if G (b + n) = true then [b + n] else [])
theorem lst_len (G : Int → Bool) (b : Int) : ∀ n, (lst G b n).length = cnt G b n
  | 0 => rfl
  | n + 1 => by
    show (lst G b n ++ _).length = cnt G b n + _
    rw [List.length_append, lst_len G b n]
    split <;> rfl
theorem lst_mem {G : Int → Bool} {b : Int} : ∀ {n : Nat} {x : Int}, x ∈ lst G b n ↔ b ≤ x ∧ x < b + n ∧ G x = true
  | 0, x => by
    constructor
    · intro h; cases h
    · intro h; omega
  | n + 1, x => by
    show x ∈ lst G b n ++ _ ↔ _
    rw [List.mem_append, lst_mem]
    constructor
    · rintro (⟨h1, h2, h3⟩ | h)
      · exact ⟨h1, by omega, h3⟩
      · split at h
        · rename_i e
          rw [List.mem_singleton] at h
          subst h
          exact ⟨by omega, by omega, e⟩
        · cases h
    · rintro ⟨h1, h2, h3⟩
      by_cases e : x = b + n
      · subst e
        right
        rw [if_pos h3]
        exact List.mem_singleton.mpr rfl
      · exact .inl ⟨h1, by omega, h3⟩
theorem lst_up (G : Int → Bool) (b : Int) : ∀ n, (lst G b n).Pairwise (· < ·)
  | 0 => List.Pairwise.nil
  | n + 1 => by
    show (lst G b n ++ _).Pairwise _
    rw [List.pairwise_append]
    refine ⟨lst_up G b n, ?_, fun x hx y hy => ?_⟩
    · split
      · exact List.pairwise_singleton _ _
      · exact List.Pairwise.nil
    · have := (lst_mem.mp hx).2.1
      split at hy
      · rw [List.mem_singleton.mp hy]; exact this
      · cases hy
/-- two ascending lists with the same members -/
theorem up_uniq : ∀ {xs ys : List Int}, xs.Pairwise (· < ·) → ys.Pairwise (· < ·) → (∀ x, x ∈ xs ↔ x ∈ ys) → xs = ys
  | [], [], _, _, _ => rfl
  | [], y :: ys, _, _, h => by have := (h y).mpr List.mem_cons_self; cases this
  | x :: xs, [], _, _, h => by have := (h x).mp List.mem_cons_self; cases this
  | x :: xs, y :: ys, h1, h2, h => by
    obtain ⟨a1, a2⟩ := List.pairwise_cons.mp h1
    obtain ⟨b1, b2⟩ := List.pairwise_cons.mp h2
    have e : x = y := by
      rcases List.mem_cons.mp ((h x).mp List.mem_cons_self) with q | q
      · exact q
      · rcases List.mem_cons.mp ((h y).mpr List.mem_cons_self) with r | r
        · exact r.symm
        · have := a1 y r
          have := b1 x q
          omega
    subst e
    have : xs = ys := up_uniq a2 b2 fun z => by
      constructor
      · intro hz
        rcases List.mem_cons.mp ((h z).mp (List.mem_cons_of_mem _ hz)) with q | q
        · subst q; have := a1 _ hz; omega
        · exact q
      · intro hz
        rcases List.mem_cons.mp ((h z).mpr (List.mem_cons_of_mem _ hz)) with q | q
        · subst q; have := b1 _ hz; omega
        · exact q
    rw [this]
/-- the residues of numbers -/
structure Res (xs : List Int) (p : Nat) (out : List Int) : Prop where
  up : out.Pairwise (· < ·)
  mem : ∀ y, y ∈ out ↔ ∃ x, x ∈ xs ∧ x % (p : Int) = y
theorem Res.uniq {xs : List Int} {p : Nat} {o o' : List Int} (h : Res xs p o) (h' : Res xs p o') : o = o' := up_uniq h.up h'.up fun y => (h.mem y).trans (h'.mem y).symm
theorem Res.range {xs : List Int} {p : Nat} {o : List Int} (h : Res xs p o) (hp : 0 < p) {y : Int} (hy : y ∈ o) : 0 ≤ y ∧ y < p := by
  obtain ⟨x, _, rfl⟩ := (h.mem y).mp hy
  exact ⟨Int.emod_nonneg _ (by omega), Int.emod_lt_of_pos _ (by omega)⟩
/-- how many have a residue of these, in one round -/
theorem cnt_res {p : Nat} {o : List Int} (hu : o.Pairwise (· < ·)) (hr : ∀ y ∈ o, 0 ≤ y ∧ y < (p : Int)) : cnt (fun n => decide (n % (p : Int) ∈ o)) 0 p = o.length := by
  rw [← lst_len]
  have e : lst (fun n => decide (n % (p : Int) ∈ o)) 0 p = o := by
    refine up_uniq (lst_up _ _ _) hu fun y => ?_
    rw [lst_mem]
    constructor
    · rintro ⟨h1, h2, h3⟩
      have h3 := of_decide_eq_true h3
      rwa [Int.emod_eq_of_lt h1 (by omega)] at h3
    · intro hy
      have := hr y hy
      refine ⟨this.1, by omega, decide_eq_true ?_⟩
      rw [Int.emod_eq_of_lt this.1 this.2]; exact hy
  rw [e]
section
variable {G : Int → Bool} {b : Int} {L : Nat}
/-- G goes on by rounds of q from b on -/
def Per (G : Int → Bool) (b : Int) (q : Nat) : Prop := ∀ n, b ≤ n → G (n + q) = G n
theorem Per.mul {q : Nat} (h : Per G b q) : ∀ (k : Nat) (n : Int), b ≤ n → G (n + k * q) = G n
  | 0, n, hn => by rw [show n + ((0 : Nat) : Int) * q = n by simp]
  | k + 1, n, hn => by
    have e : n + ((k + 1 : Nat) : Int) * q = n + k * q + q := by rw [Int.natCast_add, Int.natCast_one, Int.add_mul, Int.one_mul, Int.add_assoc]
    have : 0 ≤ (k : Int) * q := Int.mul_nonneg (by omega) (by omega)
    rw [e, h _ (by omega), Per.mul h k n hn]
theorem Per.same {q : Nat} (h : Per G b q) (hq : 0 < q) {m n : Int} (hm : b ≤ m) (hn : b ≤ n) (e : m % (q : Int) = n % (q : Int)) : G m = G n := by
  have key : ∀ {u v : Int}, b ≤ u → u ≤ v → u % (q : Int) = v % (q : Int) → G v = G u := fun {u v} hu huv e => by
    have h1 := Int.mul_ediv_add_emod u q
    have h2 := Int.mul_ediv_add_emod v q
    have h3 : u / (q : Int) ≤ v / (q : Int) := Int.ediv_le_ediv (by omega) huv
    have := h.mul (v / (q : Int) - u / (q : Int)).toNat u hu
    rw [show u + ((v / (q : Int) - u / (q : Int)).toNat : Int) * q = v by
      rw [Int.toNat_of_nonneg (by omega), Int.sub_mul, Int.mul_comm (v / (q : Int)), Int.mul_comm (u / (q : Int))]; omega] at this
    exact this
  rcases Int.le_total m n with z | z
  · exact (key hm z e).symm
  · exact key hn z e.symm
theorem Per.gcd {q r : Nat} (h : Per G b q) (h' : Per G b r) : Per G b (Nat.gcd q r) := by
  induction q, r using Nat.gcd.induction with
  | H0 n => rw [Nat.gcd_zero_left]; exact h'
  | H1 m n hm ih =>
    rw [Nat.gcd_rec]
    refine ih (fun x hx => ?_) h
    have e1 := h.mul (n / m) (x + (n % m : Nat)) (by omega)
    have e2 : x + ((n % m : Nat) : Int) + ((n / m : Nat) : Int) * m = x + n := by
      have := Nat.div_add_mod n m
      rw [Nat.mul_comm] at this
      have e3 : (((n / m) * m + n % m : Nat) : Int) = (n : Int) := congrArg Int.ofNat this
      rw [Int.natCast_add, Int.natCast_mul] at e3
      omega
    rw [e2] at e1
    rw [← e1, h' x hx]
/-- all with a residue of the found ones -/
theorem Per.full {q : Nat} (h : Per G b q) (hq : 0 < q) (hd : q ∣ L) (hL : 0 < L) {o : List Int} (ho : Res (lst G b L) q o) : ∀ n, b ≤ n → (G n = decide (n % (q : Int) ∈ o)) := fun n hn => by
  rw [Bool.eq_iff_iff, decide_eq_true_iff, ho.mem]
  constructor
  · intro hG
    -- the one in the first round
    have h1 := Int.emod_nonneg (n - b) (show (q : Int) ≠ 0 by omega)
    have h2 := Int.emod_lt_of_pos (n - b) (show 0 < (q : Int) by omega)
    have hle := Nat.le_of_dvd hL hd
    have e : (b + (n - b) % (q : Int)) % (q : Int) = n % (q : Int) := by
      rw [Int.add_emod_emod]; congr 1; omega
    refine ⟨b + (n - b) % q, lst_mem.mpr ⟨by omega, by omega, ?_⟩, e⟩
    rw [h.same hq (by omega) hn e]
    exact hG
  · rintro ⟨x, hx, e⟩
    have := lst_mem.mp hx
    rw [h.same hq hn this.1 e.symm]
    exact this.2.2
theorem Per.count {q : Nat} (h : Per G b q) (hq : 0 < q) (hd : q ∣ L) (hL : 0 < L) {o : List Int} (ho : Res (lst G b L) q o) : o.length * (L / q) = (lst G b L).length := by
  have hF : ∀ n : Int, decide ((n + (q : Int)) % (q : Int) ∈ o) = decide (n % (q : Int) ∈ o) := fun n => by rw [Int.add_emod_right]
  have c1 := cnt_res ho.up fun y hy => ho.range hq hy
  have c2 := cnt_mul (fun n => decide (n % (q : Int) ∈ o)) q hF b (L / q)
  rw [cnt_any _ q hF b 0, c1, Nat.div_mul_cancel hd] at c2
  rw [lst_len, cnt_congr (F := G) (G := fun n => decide (n % (q : Int) ∈ o)) fun i hi => h.full hq hd hL ho (b + i) (by omega), c2, Nat.mul_comm]
theorem per_of_count {q : Nat} (hL : Per G b L) (hq : 0 < q) (hd : q ∣ L) (hL0 : 0 < L) {o : List Int} (ho : Res (lst G b L) q o) (hc : o.length * (L / q) = (lst G b L).length) : ∀ n, b ≤ n → (G n = decide (n % (q : Int) ∈ o)) := by
  have hF : ∀ n : Int, decide ((n + (q : Int)) % (q : Int) ∈ o) = decide (n % (q : Int) ∈ o) := fun n => by rw [Int.add_emod_right]
  have c1 := cnt_res ho.up fun y hy => ho.range hq hy
  have c2 := cnt_mul (fun n => decide (n % (q : Int) ∈ o)) q hF b (L / q)
  rw [cnt_any _ q hF b 0, c1, Nat.div_mul_cancel hd] at c2
  rw [lst_len, Nat.mul_comm] at hc
  have key := cnt_eq (F := fun n => decide (n % (q : Int) ∈ o)) (G := G) (b := b) (n := L) (fun i hi hG => decide_eq_true ((ho.mem _).mpr ⟨b + i, lst_mem.mpr ⟨by omega, by omega, hG⟩, rfl⟩)) (by omega)
  intro n hn
  have h1 := Int.emod_nonneg (n - b) (show (L : Int) ≠ 0 by omega)
  have h2 := Int.emod_lt_of_pos (n - b) (show 0 < (L : Int) by omega)
  have e : (b + (n - b) % (L : Int)) % (L : Int) = n % (L : Int) := by
    rw [Int.add_emod_emod]; congr 1; omega
  have k := key ((n - b) % (L : Int)).toNat (by omega)
  rw [show b + (((n - b) % (L : Int)).toNat : Int) = b + (n - b) % (L : Int) by omega, hL.same hL0 (by omega) hn e] at k
  rw [k]
  have e2 : (b + (n - b) % (L : Int)) % (q : Int) = n % (q : Int) := by
    have hdi : (q : Int) ∣ (L : Int) := Int.natCast_dvd_natCast.mpr hd
    rw [← Int.emod_emod_of_dvd (b + (n - b) % (L : Int)) hdi, e, Int.emod_emod_of_dvd n hdi]
  show decide _ = decide _
  rw [e2]
/-- numbers that go on, as they are told: the least one, the least period, the residues -/
structure Cls (p : Int → Prop) (l : Int) (q : Nat) (o : List Int) : Prop where
  at_ : p l
  least : ∀ n, p n → l ≤ n
  pos : 0 < q
  up : o.Pairwise (· < ·)
  range : ∀ y ∈ o, 0 ≤ y ∧ y < (q : Int)
  mem : ∀ n, l ≤ n → (p n ↔ n % (q : Int) ∈ o)
  min : ∀ r : Nat, 0 < r → (∀ n, l ≤ n → (p (n + r) ↔ p n)) → q ≤ r
theorem Cls.uniq {p : Int → Prop} {l l' : Int} {q q' : Nat} {o o' : List Int} (h : Cls p l q o) (h' : Cls p l' q' o') : l = l' ∧ q = q' ∧ o = o' := by
  have e1 : l = l' := by
    have := h.least _ h'.at_
    have := h'.least _ h.at_
    omega
  subst e1
  have per : ∀ {q : Nat} {o : List Int}, Cls p l q o → ∀ n, l ≤ n → (p (n + q) ↔ p n) := fun {q o} c n hn => by
    rw [c.mem _ (by omega), c.mem n hn, Int.add_emod_right]
  have e2 : q = q' := by
    have := h.min q' h'.pos (per h')
    have := h'.min q h.pos (per h)
    omega
  subst e2
  refine ⟨rfl, rfl, up_uniq h.up h'.up fun y => ?_⟩
  have go : ∀ {o o' : List Int}, Cls p l q o → Cls p l q o' → y ∈ o → y ∈ o' := fun {o o'} c c' hy => by
    have hr := c.range y hy
    have hp := c.pos
    have h1 := Int.emod_nonneg (y - l) (show (q : Int) ≠ 0 by omega)
    have e : (l + (y - l) % (q : Int)) % (q : Int) = y := by
      rw [Int.add_emod_emod, show l + (y - l) = y by omega, Int.emod_eq_of_lt hr.1 hr.2]
    have := (c.mem (l + (y - l) % (q : Int)) (by omega)).mpr (by rw [e]; exact hy)
    have := (c'.mem (l + (y - l) % (q : Int)) (by omega)).mp this
    rwa [e] at this
  exact ⟨go h h', go h' h⟩
theorem Cls.not_list {p : Int → Prop} {l : Int} {q : Nat} {o xs : List Int} (h : Cls p l q o) (hx : ∀ n, n ∈ xs ↔ p n) : False := by
  -- a number of the list behind all others
  have per : ∀ k : Nat, p (l + k * q) := fun k => by
    have : 0 ≤ (k : Int) * q := Int.mul_nonneg (by omega) (by omega)
    rw [h.mem _ (by omega), Int.add_mul_emod_self_right]
    exact (h.mem l (by omega)).mp h.at_
  have big : ∀ xs : List Int, ∃ M : Nat, ∀ x ∈ xs, x < M := fun xs => by
    induction xs with
    | nil => exact ⟨0, fun x hx => by cases hx⟩
    | cons y ys ih =>
      obtain ⟨M, hM⟩ := ih
      refine ⟨M + y.natAbs + 1, fun x hx => ?_⟩
      rcases List.mem_cons.mp hx with e | e
      · subst e; omega
      · have := hM x e; omega
  obtain ⟨M, hM⟩ := big xs
  have h1 := hM _ ((hx _).mpr (per (M + l.natAbs)))
  have h2 : ((M + l.natAbs : Nat) : Int) * 1 ≤ ((M + l.natAbs : Nat) : Int) * q := Int.mul_le_mul_of_nonneg_left (by have := h.pos; omega) (by omega)
  omega
/-- from one round: the least period whose residues are all there -/
theorem cls_of {p : Int → Prop} (hp : ∀ n, p n ↔ b ≤ n ∧ G n = true) (hL : Per G b L) (hL0 : 0 < L) {l : Int} {xs : List Int} (hl : lst G b L = l :: xs) {q : Nat} (hq : 0 < q) (hd : q ∣ L) {o : List Int} (ho : Res (lst G b L) q o) (hc : o.length * (L / q) = (lst G b L).length)
    (hmin : ∀ r : Nat, 0 < r → r < q → r ∣ L → ∀ o', Res (lst G b L) r o' → o'.length * (L / r) ≠ (lst G b L).length) (hres : ∀ r : Nat, ∃ o', Res (lst G b L) r o') : Cls p l q o := by
  have ml := lst_mem.mp (show l ∈ lst G b L by rw [hl]; exact List.mem_cons_self)
  have full := per_of_count hL hq hd hL0 ho hc
  refine ⟨(hp l).mpr ⟨ml.1, ml.2.2⟩, fun n hn => ?_, hq, ho.up, fun y hy => ho.range hq hy, fun n hn => ?_, fun r hr hper => ?_⟩
  · obtain ⟨h1, h2⟩ := (hp n).mp hn
    rcases Int.lt_or_le n (b + L) with z | z
    · have hm : n ∈ l :: xs := by rw [← hl]; exact lst_mem.mpr ⟨h1, z, h2⟩
      rcases List.mem_cons.mp hm with e | e
      · omega
      · have hu := lst_up G b L
        rw [hl] at hu
        have := (List.pairwise_cons.mp hu).1 n e
        omega
    · omega
  · rw [hp, full n (by omega), decide_eq_true_iff]
    exact ⟨fun z => z.2, fun z => ⟨by omega, z⟩⟩
  · have pr : Per G b r := fun n hn => by
      have h1 := hL.mul (l - b).toNat n hn
      have h2 := hL.mul (l - b).toNat (n + r) (by omega)
      have h3 : (l - b) * 1 ≤ (l - b) * L := Int.mul_le_mul_of_nonneg_left (by omega) (by omega)
      rw [Int.toNat_of_nonneg (by omega)] at h1 h2
      generalize (l - b) * (L : Int) = z at h1 h2 h3
      have h4 := hper (n + z) (by omega)
      rw [hp, hp] at h4
      rw [← h1, ← h2, Bool.eq_iff_iff, show n + (r : Int) + z = n + z + r by omega]
      exact ⟨fun y => (h4.mp ⟨by omega, y⟩).2, fun y => (h4.mpr ⟨by omega, y⟩).2⟩
    have pg := Per.gcd pr hL
    have g0 : 0 < Nat.gcd r L := Nat.gcd_pos_of_pos_right _ hL0
    have gd : Nat.gcd r L ∣ L := Nat.gcd_dvd_right _ _
    have gle : Nat.gcd r L ≤ r := Nat.gcd_le_left _ hr
    rcases Nat.lt_or_ge (Nat.gcd r L) q with z | z
    · obtain ⟨o', ho'⟩ := hres (Nat.gcd r L)
      exact absurd (pg.count g0 gd hL0 ho') (hmin _ g0 z gd o' ho')
    · omega
end
/-- there always are residues -/
theorem ins_up (v : Int) : ∀ o : List Int, o.Pairwise (· < ·) → ∃ o' : List Int, o'.Pairwise (· < ·) ∧ ∀ y, y ∈ o' ↔ y = v ∨ y ∈ o
  | [], _ => ⟨[v], List.pairwise_singleton _ _, fun y => by simp⟩
  | a :: o, h => by
    obtain ⟨a1, a2⟩ := List.pairwise_cons.mp h
    rcases Int.lt_trichotomy v a with z | z | z
    · refine ⟨v :: a :: o, List.pairwise_cons.mpr ⟨fun y hy => ?_, h⟩, fun y => List.mem_cons⟩
      rcases List.mem_cons.mp hy with e | e
      · omega
      · have := a1 y e; omega
    · subst z
      exact ⟨v :: o, h, fun y => by simp⟩
    · obtain ⟨o', p1, p2⟩ := ins_up v o a2
      refine ⟨a :: o', List.pairwise_cons.mpr ⟨fun y hy => ?_, p1⟩, fun y => ?_⟩
      · rcases (p2 y).mp hy with e | e
        · omega
        · exact a1 y e
      · rw [List.mem_cons, p2, List.mem_cons]
        constructor
        · rintro (e | e | e)
          · exact .inr (.inl e)
          · exact .inl e
          · exact .inr (.inr e)
        · rintro (e | e | e)
          · exact .inr (.inl e)
          · exact .inl e
          · exact .inr (.inr e)
theorem res_ex (xs : List Int) (r : Nat) : ∃ o, Res xs r o := by
  induction xs with
  | nil => exact ⟨[], List.Pairwise.nil, fun y => ⟨fun h => (by cases h), fun ⟨x, h, _⟩ => (by cases h)⟩⟩
  | cons x xs ih =>
    obtain ⟨o, h1, h2⟩ := ih
    obtain ⟨o', p1, p2⟩ := ins_up (x % (r : Int)) o h1
    refine ⟨o', p1, fun y => ?_⟩
    rw [p2, h2]
    constructor
    · rintro (e | ⟨z, hz, e⟩)
      · exact ⟨x, List.mem_cons_self, e.symm⟩
      · exact ⟨z, List.mem_cons_of_mem _ hz, e⟩
    · rintro ⟨z, hz, e⟩
      rcases List.mem_cons.mp hz with q | q
      · subst q; exact .inl e.symm
      · exact .inr ⟨z, q, e⟩
end Nf
/-! counting sizes -/
namespace Nf
theorem cnt_mono (G : Int → Bool) (b : Int) {m n : Nat} (h : m ≤ n) : cnt G b m ≤ cnt G b n := by
  have := cnt_add G b m (n - m)
  rw [show m + (n - m) = n by omega] at this
  omega
theorem cnt_congr2 {F G : Int → Bool} {b c : Int} : ∀ {n : Nat}, (∀ i : Nat, i < n → F (b + i) = G (c + i)) → cnt F b n = cnt G c n
  | 0, _ => rfl
  | n + 1, h => by
    show cnt F b n + _ = cnt G c n + _
    rw [cnt_congr2 fun i hi => h i (by omega), h n (by omega)]
theorem cnt_none {G : Int → Bool} {b : Int} : ∀ {n : Nat}, (∀ i : Nat, i < n → G (b + i) = false) → cnt G b n = 0
  | 0, _ => rfl
  | n + 1, h => by
    show cnt G b n + _ = 0
    rw [cnt_none fun i hi => h i (by omega), h n (by omega)]; rfl
theorem none_cnt {G : Int → Bool} {b : Int} : ∀ {n : Nat}, cnt G b n = 0 → ∀ i : Nat, i < n → G (b + i) = false
  | 0, _, i, hi => absurd hi (by omega)
  | n + 1, h, i, hi => by
    have h : cnt G b n + (if G (b + n) = true then 1 else 0) = 0 := h
    by_cases e : i = n
    · subst e
      cases q : G (b + i) with
      | false => rfl
      | true => rw [q] at h; simp at h
    · exact none_cnt (n := n) (by omega) i (by omega)
/-- so many of an ascending list lie below a bound -/
theorem filter_le {xs : List Int} (hu : xs.Pairwise (· < ·)) (h0 : ∀ x ∈ xs, 0 ≤ x) {G : Int → Bool} (hG : ∀ n, G n = true ↔ n ∈ xs) (m : Nat) : (xs.filter fun x => decide (x < (m : Int))).length = cnt G 0 m := by
  rw [← lst_len]
  congr 1
  refine up_uniq (hu.filter _) (lst_up _ _ _) fun x => ?_
  rw [List.mem_filter, lst_mem, decide_eq_true_iff, hG]
  constructor
  · rintro ⟨h1, h2⟩
    exact ⟨h0 x h1, by omega, h1⟩
  · rintro ⟨h1, h2, h3⟩
    exact ⟨h3, by omega⟩
/-- the one with a number has so many below -/
theorem nth_below {xs : List Int} (hu : xs.Pairwise (· < ·)) (h0 : ∀ x ∈ xs, 0 ≤ x) {G : Int → Bool} (hG : ∀ n, G n = true ↔ n ∈ xs) {j : Nat} {x : Int} (hj : xs[j]? = some x) : cnt G 0 x.toNat = j := by
  have hjl := (List.getElem?_eq_some_iff.mp hj).1
  have hx0 := h0 x (List.mem_of_getElem? hj)
  rw [← filter_le hu h0 hG]
  have e : (xs.filter fun y => decide (y < (x.toNat : Int))) = xs.take j := by
    have hs : xs.take j ++ xs.drop j = xs := List.take_append_drop j xs
    have hd : xs.drop j = x :: xs.drop (j + 1) := by
      rw [List.drop_eq_getElem_cons hjl]
      rw [List.getElem?_eq_getElem hjl] at hj
      cases hj; rfl
    rw [hd] at hs
    have hu2 := hu
    rw [← hs, List.pairwise_append] at hu2
    obtain ⟨_, u2, u3⟩ := hu2
    obtain ⟨u4, _⟩ := List.pairwise_cons.mp u2
    rw [← hs, List.filter_append]
    have a : (xs.take j).filter (fun y => decide (y < (x.toNat : Int))) = xs.take j := List.filter_eq_self.mpr fun y hy => by
      have := u3 y hy x List.mem_cons_self
      exact decide_eq_true (by omega)
    have b : (x :: xs.drop (j + 1)).filter (fun y => decide (y < (x.toNat : Int))) = [] := List.filter_eq_nil_iff.mpr fun y hy => by
      rw [decide_eq_true_iff]
      rcases List.mem_cons.mp hy with e | e
      · subst e; omega
      · have := u4 y e
        omega
    rw [a, b, List.append_nil, hs]
  rw [e, List.length_take]; omega
/-- numbers that have one of these residues -/
def rG (q : Nat) (o : List Int) (n : Int) : Bool := decide (n % (q : Int) ∈ o)
section
variable {q : Nat} {o : List Int}
theorem rG_per (n : Int) : rG q o (n + (q : Int)) = rG q o n := by unfold rG; rw [Int.add_emod_right]
theorem rG_small {r : Int} (hr : ∀ y ∈ o, 0 ≤ y ∧ y < (q : Int)) {n : Nat} (hn : n ≤ q) {i : Nat} (hi : i < n) : rG q o ((0 : Int) + i) = decide ((i : Int) ∈ o) := by
  unfold rG
  rw [Int.zero_add, Int.emod_eq_of_lt (by omega) (by omega)]
/-- so many from 0 on below m -/
theorem rG_cnt (hq : 0 < q) (hu : o.Pairwise (· < ·)) (hr : ∀ y ∈ o, 0 ≤ y ∧ y < (q : Int)) (m : Nat) : cnt (rG q o) 0 m = m / q * o.length + (o.filter fun x => decide (x < ((m % q : Nat) : Int))).length := by
  have e := Nat.div_add_mod m q
  have c1 : cnt (rG q o) 0 q = o.length := cnt_res hu hr
  have c2 := cnt_mul (rG q o) q rG_per 0 (m / q)
  have c3 := cnt_add (rG q o) 0 (m / q * q) (m % q)
  rw [show m / q * q + m % q = m by rw [Nat.mul_comm]; exact e, c2, c1] at c3
  rw [c3]
  congr 1
  -- one more part of a round
  have hm : m % q < q := Nat.mod_lt _ hq
  rw [filter_le hu (fun x hx => (hr x hx).1) (G := fun n => decide (n ∈ o)) (fun n => decide_eq_true_iff)]
  refine cnt_congr2 fun i hi => ?_
  have e1 : ((0 : Int) + ((m / q * q : Nat) : Int) + i) % (q : Int) = i := by
    rw [Int.zero_add, Int.natCast_mul, Int.add_comm, Int.add_mul_emod_self_right, Int.emod_eq_of_lt (by omega) (by omega)]
  show decide (_ ∈ o) = decide (_ ∈ o)
  rw [e1, Int.zero_add]
end
/-- as the program counts them -/
theorem rG_cnt1 {q : Nat} {o : List Int} (hq : 0 < q) (hu : o.Pairwise (· < ·)) (hr : ∀ y ∈ o, 0 ≤ y ∧ y < (q : Int)) (m : Nat) : cnt (rG q o) 0 (m + 1) = m / q * o.length + (o.filter fun x => decide (x ≤ (m : Int) % (q : Int))).length := by
  have e : (fun x : Int => decide (x ≤ (m : Int) % (q : Int))) = fun x => decide (x < ((m % q + 1 : Nat) : Int)) := funext fun x => by
    rw [← Int.natCast_emod]
    congr 1
    exact propext ⟨fun h => by omega, fun h => by omega⟩
  have h0 : ∀ x ∈ o, 0 ≤ x := fun x hx => (hr x hx).1
  have hG : ∀ n, decide (n ∈ o) = true ↔ n ∈ o := fun n => decide_eq_true_iff
  rw [e, filter_le hu h0 (G := fun n => decide (n ∈ o)) hG]
  show cnt (rG q o) 0 m + (if rG q o (0 + m) = true then 1 else 0) = m / q * o.length + (cnt (fun n => decide (n ∈ o)) 0 (m % q) + (if decide ((0 : Int) + ((m % q : Nat) : Int) ∈ o) = true then 1 else 0))
  rw [rG_cnt hq hu hr, filter_le hu h0 (G := fun n => decide (n ∈ o)) hG]
  have e2 : rG q o (0 + (m : Int)) = decide ((0 : Int) + ((m % q : Nat) : Int) ∈ o) := by
    unfold rG
    rw [Int.zero_add, Int.zero_add, Int.natCast_emod]
  rw [e2]
  omega
section
variable {p : Int → Prop} {l : Int} {q : Nat} {o : List Int}
/-- from the least one on as the residues tell -/
theorem Cls.cnt (h : Cls p l q o) {G : Int → Bool} (hG : ∀ n, G n = true ↔ p n) (hl : 0 ≤ l) {m : Nat} (hm : l ≤ m) : cnt G 0 m + cnt (rG q o) 0 l.toNat = cnt (rG q o) 0 m := by
  have a := cnt_add G 0 l.toNat (m - l.toNat)
  have b := cnt_add (rG q o) 0 l.toNat (m - l.toNat)
  rw [show l.toNat + (m - l.toNat) = m by omega] at a b
  have z : Nf.cnt G 0 l.toNat = 0 := cnt_none fun i hi => by
    cases e : G (0 + i) with
    | false => rfl
    | true => have := h.least _ ((hG _).mp e); omega
  have c : Nf.cnt G (0 + (l.toNat : Int)) (m - l.toNat) = Nf.cnt (rG q o) (0 + (l.toNat : Int)) (m - l.toNat) := cnt_congr fun i hi => by
    rw [Bool.eq_iff_iff, hG, h.mem _ (by omega)]
    unfold rG
    rw [decide_eq_true_iff]
  omega
theorem Cls.below (h : Cls p l q o) {G : Int → Bool} (hG : ∀ n, G n = true ↔ p n) {m : Nat} (hm : (m : Int) ≤ l) : Nf.cnt G 0 m = 0 := cnt_none fun i hi => by
  cases e : G (0 + i) with
  | false => rfl
  | true => have := h.least _ ((hG _).mp e); omega
/-- the one with a number -/
theorem Cls.nth (h : Cls p l q o) {G : Int → Bool} (hG : ∀ n, G n = true ↔ p n) (hl : 0 ≤ l) {k w : Nat} (hw : w = k + Nf.cnt (rG q o) 0 l.toNat) {r : Int} (hr : o[w % o.length]? = some r) (hj : 0 < o.length) :
    p ((w / o.length * q : Nat) + r) ∧ 0 ≤ ((w / o.length * q : Nat) : Int) + r ∧ Nf.cnt G 0 (((w / o.length * q : Nat) : Int) + r).toNat = k := by
  have hrm := List.mem_of_getElem? hr
  obtain ⟨r0, r1⟩ := h.range r hrm
  have hx : 0 ≤ ((w / o.length * q : Nat) : Int) + r := by omega
  generalize hxe : ((w / o.length * q : Nat) : Int) + r = x at *
  have emod : x % (q : Int) = r := by
    rw [← hxe, Int.natCast_mul, Int.add_comm, Int.add_mul_emod_self_right, Int.emod_eq_of_lt r0 r1]
  have hR : rG q o x = true := by
    unfold rG
    rw [emod]; exact decide_eq_true hrm
  -- so many residues below x
  have cx : Nf.cnt (rG q o) 0 x.toNat = w := by
    have e1 : x.toNat = w / o.length * q + r.toNat := by omega
    rw [e1, cnt_add, cnt_mul (rG q o) q rG_per 0, cnt_res (p := q) h.up h.range |> (show Nf.cnt (rG q o) 0 q = o.length from ·)]
    have e2 : Nf.cnt (rG q o) (0 + ((w / o.length * q : Nat) : Int)) r.toNat = w % o.length := by
      rw [← nth_below h.up (fun y hy => (h.range y hy).1) (G := fun n => decide (n ∈ o)) (fun n => decide_eq_true_iff) hr]
      refine cnt_congr2 fun i hi => ?_
      have e1 : ((0 : Int) + ((w / o.length * q : Nat) : Int) + i) % (q : Int) = i := by
        rw [Int.zero_add, Int.natCast_mul, Int.add_comm, Int.add_mul_emod_self_right, Int.emod_eq_of_lt (by omega) (by omega)]
      show decide (_ ∈ o) = decide (_ ∈ o)
      rw [e1, Int.zero_add]
    rw [e2, Nat.mul_comm]
    exact Nat.div_add_mod w o.length
  have hle : l ≤ x := by
    rcases Int.lt_or_le x l with z | z
    · exfalso
      have m1 := cnt_mono (rG q o) 0 (m := x.toNat + 1) (n := l.toNat) (by omega)
      have m2 : Nf.cnt (rG q o) 0 (x.toNat + 1) = Nf.cnt (rG q o) 0 x.toNat + 1 := by
        show Nf.cnt (rG q o) 0 x.toNat + _ = _
        rw [show (0 : Int) + (x.toNat : Int) = x by omega, if_pos hR]
      omega
    · exact z
  refine ⟨(h.mem x hle).mpr (by rw [emod]; exact hrm), hx, ?_⟩
  have := h.cnt hG hl (m := x.toNat) (by omega)
  omega
end
end Nf
/-! list(range(..)), comprehensions of numbers -/
namespace Gm
open PySem L2
section
variable {w : Wd} {Γ : Env} {S : List Own} {k : KE} {ta tb te : TE}
def rgD (i j : Int) : List D := (List.range (j - i).toNat).map fun n : Nat => D.int (i + n)
theorem rgD_den {K : PySem.W.Frag} {R : Hp} (i : Int) : ∀ ns : List Nat, Dens K R (ns.map fun n : Nat => V.int (i + n)) (ns.map fun n : Nat => D.int (i + n))
  | [] => .nil
  | n :: ns => .cons (.int _) (rgD_den i ns)
theorem le_listRg2 (h : LE w ta Γ S fun x S1 => LE w tb Γ S1 fun y S2 => ∃ i j, x = .d (.int i) ∧ y = .d (.int j) ∧ RgOk i j ∧ k (.d (.lst (rgD i j))) S2) : LE w (tLstRg (tRg2 ta tb)) Γ S k := fun σ R H as Q rl s c => by
  refine h σ R H as _ rl s fun u x S1 R1 H1 as1 rl1 s1 p1 e1 h1 => h1 σ R1 H1 as1 _ rl1 (s.mono s1 p1) fun v y S2 R2 H2 as2 rl2 s2 p2 e2 ⟨i, j, hx, hy, ho, hk⟩ => ?_
  subst hx hy
  cases e1
  cases e2
  refine ⟨i, j, rfl, rfl, ho, fun q hq => ?_⟩
  obtain ⟨rl3, s3⟩ := rl2.alloc hq (.lst (rgV i j))
  exact c _ _ S2 _ _ as2 rl3 (s1.trans (s2.trans s3)) (p1.trans p2) (ok_d (Den.lst upd_same (rgD_den i _))) hk
theorem le_listRg1 (h : LE w ta Γ S fun x S1 => ∃ j, x = .d (.int j) ∧ RgOk 0 j ∧ k (.d (.lst (rgD 0 j))) S1) : LE w (tLstRg (tRg1 ta)) Γ S k := fun σ R H as Q rl s c => by
  refine h σ R H as _ rl s fun u x S1 R1 H1 as1 rl1 s1 p1 e1 ⟨j, hx, ho, hk⟩ => ?_
  subst hx
  cases e1
  refine ⟨j, rfl, ho, fun q hq => ?_⟩
  obtain ⟨rl3, s3⟩ := rl1.alloc hq (.lst (rgV 0 j))
  exact c _ _ S1 _ _ as1 rl3 (s1.trans s3) p1 (ok_d (Den.lst upd_same (rgD_den 0 _))) hk
theorem lt_mono {t : TT} {kb kb' : Bool → List Own → Prop} (h : LT w t Γ S kb) (q : ∀ b S', kb b S' → kb' b S') : LT w t Γ S kb' := fun σ R H as Q rl s c =>
  h σ R H as Q rl s fun b S' R' H' as' a1 a2 a3 a4 => c b S' R' H' as' a1 a2 a3 (q b S' a4)
/-- one turn of a comprehension that keeps all, of data -/
def LcD (w : Wd) (Γ : Env) (v : Nat) (tt : TT) (te : TE) (x : D) (S : List Own) (y : D) : Prop :=
  LT w tt (Γ.set v (some (.d x))) S fun b S3 => b = true ∧ LE w te (Γ.set v (some (.d x))) S3 fun e S4 => e = .d y ∧ S4 = S
theorem lcd_turn {v : Nat} {tt : TT} {x y : D} {acc : List D} {N : List D → List Own → Prop} (h : LcD w Γ v tt te x (S ++ [.lst acc]) y) (ha : acc.length < sizeLine) (hn : N (acc ++ [y]) S) : LcT w Γ v tt te x acc S N :=
  lt_mono h fun b S3 ⟨h1, h2⟩ => ⟨fun _ => le_mono h2 fun e S4 ⟨h3, h4⟩ => ⟨y, S, h3, h4, rfl, ha, hn⟩, fun hb => by rw [h1] at hb; cases hb⟩
theorem lcd_yes {v : Nat} {x y : D} (h : LE w te (Γ.set v (some (.d x))) S fun e S4 => e = .d y ∧ S4 = S) : LcD w Γ v tYes te x S y := fun σ R H as Q rl s c =>
  c true S R H as rl (Sub.refl _) (Pre.refl _) ⟨rfl, h⟩
theorem le_lcRD {wi : TI} {v : Nat} {tt : TT} {F : Nat → D} (h : LR w wi Γ S fun lo n S1 => n ≤ sizeLine ∧ (∀ i acc, i < n → LcD w Γ v tt te (.int (lo + i)) (S1 ++ [.lst acc]) (F i)) ∧ k (.d (.lst ((List.range n).map F))) S1) : LE w (tLc wi (gName v) tt te [v]) Γ S k := by
  refine le_lcR (fun σ R H as Q rl s c => h σ R H as Q rl s fun lo n S1 R1 H1 as1 a1 a2 a3 ⟨h1, h2, h3⟩ => c lo n S1 R1 H1 as1 a1 a2 a3 ?_)
  refine ⟨fun i acc S2 => S2 = S1 ∧ acc = (List.range i).map F, ⟨rfl, rfl⟩, ?_, ?_⟩
  · rintro i acc _ hi _ ⟨rfl, rfl⟩
    refine lcd_turn (h2 i _ hi) (by rw [List.length_map, List.length_range]; omega) ⟨rfl, ?_⟩
    rw [List.range_succ, List.map_append]; rfl
  · rintro acc _ ⟨rfl, rfl⟩
    exact h3
theorem le_lcLD {tl : TE} {v : Nat} {tt : TT} {F : D → D} (h : LE w tl Γ S fun e S1 => ∃ ds, e = .d (.lst ds) ∧ ds.length ≤ sizeLine ∧ (∀ d acc, d ∈ ds → LcD w Γ v tt te d (S1 ++ [.lst acc]) (F d)) ∧ k (.d (.lst (ds.map F))) S1) : LE w (tLc (iList w.K tl) (gName v) tt te [v]) Γ S k := by
  refine le_lcL (le_mono h fun e S1 ⟨ds, h1, h2, h3, h4⟩ => ⟨ds, h1, fun i acc S2 => S2 = S1 ∧ acc = (ds.take i).map F, ⟨rfl, rfl⟩, ?_, ?_⟩)
  · rintro i d acc _ hd _ ⟨rfl, rfl⟩
    obtain ⟨hi, he⟩ := List.getElem?_eq_some_iff.mp hd
    refine lcd_turn (h3 d _ (List.mem_of_getElem? hd)) (by rw [List.length_map, List.length_take]; omega) ⟨rfl, ?_⟩
    rw [List.take_succ_eq_append_getElem hi, List.map_append, he]; rfl
  · rintro acc _ ⟨rfl, rfl⟩
    rw [List.take_length]
    exact h4
/-- of numbers -/
theorem le_lcRI {wi : TI} {v : Nat} {tt : TT} (F : Nat → Int) (h : LR w wi Γ S fun lo n S1 => n ≤ sizeLine ∧ (∀ i acc, i < n → LcD w Γ v tt te (.int (lo + i)) (S1 ++ [.lst acc]) (.int (F i))) ∧ k (.d (.lst (((List.range n).map F).map D.int))) S1) : LE w (tLc wi (gName v) tt te [v]) Γ S k := by
  refine le_lcRD (F := fun i => .int (F i)) (fun σ R H as Q rl s c => h σ R H as Q rl s fun lo n S1 R1 H1 as1 a1 a2 a3 ⟨h1, h2, h3⟩ => c lo n S1 R1 H1 as1 a1 a2 a3 ⟨h1, h2, ?_⟩)
  rw [List.map_map] at h3
  exact h3
theorem le_lcLI {tl : TE} {v : Nat} {tt : TT} (f : Int → Int) (h : LE w tl Γ S fun e S1 => ∃ xs : List Int, e = .d (.lst (xs.map D.int)) ∧ xs.length ≤ sizeLine ∧ (∀ x acc, x ∈ xs → LcD w Γ v tt te (.int x) (S1 ++ [.lst acc]) (.int (f x))) ∧ k (.d (.lst ((xs.map f).map D.int))) S1) : LE w (tLc (iList w.K tl) (gName v) tt te [v]) Γ S k := by
  refine le_lcLD (F := fun d => match d with | .int x => .int (f x) | _ => .non) (le_mono h fun e S1 ⟨xs, h1, h2, h3, h4⟩ => ⟨xs.map D.int, h1, by rw [List.length_map]; exact h2, fun d acc hd => ?_, ?_⟩)
  · obtain ⟨x, hx, rfl⟩ := List.mem_map.mp hd
    exact h3 x acc hx
  · rw [List.map_map] at h4 ⊢
    exact h4
theorem rgD_ints (i j : Int) : rgD i j = ((List.range (j - i).toNat).map fun n : Nat => i + (n : Int)).map D.int := by unfold rgD; rw [List.map_map]; rfl
end
/-! walks whose turns are alike -/
section
variable {w : Wd} {Γ : Env} {S : List Own} {G : GE} {t1 : TS}
theorem ls_forP {tl : TE} {g : TG} (Pd : D → Prop) (I : Env → List Own → Prop) (h : LE w tl Γ S fun e S1 => ∃ ds, e = .d (.lst ds) ∧ (∀ d ∈ ds, Pd d) ∧ I Γ S1)
    (hs : ∀ d Γ1 S2, Pd d → I Γ1 S2 → LG w g (.d d) Γ1 S2 fun Γ2 S3 => LS w t1 Γ2 S3 { G with nx := I, ct := I, bk := G.nx }) (hE : ∀ Γ1 S2, I Γ1 S2 → G.nx Γ1 S2) : LS w (tFor (iList w.K tl) g t1) Γ S G :=
  ls_forL (le_mono h fun e S1 ⟨ds, h1, h2, h3⟩ => ⟨ds, h1, fun _ => I, h3, fun i d Γ1 S2 hd hI => hs d Γ1 S2 (h2 d (List.mem_of_getElem? hd)) hI, hE⟩)
theorem ls_forTP {tl : TE} {g : TG} (Pd : D → Prop) (I : Env → List Own → Prop) (h : LE w tl Γ S fun e S1 => ∃ ds, e = .d (.tup ds) ∧ (∀ d ∈ ds, Pd d) ∧ I Γ S1)
    (hs : ∀ d Γ1 S2, Pd d → I Γ1 S2 → LG w g (.d d) Γ1 S2 fun Γ2 S3 => LS w t1 Γ2 S3 { G with nx := I, ct := I, bk := G.nx }) (hE : ∀ Γ1 S2, I Γ1 S2 → G.nx Γ1 S2) : LS w (tFor (iTup w.K tl) g t1) Γ S G :=
  ls_forT (le_mono h fun e S1 ⟨ds, h1, h2, h3⟩ => ⟨ds, h1, fun _ => I, h3, fun i d Γ1 S2 hd hI => hs d Γ1 S2 (h2 d (List.mem_of_getElem? hd)) hI, hE⟩)
end
/-! the rules of calls inside a comprehension's block -/
section
variable {X : Cx} {P : Program} {w0 : World} {K : PySem.W.Frag} {mg : Str → Option Value} {base : Heap} {CX : CXT} {k n : Nat} {C : Addr} {x m : Str} {ds : DS} {E : XK} {p pos apos : Pos} {o e : Expr} {es : List Expr} {kws : List Keyword} {ta te : TE} {t tk : TA} {pl : Sem Bool}
theorem pe_mdB (d : Mt P w0 K mg base CX k C m ds) (hr : Room k X.A) (hx : Passes CX X E) (he : PE X o ta) (ha : PA X (e :: es) t)
    (hst : starEach (e :: es) X.env = (false, eval e X.env) :: starEach es X.env := by rfl) (hpl : (backTo pos (starEach es X.env)).any (·.1) = false := by rfl)
    (ht : eval (.Call (.Attribute o m apos) (e :: es) [] pos) X.env = (do
      let ov ← eval o X.env
      standAt apos.atName
      let (f, first) ← holding [ov] (getMethod ov m pl)
      callWith pos f first (backTo pos (starEach (e :: es) X.env)) (backToKw pos (keywordEach [] X.env))) := by rfl) (hP : X.prog = P := by rfl) (hW : X.w = w0 := by rfl) (hK : X.K = K := by rfl) (hM : X.mg = mg := by rfl) (hB : X.base = base := by rfl) : PE X (.Call (.Attribute o m apos) (e :: es) [] pos) (tMeth C m (spD K ds) [] E ta t) := by
  subst hP hW hK hM hB
  exact pe_md d hr hx he ha hst hpl ht
theorem pe_md0B (d : Mt P w0 K mg base CX k C m ds) (hr : Room k X.A) (hx : Passes CX X E) (he : PE X o ta)
    (ht : eval (.Call (.Attribute o m apos) [] [] pos) X.env = (do
      let ov ← eval o X.env
      standAt apos.atName
      let (f, first) ← holding [ov] (getMethod ov m pl)
      callWith pos f first (backTo pos (starEach [] X.env)) (backToKw pos (keywordEach [] X.env))) := by rfl) (hP : X.prog = P := by rfl) (hW : X.w = w0 := by rfl) (hK : X.K = K := by rfl) (hM : X.mg = mg := by rfl) (hB : X.base = base := by rfl) : PE X (.Call (.Attribute o m apos) [] [] pos) (tMeth C m (spD K ds) [] E ta tNil) := by
  subst hP hW hK hM hB
  exact pe_md0 d hr hx he ht
theorem pe_mkB (d : Ct P w0 K mg base CX k x C ds) (hr : Room (k + 1) X.A) (hx : Passes CX X E) (ha : PA X (e :: es) t) (hg : Gl X x := by rfl) (hdb : (x == ("__debug__" : Str)) = false := by decide)
    (he : starEach (e :: es) X.env = (false, eval e X.env) :: starEach es X.env := by rfl) (hpl : (backTo pos (starEach es X.env)).any (·.1) = false := by rfl) (hP : X.prog = P := by rfl) (hW : X.w = w0 := by rfl) (hK : X.K = K := by rfl) (hM : X.mg = mg := by rfl) (hB : X.base = base := by rfl) : PE X (.Call (.Name x p) (e :: es) [] pos) (tMake C (spD K ds) [] E t) := by
  subst hP hW hK hM hB
  exact pe_mk d hr hx ha hg hdb he hpl
theorem pe_prB (d : Pr P w0 K mg base CX k C m ds) (hr : Room (k + 1) X.A) (hx : Passes CX X.nox E) (he : PE X o ta) (hab : attributeBase o m X.env (eval o X.env) = eval o X.env := by rfl) (hP : X.prog = P := by rfl) (hW : X.w = w0 := by rfl) (hK : X.K = K := by rfl) (hM : X.mg = mg := by rfl) (hB : X.base = base := by rfl) : PE X (.Attribute o m pos) (tProp C (spD K ds) [] E ta) := by
  subst hP hW hK hM hB
  exact pe_pr d hr hx he hab
theorem pe_dfB (d : Df P w0 K mg base CX k x n ds) (hr : Room k X.A) (hx : Passes CX X E) (ha : PA X (e :: es) t) (hg : Gl X x := by rfl) (hdb : (x == ("__debug__" : Str)) = false := by decide)
    (he : starEach (e :: es) X.env = (false, eval e X.env) :: starEach es X.env := by rfl) (hpl : (backTo pos (starEach es X.env)).any (·.1) = false := by rfl) (hP : X.prog = P := by rfl) (hW : X.w = w0 := by rfl) (hK : X.K = K := by rfl) (hM : X.mg = mg := by rfl) (hB : X.base = base := by rfl) : PE X (.Call (.Name x p) (e :: es) [] pos) (tCall (spD K ds) [] E t) := by
  subst hP hW hK hM hB
  exact pe_df d hr hx ha hg hdb he hpl
theorem o_lenB (d : Sm P w0 K mg base CX k C "__len__" ds) (hr : Room (k + 1) X.A) (hx : Passes CX X E) (hm : X.mg "len" = none) (he : PE X e te) (hg : Gl X "len" := by rfl) (hs : starEach [e] X.env = (false, eval e X.env) :: starEach [] X.env := by rfl) (hP : X.prog = P := by rfl) (hW : X.w = w0 := by rfl) (hK : X.K = K := by rfl) (hM : X.mg = mg := by rfl) (hB : X.base = base := by rfl) : PE X (.Call (.Name "len" p) [e] [] pos) (tCB (gLenO C (spD K ds) E) (tCons te tNil)) := by
  subst hP hW hK hM hB
  exact o_len d hr hx hm he hg hs
theorem o_eqB (d : Sm P w0 K mg base CX k C "__eq__" ds) (hr : Room k X.A) (hx : Passes CX X E) (hP : X.prog = P := by rfl) (hW : X.w = w0 := by rfl) (hK : X.K = K := by rfl) (hM : X.mg = mg := by rfl) (hB : X.base = base := by rfl) : OpR X (compareOp .Eq) (rEqO K C (spD K ds) E) := by
  subst hP hW hK hM hB
  exact o_eq d hr hx
theorem o_addB (d : Sm P w0 K mg base CX k C "__add__" ds) (hc : PySem.W.selfFirst K C = true) (hr : Room k X.A) (hx : Passes CX X E) (hP : X.prog = P := by rfl) (hW : X.w = w0 := by rfl) (hK : X.K = K := by rfl) (hM : X.mg = mg := by rfl) (hB : X.base = base := by rfl) : OpR X (binaryOp .Add) (rAddO C (spD K ds) E) := by
  subst hP hW hK hM hB
  exact o_add d hc hr hx
theorem ix_listB (K : PySem.W.Frag) (hK : X.K = K := by rfl) : IxR X (rIxL K) := by subst hK; exact ix_list
theorem ix_tupB (K : PySem.W.Frag) (hK : X.K = K := by rfl) : IxR X (rIxT K) := by subst hK; exact ix_tup
theorem b_lenB (K : PySem.W.Frag) (hm : X.mg "len" = none) (he : PE X e te) (hg : Gl X "len" := by rfl) (hs : starEach [e] X.env = (false, eval e X.env) :: starEach [] X.env := by rfl) (hK : X.K = K := by rfl) : PE X (.Call (.Name "len" p) [e] [] pos) (tCB (gLen K) (tCons te tNil)) := by
  subst hK; exact b_len hm he hg hs
end
/-! lists, of data or of the store -/
section
variable {w : Wd} {Γ : Env} {S : List Own} {k : KE} {x : Ent} {ds : List D} {E : XK}
theorem rc_lenG (hx : IsLst x S ds) (q : k (.d (.int ds.length)) S) : RC w (gLen w.K) [x] S k := by
  rcases hx with rfl | ⟨i, rfl, hi⟩
  · exact rc_len (n := ds.length) rfl q
  · exact rc_lenO hi q
theorem rr_ixG {i : Int} {d : D} (hx : IsLst x S ds) (h : atI ds i = some d) (q : k (.d d) S) : RR w (rIxL w.K) x (.d (.int i)) S k := by
  rcases hx with rfl | ⟨j, rfl, hi⟩
  · exact rr_ixL h q
  · exact rr_ixO hi h q
theorem rc_lenZ {s : List Int} (hx : IsLst x S (s.map D.int)) (q : k (.d (.int s.length)) S) : RC w (gLen w.K) [x] S k := rc_lenG hx (by rw [List.length_map]; exact q)
/-- list(xs), as data -/
theorem rc_listOD {i : Nat} (hi : S[i]? = some (.lst ds)) (q : k (.d (.lst ds)) S) : RC w (gList w.K) [.own i] S k := fun R H as us Q rl hu c => by
  refine rc_listNO (k := fun e S' => e = .own S.length ∧ S' = S ++ [.lst ds]) hi ⟨rfl, rfl⟩ R H as us Q rl hu ?_
  rintro v e S' R' H' as' rl' s' p' ok ⟨rfl, rfl⟩
  obtain ⟨a, ha, rfl⟩ := ok
  have hg : (S ++ [Own.lst ds])[S.length]? = some (.lst ds) := List.getElem?_concat_length
  obtain ⟨⟨z, vs, c1, c2⟩, _⟩ := rl'.reg _ _ _ hg ha (by intro z; cases z)
  obtain ⟨rl2, s2⟩ := rl'.freeze hg ha (by intro z; cases z) c1
  have es : (S ++ [Own.lst ds]).set S.length .gone = S ++ [.gone] := by
    rw [List.set_append_right _ _ (Nat.le_refl _), Nat.sub_self]; rfl
  rw [es] at rl2
  refine c (.ref a) (.d (.lst ds)) S _ _ _ (rl2.pop rl.as0_le) (s'.trans s2) (fun i b hb => ?_) (.lst upd_same (c2.mono s2)) q
  have hil := (List.getElem?_eq_some_iff.mp hb).1
  rw [rl.len] at hil
  rw [List.getElem?_take, if_pos (by omega)]
  exact p' i b hb
/-- a def that is handed a list, of data or of the store, and only reads it -/
theorem rs_lst {α : Type} {pre : α → List Ent → List Own → Prop} {post : α → Ent → List Own → Prop} {es : List Ent} (hx : IsLst x S ds) (a : Ent → List Own → α) (hpre : ∀ x' S0, IsLst x' S0 ds → pre (a x' S0) (x' :: es) S0)
    (h : ∀ x' S0 e S', post (a x' S0) e S' → ∃ d, S' = S0 ∧ e = .d d ∧ k (.d d) S) (hw : es.all (Ent.wf 0) = true := by rfl) : RS w (Gm.ds pre post) E (x :: es) S k := by
  rcases hx with rfl | ⟨i, rfl, hi⟩
  · exact r0 (a (.d (.lst ds)) []) (hpre _ _ (.inl rfl)) (fun e S' q => by obtain ⟨d, q1, q2, q3⟩ := h _ _ e S' q; exact ⟨d, q1, q2, q3⟩) (by simpa [Ent.wf] using hw)
  · have hw1 : ∀ es : List Ent, es.all (Ent.wf 0) = true → es = es.map (Ent.ren [i]) ∧ es.all (Ent.wf 1) = true := by
      intro es
      induction es with
      | nil => intro _; exact ⟨rfl, rfl⟩
      | cons e es ih =>
        intro q
        have q' : Ent.wf 0 e = true ∧ es.all (Ent.wf 0) = true := by simpa using q
        cases e with
        | d y => exact ⟨by show _ = Ent.d y :: _; rw [← (ih q'.2).1], by simpa [Ent.wf] using (ih q'.2).2⟩
        | own j => simp [Ent.wf] at q'
        | tup es => simp [Ent.wf] at q'
    refine rs_call (ex0 (w := w) (E := E)) [i] (Pick.one hi (by intro z; cases z)) (es' := .own 0 :: es) (by show _ = Ent.own i :: _; rw [← (hw1 es hw).1]) (by simpa [Ent.wf] using (hw1 es hw).2) ⟨a (.own 0) [.lst ds], hpre _ _ (.inr ⟨0, rfl, rfl⟩), fun e S' q => ?_⟩
    obtain ⟨d, rfl, rfl, q3⟩ := h _ _ e S' q
    refine ⟨[.lst ds], [], rfl, rfl, by simp, ?_⟩
    show k (.d d) (S.set i (.lst ds) ++ [])
    rw [List.append_nil]
    have e : S.set i (.lst ds) = S := by
      obtain ⟨hl, he⟩ := List.getElem?_eq_some_iff.mp hi
      rw [← he, List.set_getElem_self]
    rw [e]; exact q3
/-- a new thing of the store, then its __init__ -/
theorem le_makeR {C : Addr} {t : TA} {f : DS} (h : LA w t Γ S fun es S1 => RS w f E (.own S1.length :: es) (S1 ++ [.ins C []]) fun e S' => e = .d .non ∧ ∃ gs, S' = S1 ++ [.ins C gs] ∧ k (.d (.obj C gs)) S1) : LE w (tMake C (spD w.K f) [] E t) Γ S k := fun σ R H as Q rl s c => by
  refine h σ R H as _ rl s fun vs es S1 R1 H1 as1 rl1 s1 p1 e1 h1 => ?_
  intro xa dx hx hd hne
  rw [List.append_nil]
  obtain ⟨rl2, s2⟩ := rl1.alloc hd (.own xa)
  have hx2 : (upd H1 dx (.own xa)) xa = none := by rw [upd_ne (fun z => hne z.symm)]; exact hx
  have rl3 : Rel w (upd R1 dx (.own xa)) (upd (upd H1 dx (.own xa)) xa (.ins C dx [])) (as1 ++ [xa]) (S1 ++ [.ins C []]) := rl2.allocO hx2 _ ⟨(rl2.fresh hx2).1, dx, [], upd_same, .nil⟩
  have hxa : (as1 ++ [xa])[S1.length]? = some xa := by rw [← rl1.len]; exact List.getElem?_concat_length
  refine h1 _ _ (as1 ++ [xa]) (.ref xa :: vs) _ rl3 ⟨⟨xa, hxa, rfl⟩, e1.mono s2 (Pre.app _ _)⟩ ?_
  rintro v e S' R' H' as' rl4 s4 p4 ok ⟨rfl, gs, rfl, hk⟩
  have hv : v = .non := by
    have ok' : Den w.K R' v .non := ok
    cases ok'; rfl
  subst hv
  refine ⟨rfl, ?_⟩
  have ha0 := p4 _ _ hxa
  have hg : (S1 ++ [Own.ins C gs])[S1.length]? = some (.ins C gs) := List.getElem?_concat_length
  obtain ⟨⟨z, dx', fs, c1, c2⟩, _⟩ := rl4.reg _ _ _ hg ha0 (by intro z; cases z)
  obtain ⟨rl5, s5⟩ := rl4.freeze hg ha0 (by intro z; cases z) c1
  have es5 : (S1 ++ [Own.ins C gs]).set S1.length .gone = S1 ++ [.gone] := by
    rw [List.set_append_right _ _ (Nat.le_refl _), Nat.sub_self]; rfl
  rw [es5] at rl5
  have hle := rl1.as0_le
  refine c (.ref xa) (.d (.obj C gs)) S1 _ _ _ (rl5.pop hle) (((s1.trans s2).trans s4).trans s5) (fun i b hb => ?_) (.obj upd_same (c2.mono s5)) hk
  have hb1 := p1 i b hb
  have hil := (List.getElem?_eq_some_iff.mp hb1).1
  rw [rl1.len] at hil
  rw [List.getElem?_take, if_pos (by omega)]
  exact p4 i b (Pre.app _ _ i b hb1)
end
section
variable {w : Wd} {Γ : Env} {S : List Own} {k : KE} {x : Ent} {ds : List D} {E : XK}
theorem dens_rep {K : PySem.W.Frag} {R : Hp} {vs : List V} {ds : List D} (h : Dens K R vs ds) : ∀ n : Nat, Dens K R (List.replicate n vs).flatten (List.replicate n ds).flatten
  | 0 => .nil
  | n + 1 => by rw [List.replicate_succ, List.replicate_succ, List.flatten_cons, List.flatten_cons]; exact h.append (dens_rep h n)
theorem rr_rep {n : Int} (hx : IsLst x S ds) (h0 : 0 ≤ n) (h1 : n < 2 ^ 62) (hl : ds.length * n.toNat ≤ sizeLine) (q : k (.d (.lst (List.replicate n.toNat ds).flatten)) S) : RR w rRep x (.d (.int n)) S k := fun R H as u v Q rl hu hv c => by
  obtain ⟨a, vs, rfl, q2, q3⟩ := isLst_at hx rl hu
  cases hv
  refine ⟨a, n, vs, rfl, rfl, q2, by omega, by omega, by rw [q3.len]; exact hl, fun p hp => ?_⟩
  obtain ⟨rl2, s2⟩ := rl.alloc hp (.lst (List.replicate n.toNat vs).flatten)
  exact c _ _ S _ _ as rl2 s2 (Pre.refl _) (ok_d (Den.lst upd_same ((dens_rep q3 _).mono s2))) q
/-- handed the first thing of the store, it gives a tuple of a new list and data -/
theorem rpT {α : Type} {pre : α → List Ent → List Own → Prop} {post : α → Ent → List Own → Prop} {o : Own} {rest : List Own} {es : List Ent} (a : α) (hpre : pre a es [o])
    (h : ∀ e S', post a e S' → ∃ o' xs d, S' = [o', .lst xs] ∧ o' ≠ .gone ∧ e = .tup [.own 1, .d d] ∧ k (.tup [.own (rest.length + 1), .d d]) (o' :: rest ++ [.lst xs])) (hn : o ≠ .gone) (hw : es.all (Ent.wf 1) = true := by rfl) : RS w (Gm.ds pre post) E es (o :: rest) k := by
  refine rs_call (ex0 (w := w) (E := E)) [0] (Pick.one (o := o) rfl hn) (ren_wf1 hw) hw ⟨a, hpre, fun e S' q => ?_⟩
  obtain ⟨o', xs, d, rfl, h1, rfl, h2⟩ := h e S' q
  exact ⟨[o'], [.lst xs], rfl, rfl, by simpa using h1, h2⟩
theorem lg_tupE2 {i j : Nat} {x y : Ent} {k : Env → List Own → Prop} (q : k ((Γ.set i (some x)).set j (some y)) S) : LG w (gTup w.K 2 (gCons (gName i) (gCons (gName j) gNil))) (.tup [x, y]) Γ S k :=
  lg_tupE rfl (lgs_cons (lg_name (lgs_cons (lg_name (lgs_nil q)))))
theorem wb_two {i : Nat} {o u u' : Own} (hi : S[i]? = some o) : wb (S ++ [u]) [S.length, i] [u', o] = S ++ [u'] := by
  obtain ⟨hl, he⟩ := List.getElem?_eq_some_iff.mp hi
  show ((S ++ [u]).set S.length u').set i o = _
  have e1 : (S ++ [u]).set S.length u' = S ++ [u'] := by
    rw [List.set_append_right _ _ (Nat.le_refl _), Nat.sub_self]; rfl
  rw [e1, List.set_append_left _ _ hl, ← he, List.set_getElem_self]
end
section
variable {w : Wd} {Γ : Env} {S : List Own} {k : KE} {G : GE} {t1 t2 : TS}
theorem ls_cut (M : Env → List Own → Prop) (h : LS w t1 Γ S { G with nx := M }) (q : ∀ Γ1 S1, M Γ1 S1 → LS w t2 Γ1 S1 G) : LS w (tSeq t1 t2) Γ S G := fun D σ R H as rl s e =>
  h _ σ R H as rl s ⟨fun Γ1 S1 σ1 R1 H1 as1 u a b c => q Γ1 S1 c D σ1 R1 H1 as1 a b (e.up u), e.rt, e.bk, e.ct⟩
theorem own_P {i : Nat} {s : List Int} (h : S[i]? = some (.lst (s.map D.int))) : entP S (.own i) = some (.list (s.map PyData.int)) := by
  show (match S[i]? with
    | some (.lst xs) => (toPs xs).map PyData.list
    | _ => none) = _
  rw [h]
  show (toPs (s.map D.int)).map PyData.list = _
  rw [toPs_ints]; rfl
theorem cut_from {s : List Int} {p : Nat} (h : p ≤ s.length) : cutD (s.map D.int) (some (p : Int)) none = (s.drop p).map D.int := by
  unfold cutD
  rw [HT.sIx_none, HT.sIx_nat, List.length_map, Nat.min_eq_left h, ← List.map_drop, List.take_of_length_le (by rw [List.length_map, List.length_drop]; omega)]
end
end Gm
/-! errors: raised, passed on, caught, asked -/
namespace Gm
open PySem L2

/-! ### raising -/
/-- an error's __init__: self.value = value -/
def spXi (K : PySem.W.Frag) : Sp := fun vs H Q _ => ∃ (a C : Addr) (z : V), vs = [.ref a, z] ∧ OexC K C ∧ PySem.W.findIn K (.ref C) "value" = some none ∧ H a = some (exo a C none) ∧
  ∀ dx, H dx = none → dx ≠ a → Q .non (upd (upd H dx (exd dx [(("value" : Str), z)])) a (exo a C (some dx)))
section
variable {P : Program} {w0 : World} {K : PySem.W.Frag} {mg : Str → Option Value} {base : Heap}
structure Xt (P : Program) (w0 : World) (K : PySem.W.Frag) (mg : Str → Option Value) (base : Heap) (k : Nat) (x : Str) (C : Addr) : Prop where
  cls : OexC K C
  val : PySem.W.findIn K (.ref C) "value" = some none
  gl : mg x = some (.ref C)
  ex : ∃ (f : Addr) (fd : FuncData), PySem.W.findIn K (.ref C) "__init__" = some (some (.ref f)) ∧ PySem.W.typeIn K (.ref f) = some (.type "function") ∧ FnOk P w0 K mg base CX0 k f fd ["self", "value"] (spXi K) ∧ Binds K fd ["self", "value"] []
end
def tErr (K : PySem.W.Frag) (C : Addr) (ta : TA) (W : WX) : TS := fun _ σ H => tMkO C (spXi K) [] ta σ H fun c d H' => W c d σ H'
theorem ps_err {X : Cx} {W : WX} {x : Str} {C : Addr} {k : Nat} {e : Expr} {es : List Expr} {ta : TA} {p pos pos' : Pos} (d : Xt X.prog X.w X.K X.mg X.base k x C) (hr : Room (k + 1) X.A) (hx : Passes CX0 X (fun _ _ _ => False)) (tk : Takes X W) (ha : PA X (e :: es) ta)
    (hc : X.calm = true := by rfl) (hg : Gl X x := by rfl) (hdb : (x == ("__debug__" : Str)) = false := by decide) (he : starEach (e :: es) X.env = (false, eval e X.env) :: starEach es X.env := by rfl) (hpl : (backTo pos (starEach es X.env)).any (·.1) = false := by rfl) :
    PS X (.Raise (some (.Call (.Name x p) (e :: es) [] pos)) none pos') (tErr X.K C ta W) := by
  obtain ⟨f, fd, h1, h2, F, hb⟩ := d.ex
  exact ps_raise hc tk (pmk_oex d.cls h1 h2 F hr hb .nil hx hg d.gl ha hdb he hpl)
theorem ls_err {w : Wd} {Γ : Env} {S : List Own} {G : GE} {E : XK} {x : KX} {P : Program} {w0 : World} {mg : Str → Option Value} {base : Heap} {k : Nat} {nm : Str} {C : Addr} {ta : TA} (d : Xt P w0 w.K mg base k nm C) (hE : ExOk w E x)
    (h : LA w ta Γ S fun es S1 => ∃ u, es = [.d u] ∧ x C u S1) : LS w (tErr w.K C ta (fun c d _ H => E c d H)) Γ S G := fun D σ R H as rl s e => by
  refine h σ R H as _ rl s fun vs es S1 R1 H1 as1 rl1 s1 p1 e1 ⟨u, q1, q2⟩ => ?_
  subst q1
  match vs, e1 with
  | [z], ⟨hz, _⟩ =>
  have hz' : Den w.K R1 z u := hz
  refine ⟨Nat.le_of_ble_eq_true rfl, fun a ha => ⟨a, C, z, rfl, d.cls, d.val, upd_same, fun dx hdx hne => ⟨rfl, dx, [(("value" : Str), z)], upd_same, ?_, ?_, ?_⟩⟩⟩
  · rw [upd_ne hne, upd_same]
  · rw [upd_ne hne] at hdx; exact hdx
  · have hdx1 : H1 dx = none := by rw [upd_ne hne] at hdx; exact hdx
    have eH : upd (del (upd (upd (upd H1 a (exo a C none)) dx (exd dx [(("value" : Str), z)])) a (exo a C (some dx))) a) dx (.xd [(("value" : Str), z)]) = upd H1 dx (.xd [(("value" : Str), z)]) := by
      funext b
      by_cases hb : b = dx
      · rw [hb, upd_same, upd_same]
      · rw [upd_ne hb, upd_ne hb]
        by_cases hba : b = a
        · rw [hba, del_same, ha]
        · rw [del_ne hba, upd_ne hba, upd_ne hb, upd_ne hba]
    rw [eH]
    obtain ⟨rl2, s2⟩ := rl1.alloc hdx1 (.xd [(("value" : Str), z)])
    exact hE C dx z u S1 _ _ as1 rl2 upd_same (hz'.mono s2) q2

theorem g_VE {X : Cx} {pos : Pos} (hm : X.mg "ValueError" = none) (hg : Gl X "ValueError" := by rfl) : PE X (.Name "ValueError" pos) (tC (.ty "ValueError")) := pe_bltn hg hm PyProof.Rows.Boot.«ValueError» rfl
/-! ### passing on -/
section
variable {P : Program} {w0 : World} {K : PySem.W.Frag} {mg : Str → Option Value} {base : Heap} {N : List Str} {qual : Str} {scope : Scope} {f : Addr} {cdv : Value} {A : Around} {outer : List PySem.Env} {s : Shared} {H : Hp} {E : XK}
theorem takesX : Takes (cxOf (L2.CX P w0) P w0 K mg base N qual scope f cdv A outer s H E) (fun c d _ H => E c d H) := takes_of rfl rfl rfl rfl
theorem passX : Passes (L2.CX P w0) (cxOf (L2.CX P w0) P w0 K mg base N qual scope f cdv A outer s H E) E := passes_call takesX fun _ _ _ _ h => h
end
/-- what a try's body lets out, whatever the names hold -/
def EW (n : Nat) (W : WX) : XK := fun c d H => ∀ σ : St, σ.length = n → W c d σ H
theorem passT {X : Cx} {W : WX} {n : Nat} (tk : Takes X W) (hn : X.N.length = n) : Passes (L2.CX X.prog X.w) X (EW n W) := fun pins σ H s e s' I c =>
  tk e s' (XE.of_call I (fun c d H' h => h σ (I.len.trans hn)) c)
theorem exok_weak {w : Wd} {E : XK} {x x' : KX} (h : ExOk w E x) (q : ∀ C u S, x' C u S → x C u S) : ExOk w E x' := fun C d v u S R H as a b c e => h C d v u S R H as a b c (q C u S e)
/-- a promise with an error -/
def dsX {α : Type} (pre : α → List Ent → List Own → Prop) (post : α → Ent → List Own → Prop) (ex : α → Addr → D → List Own → Prop) : DS := fun es S p x => ∃ a, pre a es S ∧ (∀ e S', post a e S' → p e S') ∧ ∀ C u S', ex a C u S' → x C u S'
section
variable {w : Wd} {S : List Own} {k : KE} {E : XK} {x : KX} {α : Type} {pre : α → List Ent → List Own → Prop} {post : α → Ent → List Own → Prop} {ex : α → Addr → D → List Own → Prop} {es : List Ent}
/-- data alone are handed over and come back -/
theorem r0X (hE : ExOk w E x) (a : α) (hpre : pre a es []) (h : ∀ e S', post a e S' → ∃ d, S' = [] ∧ e = .d d ∧ k (.d d) S) (hx : ∀ C u S', ex a C u S' → S' = [] ∧ x C u S) (hw : es.all (Ent.wf 0) = true := by rfl) : RS w (dsX pre post ex) E es S k := by
  refine rs_call hE [] Pick.nil (ren_wf0 hw) hw ⟨a, hpre, fun e S' q => ?_, fun C u S' q => ?_⟩
  · obtain ⟨d, rfl, rfl, h2⟩ := h e S' q
    refine ⟨[], [], rfl, rfl, by simp, ?_⟩
    show k (.d d) (wb S [] [] ++ [])
    rw [List.append_nil]
    simpa [wb] using h2
  · obtain ⟨rfl, h2⟩ := hx C u S' q
    refine ⟨[], [], rfl, rfl, by simp, ?_⟩
    show x C u (wb S [] [] ++ [])
    rw [List.append_nil]
    simpa [wb] using h2
/-- a new object whose __init__ may raise -/
theorem mk0X {Γ : Env} {C : Addr} {t : TA} (hE : ExOk w E x) (h : LA w t Γ S fun es S1 => es.all (Ent.wf 0) = true ∧ ∃ a, pre a (.own 0 :: es) [.ins C []] ∧ (∀ e S', post a e S' → e = .d .non ∧ ∃ gs, S' = [.ins C gs] ∧ k (.d (.obj C gs)) S1) ∧ ∀ C' u S', ex a C' u S' → S' ≠ [] ∧ x C' u S1) : LE w (tMake C (spD w.K (dsX pre post ex)) [] E t) Γ S k :=
  le_make hE fun σ R H as Q rl s c => h σ R H as Q rl s fun vs es S' R' H' as' a1 a2 a3 a4 ⟨q1, a, q2, q3, q4⟩ => c vs es S' R' H' as' a1 a2 a3 a4 ⟨q1, a, q2, q3, q4⟩
end

/-! ### catching -/
theorem Rel.root {w : Wd} {R H : Hp} {as : List Addr} {S : List Own} (rl : Rel w R H as S) : Rel { w with R0 := R } R H as S :=
  ⟨Sub.refl _, rl.sub, rl.keep, rl.there, rl.pre, fun b o e => .inl e, rl.len, rl.reg, rl.dist⟩
theorem Rel.unroot {w : Wd} {R H R' H' : Hp} {as as' : List Addr} {S S' : List Own} (rl : Rel w R H as S) (r : Rel { w with R0 := R } R' H' as' S') : Rel w R' H' as' S' ∧ Sub R R' := by
  refine ⟨⟨rl.r0.trans r.r0, r.sub, r.keep, r.there, r.pre, fun b o e => ?_, r.len, r.reg, r.dist⟩, r.r0⟩
  rcases r.orig b o e with q | q
  · exact rl.orig b o q
  · exact .inr q
def tTry (K : PySem.W.Frag) (c : Value) (i : Nat) (tb : WX → TS) (ts : Addr → Value → Option Addr → TS) : TS := fun D σ H => tb (wAs K c i ts (fun _ _ _ _ => False) D) D σ H
theorem ps_try {X : Cx} {x n : Str} {c : Value} {i : Nat} {body suite : List Stmt} {b₀ : Stmt} {np pos pos' : Pos} {tb : WX → TS} {ts : Addr → Value → Option Addr → TS} (hN : X.N.Nodup) (hc : Names X x c)
    (hb : ∀ (W : WX) (pn : List (Addr × Obj)) (xe : Value → Shared → Prop), Takes (X.tr pn xe) W → PSs (X.tr pn xe) body (tb W))
    (hsu : ∀ (a : Addr) (oe : Obj) (cls : Value) (d : Option Addr) (pn : List (Addr × Obj)), Zc cls d oe → (∃ vs, oe.data = .fields vs) → PSs (X.suite a ((a, oe) :: pn)) (b₀ :: suite) (ts a cls d))
    (hs : X.stack = X.env :: X.outer := by rfl) (hf : X.env.frame = some X.env.locals := by rfl) (hi : X.N[i]? = some n := by rfl) (hln : X.env.kindOf n = some .local := by rfl) :
    PS X (.Try body [.ExceptHandler (some (.Name x np)) (some n) (b₀ :: suite) pos'] [] [] pos) (tTry X.K c i tb ts) :=
  ps_try_as hs hf hN hi hln hc (takes0 (X := X)) (fun W pn xe tk _ => hb W pn xe tk) hsu
theorem ls_try {w : Wd} {Γ : Env} {S : List Own} {G : GE} {c : Value} {i n : Nat} {tb : WX → TS} {ts : Addr → Value → Option Addr → TS} (x : KX)
    (hb : ∀ (r : Hp) (W : WX), ExOk { w with R0 := r } (EW n W) x → LS { w with R0 := r } (tb W) Γ S G)
    (hs : ∀ C u S1, x C u S1 → PySem.W.exmOne w.K (.ref C) c = some true ∧ ∀ a dd, LS w (ts a (.ref C) (some dd)) ((List.replicate n none).set i (some (.d (.exn a dd u)))) S1
      { nx := fun Γ S => G.nx (Γ.set i none) S, rt := G.rt, bk := fun Γ S => G.bk (Γ.set i none) S, ct := fun Γ S => G.ct (Γ.set i none) S }) (hn : Γ.length = n) : LS w (tTry w.K c i tb ts) Γ S G := fun D σ R H as rl s e => by
  refine hb R _ ?_ D σ R H as rl.root s ⟨fun Γ' S' σ' R' H' as' u a b q => e.nx Γ' S' σ' R' H' as' u (rl.unroot a).1 b q, fun v y S' R' H' as' u a b q => e.rt v y S' R' H' as' u (rl.unroot a).1 b q,
    fun Γ' S' σ' R' H' as' u a b q => e.bk Γ' S' σ' R' H' as' u (rl.unroot a).1 b q, fun Γ' S' σ' R' H' as' u a b q => e.ct Γ' S' σ' R' H' as' u (rl.unroot a).1 b q⟩
  intro C d v u S1 R1 H1 as1 rl1 hd hv hx σ1 hl
  obtain ⟨h1, h2⟩ := hs C u S1 hx
  obtain ⟨rl2, sb⟩ := rl.unroot rl1
  refine ⟨true, h1, fun _ a ha => ?_, fun z => Bool.noConfusion z⟩
  have st0 : Sts w.K R1 as1 σ1 (List.replicate n none) := ⟨by rw [List.length_replicate]; exact hl, fun j y q => by
    rw [List.getElem?_replicate] at q
    split at q <;> cases q⟩
  have st1 : Sts w.K R1 as1 (σ1.set i (some (.ref a))) ((List.replicate n none).set i (some (.d (.exn a d u)))) := st0.set i (Den.exn hd hv)
  have e2 := e.up sb
  refine h2 a d _ _ R1 H1 as1 rl2 st1 ⟨fun Γ' S' σ' R' H' as' u a b q => ?_, e2.rt, fun Γ' S' σ' R' H' as' u a b q => ?_, fun Γ' S' σ' R' H' as' u a b q => ?_⟩
  · exact e2.nx _ S' _ R' H' as' u a (b.wipe1 i) q
  · exact e2.bk _ S' _ R' H' as' u a (b.wipe1 i) q
  · exact e2.ct _ S' _ R' H' as' u a (b.wipe1 i) q

/-! ### asking a caught error -/
def rIsX (K : PySem.W.Frag) (a : Addr) (cls : Value) (d : Option Addr) : List V → Hp → VK → Prop := fun xs H Q => ∃ (C dd : Addr) (fs : List (Str × V)) (b : Bool), cls = .ref C ∧ d = some dd ∧ H dd = some (.xd fs) ∧ ExcC K C ∧
  ((∃ c cv, xs = [.ref a, c] ∧ ClsV c cv ∧ PySem.W.kitOne K (.ref C) cv = some b) ∨ ∃ tp cs us, xs = [.ref a, .ref tp] ∧ H tp = some (.tup cs) ∧ Paired ClsV cs us ∧ PySem.W.kitAny K (.ref C) us = some b) ∧ Q (.bl b) H
theorem inst_of {X : Cx} {a C dd : Addr} {oe : Obj} {pn pins : List (Addr × Obj)} {σ : St} {H : Hp} {s : Shared} {fs : List (Str × V)} (I : Inv (X.suite a ((a, oe) :: pn)) pins σ H s) (hz : Zc (.ref C) (some dd) oe) (hf : ∃ vs, oe.data = .fields vs) (hd : H dd = some (.xd fs)) :
    ∃ (od : Obj) (mA : Str → Option Value), PySem.W.InstAt s.heap a oe C (some od) ∧ (∀ nm, PySem.W.lookIn nm od = some (mA nm)) ∧ ∀ f, RelO (fs.lookup f) (mA f) := by
  obtain ⟨g, _⟩ := I.pin (a, oe) (List.mem_append_left _ List.mem_cons_self)
  obtain ⟨vs, hv⟩ := hf
  obtain ⟨mA, hns, hr⟩ := (show ObjOk X.prog X.w H s.heap dd (.xd fs) from I.hok dd _ hd)
  obtain ⟨od, ho, hl⟩ := lookIn_ns hns
  exact ⟨od, mA, ⟨g, hz.1, by unfold PySem.W.notCls; rw [hv] <;> rfl, by rw [hz.2]; exact ho⟩, hl, hr⟩
theorem call_isX {X : Cx} {a : Addr} {oe : Obj} {cls : Value} {d : Option Addr} {pn : List (Addr × Obj)} (hz : Zc cls d oe) (hf : ∃ vs, oe.data = .fields vs) : CallR (X.suite a ((a, oe) :: pn)) (.builtin "isinstance") (rIsX X.K a cls d) := by
  intro pins s σ H xs us Q I r h
  obtain ⟨C, dd, fs, b, rfl, rfl, hd, hC, hk, q⟩ := h
  obtain ⟨od, mA, J, _, _⟩ := inst_of I hz hf hd
  have hcl : (PySem.W.clsIn X.K C).isSome = true := by
    obtain ⟨cd, hc, _⟩ := PySem.W.any_some hC.hd
    rw [hc]; rfl
  have Z := PySem.W.kitx_exc (x := a) (ox := oe) (od := some od) hcl hC.hg hC.hk hC.hs hC.ha hC.hn hC.ht hC.hm
  rcases hk with ⟨c, cv, rfl, hc, e⟩ | ⟨tp, cs, ws, rfl, hT, hc, e⟩
  · obtain ⟨u1, u2, rfl, r1, r2⟩ := vals2 r
    cases (show u1 = Value.ref a from r1)
    have e2 := hc.eq r2
    subst e2
    exact PySem.W.kia_one Z I.kIn J e (fun z => nomatch z) fun tk => ⟨.bl b, H, I.kept (t' := tk) fun _ _ z => z, rfl, q⟩
  · obtain ⟨u1, u2, rfl, r1, r2⟩ := vals2 r
    cases (show u1 = Value.ref a from r1)
    cases (show u2 = Value.ref tp from r2)
    obtain ⟨_, its, rv, o, h1, h2, n, h3⟩ := (show ObjOk X.prog X.w H s.heap tp (.tup cs) from I.hok tp _ hT)
    have e3 := ClsV.all hc rv
    subst e3
    obtain ⟨oc, od, dt, sl⟩ := o
    simp only at h2 h3
    subst h2 h3
    exact PySem.W.kia_tup Z I.kIn J h1 e (fun z => nomatch z) fun tk => ⟨.bl b, H, I.kept (t' := tk) fun _ _ z => z, rfl, q⟩
theorem b_isX {X : Cx} {a : Addr} {oe : Obj} {cls : Value} {d : Option Addr} {pn : List (Addr × Obj)} {e1 e2 : Expr} {te1 te2 : TE} {p pos : Pos} (K : PySem.W.Frag) (hz : Zc cls d oe) (hf : ∃ vs, oe.data = .fields vs) (hm : X.mg "isinstance" = none) (h1 : PE (X.suite a ((a, oe) :: pn)) e1 te1) (h2 : PE (X.suite a ((a, oe) :: pn)) e2 te2)
    (hg : Gl X "isinstance" := by rfl) (hs : starEach [e1, e2] X.env = (false, eval e1 X.env) :: starEach [e2] X.env := by rfl) (hs2 : starEach [e2] X.env = (false, eval e2 X.env) :: starEach [] X.env := by rfl) (hpl : (backTo pos (starEach [e2] X.env)).any (·.1) = false := by rfl) (hK : X.K = K := by rfl) :
    PE (X.suite a ((a, oe) :: pn)) (.Call (.Name "isinstance" p) [e1, e2] [] pos) (tCB (rIsX K a cls d) (tCons te1 (tCons te2 tNil))) := by
  subst hK
  exact pe_callB (X := X.suite a ((a, oe) :: pn)) (call_isX hz hf) hg hm (by decide +kernel) (pa_cons h1 (pa_cons h2 pa_nil hs2) hs) (he := hs) (hpl := hpl)
def tXv (K : PySem.W.Frag) (a : Addr) (cls : Value) (d : Option Addr) (f : Str) (te : TE) : TE := fun σ H Q => te σ H fun x H1 => x = .ref a ∧ ∃ (C dd : Addr) (fs : List (Str × V)) (v : V), cls = .ref C ∧ XfC K C ∧ PySem.W.findIn K (.ref C) f = some none ∧ d = some dd ∧ H1 dd = some (.xd fs) ∧ fs.lookup f = some v ∧ Q v H1
theorem pe_xv {X : Cx} {a : Addr} {oe : Obj} {cls : Value} {d : Option Addr} {pn : List (Addr × Obj)} {e : Expr} {te : TE} {pos : Pos} {n : Str} (K : PySem.W.Frag) (hz : Zc cls d oe) (hf : ∃ vs, oe.data = .fields vs) (he : PE (X.suite a ((a, oe) :: pn)) e te)
    (hb : attributeBase e n X.env (eval e X.env) = eval e X.env := by rfl) (hK : X.K = K := by rfl) : PE (X.suite a ((a, oe) :: pn)) (.Attribute e n pos) (tXv K a cls d n te) := by
  subst hK
  refine ⟨fun pins s σ H Q I h => attr_of hb (thn (he.run pins s σ H _ I h) fun u s1 hh => ?_)⟩
  obtain ⟨x, H1, I1, rx, rfl, C, dd, fs, v, rfl, T, hno, rfl, ea, l, q⟩ := hh
  cases (show u = Value.ref a from rx)
  obtain ⟨od, mA, J, hl, hr⟩ := inst_of I1 hz hf ea
  obtain ⟨z, hu, ru⟩ := RelO.some_of (v := v) (o := mA n) (by rw [← l]; exact hr n)
  exact HandSPX.exc_get I1.kIn J T.ga T.gg T.exC (PySem.W.findObj_own T.hdC hno rfl (by rw [hl, hu])) (handed_of ru) ⟨v, H1, I1.tok _, ru, q⟩
section
variable {w : Wd} {Γ : Env} {S : List Own} {k : KE} {a dd C : Addr} {u : D} {te : TE}
theorem xd_at {R H : Hp} {as : List Addr} {v : V} (rl : Rel w R H as S) (h : EntOk w.K R as v (.d (.exn a dd u))) : v = .ref a ∧ ∃ z, H dd = some (.xd [(("value" : Str), z)]) ∧ Den w.K R z u := by
  have h' : Den w.K R v (.exn a dd u) := h
  cases h' with
  | exn h1 h2 => exact ⟨rfl, _, rl.sub _ _ h1, h2⟩
def clsD : D → Option Value
  | .cls C => some (.ref C)
  | .ty n => some (.type n)
  | _ => none
theorem clsD_v {K : PySem.W.Frag} {R : Hp} {v : V} {c : D} {cv : Value} (h : Den K R v c) (e : clsD c = some cv) : ClsV v cv := by
  cases h with
  | cls C => cases e; exact .own C
  | ty n => cases e; exact .ty n
  | _ => cases e
def clsDs : List D → Option (List Value)
  | [] => some []
  | c :: cs => (clsD c).bind fun v => (clsDs cs).map (v :: ·)
theorem clsDs_v {K : PySem.W.Frag} {R : Hp} : ∀ {vs : List V} {cs : List D} {cvs : List Value}, Dens K R vs cs → clsDs cs = some cvs → Paired ClsV vs cvs
  | _, _, _, .nil, e => by cases e; exact .nil
  | _, _, _, .cons (d := c) (ds := cs) h t, e => by
    simp only [clsDs, Option.bind_eq_some_iff, Option.map_eq_some_iff] at e
    obtain ⟨y, h1, ys, h2, h3⟩ := e
    subst h3
    exact .cons (clsD_v h h1) (clsDs_v t h2)
theorem rc_isX {c : D} {cv : Value} {b : Bool} (hC : ExcC w.K C) (hc : clsD c = some cv) (hk : PySem.W.kitOne w.K (.ref C) cv = some b) (q : k (.d (.bl b)) S) : RC w (rIsX w.K a (.ref C) (some dd)) [.d (.exn a dd u), .d c] S k := fun R H as us Q rl hu cn => by
  match us, hu with
  | [v, z], ⟨h1, h2, _⟩ =>
    obtain ⟨rfl, y, h3, _⟩ := xd_at rl h1
    exact ⟨C, dd, _, b, rfl, rfl, h3, hC, .inl ⟨z, cv, rfl, clsD_v h2 hc, hk⟩, cn _ _ S R H as rl (Sub.refl _) (Pre.refl _) (ok_d (Den.bl b)) q⟩
theorem rc_isXT {cs : List D} {cvs : List Value} {b : Bool} (hC : ExcC w.K C) (hc : clsDs cs = some cvs) (hk : PySem.W.kitAny w.K (.ref C) cvs = some b) (q : k (.d (.bl b)) S) : RC w (rIsX w.K a (.ref C) (some dd)) [.d (.exn a dd u), .d (.tup cs)] S k := fun R H as us Q rl hu cn => by
  match us, hu with
  | [v, z], ⟨h1, h2, _⟩ =>
    obtain ⟨rfl, y, h3, _⟩ := xd_at rl h1
    have h2' : Den w.K R z (.tup cs) := h2
    cases h2' with
    | tup h4 h5 => exact ⟨C, dd, _, b, rfl, rfl, h3, hC, .inr ⟨_, _, cvs, rfl, rl.sub _ _ h4, clsDs_v h5 hc, hk⟩, cn _ _ S R H as rl (Sub.refl _) (Pre.refl _) (ok_d (Den.bl b)) q⟩
theorem le_xv (hX : XfC w.K C) (hno : PySem.W.findIn w.K (.ref C) "value" = some none) (h : LE w te Γ S fun e S1 => e = .d (.exn a dd u) ∧ k (.d u) S1) : LE w (tXv w.K a (.ref C) (some dd) "value" te) Γ S k := fun σ R H as Q rl s c =>
  h σ R H as _ rl s fun v e S1 R1 H1 as1 rl1 s1 p1 e1 ⟨h1, h2⟩ => by
    subst h1
    obtain ⟨rfl, z, h3, h4⟩ := xd_at rl1 e1
    exact ⟨rfl, C, dd, _, z, rfl, hX, hno, rfl, h3, by simp, c _ _ S1 R1 H1 as1 rl1 s1 p1 (ok_d h4) h2⟩
end
end Gm
/-! dicts of the module, least and greatest, enumerate, comprehensions over displays -/
namespace Gm
open PySem L2

/-! ### d.get(k) of a written dict -/
structure KD (K : PySem.W.Frag) (w0 : World) (a : Addr) : Prop where
  ex : ∃ es n, K.lookup a = some ⟨.type "dict", none, .dict es n, #[]⟩ ∧ PySem.W.KeysLit w0.params es.toList
  sys : (a == sysModules) = false
structure KGet (K : PySem.W.Frag) (a : Addr) (x : Str) (v : V) : Prop where
  ex : ∃ u : Option Value, PySem.W.nsIn K a x = some u ∧ RelV v (u.getD .none)
def tKGet (K : PySem.W.Frag) (w0 : World) (td ty : TE) : TE := fun σ H Q => td σ H fun x H1 => ∃ a, x = .ref a ∧ KD K w0 a ∧ ty σ H1 fun y H2 => ∃ z v, y = .str z ∧ KGet K a z v ∧ Q v H2
section
variable {X : Cx} {o e : Expr} {apos cpos : Pos} {td ty : TE}
theorem pe_kget (ho : PE X o td) (he : PE X e ty)
    (hb : attributeBase o "get" X.env (eval o X.env) = eval o X.env := by rfl)
    (hfew : ((backTo cpos (starEach [e] X.env)).all (fun x => !x.1) && (backToKw cpos (keywordEach [] X.env)).all (fun x => x.1.isSome)
      && decide (([e] : List Expr).length + ([] : List Keyword).length + (if ([] : List Keyword).isEmpty then 0 else 1) < 30)) = true := by rfl)
    (hline : (apos.endLine == cpos.line) = true := by rfl)
    (htrees : backTo cpos (starEach [e] X.env) = [(false, eval e X.env)] := by rfl) :
    PE X (.Call (.Attribute o "get" apos) [e] [] cpos) (tKGet X.K X.w td ty) := by
  refine ⟨fun pins s σ H Q I h => ?_⟩
  refine wpAny_Call_method hb hfew hline PySem.F.plainAttrs_dict PySem.F.slot_dict_get PySem.F.type_dict_get (thn (ho.run pins s σ H _ I h) fun u s1 ⟨x, H1, I1, rx, a, ex, d, q1⟩ => ?_)
  subst ex
  obtain rfl : u = Value.ref a := rx
  obtain ⟨⟨es, n, hl, hk⟩, hsys⟩ := d
  have hm := PySem.W.mapOf_K (prog := X.prog) (w := X.w) I1.kIn hl hk
  refine ⟨hm.typeIs, hm.noDict, ?_⟩
  rw [htrees]
  refine Calls.callWith_builtin rfl (Calls.evalArgs_plain (Calls.spliced_cons (thn (he.run pins s1 σ H1 _ I1 q1) fun iv s2 ⟨y, H2, I2, ry, z, v, ey, g, q2⟩ => Calls.spliced_nil ?_)))
  subst ey
  obtain ⟨t, rfl⟩ := (show ∃ t, iv = Value.str z t from ry)
  obtain ⟨u, h1, h2⟩ := g.ex
  have hm2 := PySem.W.mapOf_K (prog := X.prog) (w := X.w) I2.kIn hl hk
  refine call_meetsIn PySem.F.slot_dict_get hm2.typeIs PySem.F.entry_dict_get (PySem.F.args_dict_get_2 _ _) (meets_dict_get (strKind X.prog X.w) a (strKind_is X.prog X.w z t) hsys) ⟨_, hm2, ⟨v, H2, I2.tok _, ?_, q2⟩⟩
  rw [PySem.W.find_K hl h1]
  exact h2
end
section
variable {w : Wd} {Γ : Env} {S : List Own} {k : KE} {ta tb te : TE}
theorem den_flat {K : PySem.W.Frag} {R : Hp} {v : V} {d : D} (h : flatD d = some v) : Den K R v d := by
  cases d <;> simp [flatD] at h <;> subst h <;> constructor
theorem le_kget {w0 : World} (h : LE w ta Γ S fun x S1 => ∃ a, x = .d (.cls a) ∧ KD w.K w0 a ∧ LE w tb Γ S1 fun y S2 => ∃ z v d, y = .d (.str z) ∧ KGet w.K a z v ∧ flatD d = some v ∧ k (.d d) S2) : LE w (tKGet w.K w0 ta tb) Γ S k := fun σ R H as Q rl s c => by
  refine h σ R H as _ rl s fun u x S1 R1 H1 as1 rl1 s1 p1 e1 ⟨a, hx, hd, h1⟩ => ?_
  subst hx
  cases e1
  refine ⟨a, rfl, hd, h1 σ R1 H1 as1 _ rl1 (s.mono s1 p1) fun y e S2 R2 H2 as2 rl2 s2 p2 e2 ⟨z, v, d, hy, hg, hf, hk⟩ => ?_⟩
  subst hy
  cases e2
  exact ⟨z, v, rfl, hg, c _ _ S2 R2 H2 as2 rl2 (s1.trans s2) (p1.trans p2) (ok_d (den_flat hf)) hk⟩
end

/-! ### min, max -/
def gMinT (K : PySem.W.Frag) : List V → Hp → VK → Prop := fun vs H Q => ∃ (a : Addr) (n : Int) (ns : List Int), vs = [V.ref a] ∧ SqT K H a ((n :: ns).map V.int) ∧ Q (.int (ns.foldl min n)) H
theorem reads_ints (h : Heap) : ∀ {vs : List Value} {ns : List Int}, Vals (ns.map V.int) vs → ReadsAll h vs (ns.map PyData.int) []
  | _, [], .nil => .nil
  | _, n :: ns, .cons r t => by
    obtain ⟨k, rfl⟩ := r
    exact ReadsAll.cons (as := []) (bs := []) (.int n k) (reads_ints h t)
theorem alike_ints (ns : List Int) : PySem.W.AlikeAll (ns.map PyData.int) := by
  constructor
  · intro x hx y hy
    obtain ⟨a, _, rfl⟩ := List.mem_map.mp hx
    obtain ⟨b, _, rfl⟩ := List.mem_map.mp hy
    rfl
  · intro x hx z
    obtain ⟨a, _, rfl⟩ := List.mem_map.mp hx
    cases z
section
variable {X : Cx}
theorem c_minT (hc : X.calm = true) (hu : X.A.units + 1 < cLine) : CallR X (.builtin "min") (gMinT X.K) := by
  intro pins s σ H vs us Q I r h
  obtain ⟨a, n, ns, rfl, hs, q⟩ := h
  obtain ⟨its, rv, p, hz⟩ := I.tuple hs
  rw [Vals.ref1 r]
  have rr : ReadsAll s.heap its.toArray.toList (PyData.int n :: ns.map PyData.int) [] := reads_ints s.heap (ns := n :: ns) rv
  refine PySem.W.min_tuple_data (I.ok.hd hc) p rr (alike_ints (n :: ns)) ?_ fun i v h' tk bs hi hr hk => ?_
  · rw [show PyData.depthAll (PyData.int n :: ns.map PyData.int) = 0 from depth_ints (n :: ns)]; exact hu
  · rw [PySem.W.minD_ints] at hr
    cases hr
    exact ⟨.int _, H, I.kept hk, ⟨_, rfl⟩, q⟩
end
section
variable {w : Wd} {Γ : Env} {S : List Own} {k : KE} {ta tb te : TE} {G : GE} {t1 t2 : TS}
theorem lst_ints {K : PySem.W.Frag} {R H : Hp} {x : Ent} {s : List Int} {v : V} {as : List Addr} (hx : IsLst x S (s.map D.int)) (rl : Rel w R H as S) (e : EntOk w.K R as v x) : ∃ a, v = .ref a ∧ SqL w.K H a (s.map V.int) := by
  obtain ⟨a, vs, q1, q2, q3⟩ := isLst_at hx rl e
  have := q3.ints
  subst this
  exact ⟨a, q1, SqL.of q2⟩
theorem rc_minL {x : Ent} {s : List Int} (hx : IsLst x S (s.map D.int)) (hs : 0 < s.length) (q : ∀ m, m ∈ s → (∀ y ∈ s, m ≤ y) → k (.d (.int m)) S) : RC w (rMin w.K) [x] S k := fun R H as us Q rl hu c => by
  obtain ⟨v, rfl, hv⟩ := one_ent hu
  obtain ⟨a, rfl, h⟩ := lst_ints (K := w.K) hx rl hv
  exact ⟨a, s, rfl, h, hs, fun m h1 h2 => c _ _ S R H as rl (Sub.refl _) (Pre.refl _) (ok_d (Den.int m)) (q m h1 h2)⟩
theorem rc_maxL {x : Ent} {s : List Int} (hx : IsLst x S (s.map D.int)) (hs : 0 < s.length) (q : ∀ m, m ∈ s → (∀ y ∈ s, y ≤ m) → k (.d (.int m)) S) : RC w (rMax w.K) [x] S k := fun R H as us Q rl hu c => by
  obtain ⟨v, rfl, hv⟩ := one_ent hu
  obtain ⟨a, rfl, h⟩ := lst_ints (K := w.K) hx rl hv
  exact ⟨a, s, rfl, h, hs, fun m h1 h2 => c _ _ S R H as rl (Sub.refl _) (Pre.refl _) (ok_d (Den.int m)) (q m h1 h2)⟩
theorem rc_minT {n : Int} {ns : List Int} (q : k (.d (.int (ns.foldl min n))) S) : RC w (gMinT w.K) [.d (.tup ((n :: ns).map D.int))] S k := fun R H as us Q rl hu c => by
  obtain ⟨v, rfl, hv⟩ := one_ent hu
  cases hv with
  | tup ha hd =>
    have := Dens.ints (ns := n :: ns) hd
    subst this
    exact ⟨_, n, ns, rfl, SqT.of (rl.sub _ _ ha), c _ _ S R H as rl (Sub.refl _) (Pre.refl _) (ok_d (Den.int _)) q⟩
/-- tuple(..) -/
def gTupl (K : PySem.W.Frag) : List V → Hp → VK → Prop := fun xs H Q => ∃ p ys, xs = [.ref p] ∧ ((SqL K H p ys ∧ ∀ l, H l = none → Q (.ref l) (upd H l (.tup ys))) ∨ (SqT K H p ys ∧ Q (.ref p) H))
theorem c_tuple {X : Cx} : CallR X (.type "tuple") (gTupl X.K) := call_tuple_of
theorem rc_tupleL {x : Ent} {ds : List D} (hx : IsLst x S ds) (q : k (.d (.tup ds)) S) : RC w (gTupl w.K) [x] S k := fun R H as us Q rl hu c => by
  obtain ⟨v, rfl, hv⟩ := one_ent hu
  obtain ⟨a, vs, rfl, q2, q3⟩ := isLst_at hx rl hv
  refine ⟨a, vs, rfl, .inl ⟨SqL.of q2, fun l hl => ?_⟩⟩
  obtain ⟨rl2, s2⟩ := rl.alloc hl (.tup vs)
  exact c _ _ S _ _ as rl2 s2 (Pre.refl _) (ok_d (Den.tup upd_same (q3.mono s2))) q
theorem for_enum {K : PySem.W.Frag} {a : Addr} {g : TG} {tb : TS} {D : Ends} {σ : St} {H : Hp} (n : Nat) (Pv : Nat → St → Hp → Prop) (h0 : Pv 0 σ H) (hl : ∀ i σ H, i ≤ n → Pv i σ H → ∃ xs, SqL K H a xs ∧ xs.length = n)
    (hs : ∀ i σ H T x, i < n → Pv i σ H → (∀ xs, SqL K H a xs → xs[i]? = some x) → H T = none → g (.ref T) σ (upd H T (.tup [.int (i : Nat), x])) fun σ2 H2 => tb { D with nx := Pv (i + 1), ct := Pv (i + 1), bk := D.nx } σ2 H2) (hd : ∀ σ H, Pv n σ H → D.nx σ H) :
    ∃ W : Nat → Nat → St → Hp → Prop, (∃ m, W 0 m σ H) ∧ ∀ i m σ H, W i m σ H →
      ((Ite K a).stop i H ∧ D.nx σ H) ∨ ((Ite K a).go i H ∧ ∃ N : St → Hp → Prop, (∀ σ' H', N σ' H' → ∃ m', m' < m ∧ W (i + 1) m' σ' H') ∧ ∀ x H', (Ite K a).yld i H x H' → g x σ H' fun σ2 H2 => tb { D with nx := N, ct := N, bk := D.nx } σ2 H2) := by
  refine ⟨fun i m σ H => i ≤ n ∧ m = n - i ∧ Pv i σ H, ⟨n, Nat.zero_le _, rfl, h0⟩, fun i m σ H ⟨hi, hm, hP⟩ => ?_⟩
  obtain ⟨xs, hq, hx⟩ := hl i σ H hi hP
  by_cases h : i = n
  · subst h
    exact .inl ⟨⟨xs, hq, by omega⟩, hd σ H hP⟩
  · have hlt : i < n := by omega
    refine .inr ⟨⟨xs, xs[i]'(by omega), hq, List.getElem?_eq_getElem _⟩, Pv (i + 1), fun σ' H' hp => ⟨n - (i + 1), by omega, by omega, rfl, hp⟩, ?_⟩
    rintro x H' ⟨T, y, rfl, hT, rfl, hy⟩
    exact hs i σ H T y hlt hP hy hT
/-! ### for i, x in enumerate(xs) -/
def IsLstB (w : Wd) (x : Ent) (S : List Own) (ds : List D) : Prop := x = .d (.lst ds) ∨ ∃ i, x = .own i ∧ i < w.as0.length ∧ S[i]? = some (.lst ds)
theorem IsLstB.is {x : Ent} {ds : List D} (h : IsLstB w x S ds) : IsLst x S ds := by
  rcases h with h | ⟨i, h1, _, h2⟩
  · exact .inl h
  · exact .inr ⟨i, h1, h2⟩
theorem ls_forE {t : TA} {g : TG} (h : LA w t Γ S fun es S1 => ∃ x ds, es = [x] ∧ IsLstB w x S1 ds ∧ ∃ I : Nat → Env → List Own → Prop, I 0 Γ S1 ∧ (∀ i Γ1 S2, I i Γ1 S2 → IsLstB w x S2 ds) ∧
    (∀ i d Γ1 S2, ds[i]? = some d → I i Γ1 S2 → LG w g (.d (.tup [.int i, d])) Γ1 S2 fun Γ2 S3 => LS w t1 Γ2 S3 { G with nx := I (i + 1), ct := I (i + 1), bk := G.nx }) ∧ (∀ Γ1 S2, I ds.length Γ1 S2 → G.nx Γ1 S2)) : LS w (tFor (iEnum w.K t) g t1) Γ S G := fun D σ R H as rl s e => by
  refine h σ R H as _ rl s fun vs es S1 R1 H1 as1 rl1 s1 p1 e1 ⟨x, ds, h1, hx, I, i0, hI, is, iE⟩ => ?_
  subst h1
  obtain ⟨v, rfl, hv⟩ := one_ent e1
  obtain ⟨a, rfl, ha, back⟩ : ∃ a, v = .ref a ∧ (∃ xs, SqL w.K H1 a xs) ∧ ∀ (R' H' : Hp) (as' : List Addr) (S' : List Own), Sub R1 R' → Rel w R' H' as' S' → IsLstB w x S' ds → ∃ us, SqL w.K H' a us ∧ us.length = ds.length ∧ Dens w.K R' us ds := by
    rcases hx with rfl | ⟨i, rfl, hi, hS⟩
    · cases hv with
      | lst hR hD => exact ⟨_, rfl, ⟨_, SqL.of (rl1.sub _ _ hR)⟩, fun R' H' as' S' sb r' _ => ⟨_, SqL.of (r'.sub _ _ (sb _ _ hR)), hD.len, hD.mono sb⟩⟩
    · obtain ⟨a, vs, q1, q2, q3⟩ := isLst_at (.inr ⟨i, rfl, hS⟩) rl1 hv
      refine ⟨a, q1, ⟨vs, SqL.of q2⟩, fun R' H' as' S' sb r' hx' => ?_⟩
      obtain ⟨b, hb, hv'⟩ := hv
      have ea : w.as0[i]? = some a := by
        obtain ⟨c, hc⟩ : ∃ c, w.as0[i]? = some c := ⟨_, List.getElem?_eq_getElem hi⟩
        have := rl1.pre i c hc
        rw [hb] at this
        cases this
        rw [q1] at hv'; cases hv'; exact hc
      rcases hx' with z | ⟨j, z, hj, hS'⟩
      · cases z
      · cases z
        obtain ⟨c, us, w1, w2, w3⟩ := isLst_at (.inr ⟨i, rfl, hS'⟩) r' (show EntOk w.K R' as' (.ref a) (.own i) from ⟨a, r'.pre i a ea, rfl⟩)
        cases w1
        exact ⟨us, SqL.of w2, w3.len, w3⟩
  obtain ⟨xs0, hx0⟩ := ha
  refine ⟨a, xs0, rfl, hx0, ?_⟩
  refine for_enum ds.length (fun i σ' H' => ∃ Γ' S' R' as', Sub R1 R' ∧ Rel w R' H' as' S' ∧ Sts w.K R' as' σ' Γ' ∧ I i Γ' S') ⟨Γ, S1, R1, as1, Sub.refl _, rl1, s.mono s1 p1, i0⟩ ?_ ?_ ?_
  · rintro i σ2 H2 hi ⟨Γ2, S2, R2, as2, u2, rl2, st2, i2⟩
    obtain ⟨us, h1, h2, h4⟩ := back R2 H2 as2 S2 u2 rl2 (hI i Γ2 S2 i2)
    exact ⟨us, h1, h2⟩
  · rintro i σ2 H2 T x hi ⟨Γ2, S2, R2, as2, u2, rl2, st2, i2⟩ hq hT
    obtain ⟨us, h1, h2, h4⟩ := back R2 H2 as2 S2 u2 rl2 (hI i Γ2 S2 i2)
    obtain ⟨d, hd1, hd2⟩ := h4.get2 (hq us h1)
    obtain ⟨rl3, s3⟩ := rl2.alloc hT (.tup [.int (i : Nat), x])
    refine is i d Γ2 S2 hd1 i2 _ σ2 _ _ as2 _ rl3 (st2.mono s3 (Pre.refl _)) (ok_d (Den.tup upd_same (.cons (.int _) (.cons (hd2.mono s3) .nil)))) fun Γ3 S3 σ3 R3 H3 as3 rl4 s4 p4 st4 q => ?_
    have up := (u2.trans s3).trans s4
    have e2 := e.up (s1.trans up)
    exact q _ σ3 R3 H3 as3 rl4 st4 ⟨fun Γ' S' σ' R' H' as' u a b hi => ⟨Γ', S', R', as', up.trans u, a, b, hi⟩, e2.rt, e2.nx, fun Γ' S' σ' R' H' as' u a b hi => ⟨Γ', S', R', as', up.trans u, a, b, hi⟩⟩
  · rintro σ2 H2 ⟨Γ2, S2, R2, as2, u2, rl2, st2, i2⟩
    exact e.nx Γ2 S2 σ2 R2 H2 as2 (s1.trans u2) rl2 st2 (iE Γ2 S2 i2)
end
/-! ### two ways that go on alike -/
section
variable {w : Wd} {Γ : Env} {S : List Own} {G : GE} {t1 t2 : TS}
theorem ls_nx (M : Env → List Own → Prop) (h : LS w t1 Γ S { G with nx := M }) (q : ∀ Γ1 S1, M Γ1 S1 → G.nx Γ1 S1) : LS w t1 Γ S G := fun D σ R H as rl s e =>
  h D σ R H as rl s ⟨fun Γ1 S1 σ1 R1 H1 as1 u r1 s1 z => e.nx Γ1 S1 σ1 R1 H1 as1 u r1 s1 (q Γ1 S1 z), e.rt, e.bk, e.ct⟩
theorem ls_ifB {c : TT} (b : Bool) (h : LT w c Γ S fun b' S1 => b' = b ∧ S1 = S) (h1 : b = true → LS w t1 Γ S G) (h2 : b = false → LS w t2 Γ S G) : LS w (tIfS c t1 t2) Γ S G :=
  ls_if fun σ R H as Q rl s k => h σ R H as Q rl s fun b' S1 R1 H1 as1 a1 a2 a3 ⟨e1, e2⟩ => k b' S1 R1 H1 as1 a1 a2 a3 (by subst e1 e2; exact ⟨h1, h2⟩)
theorem if_join {a b : Prop} (M : Env → List Own → Prop) (h1 : a → LS w t1 Γ S { G with nx := M }) (h2 : b → LS w t2 Γ S { G with nx := M }) (q : ∀ Γ1 S1, M Γ1 S1 → G.nx Γ1 S1) : (a → LS w t1 Γ S G) ∧ (b → LS w t2 Γ S G) :=
  ⟨fun z => ls_nx M (h1 z) q, fun z => ls_nx M (h2 z) q⟩
end
/-! ### [e(v) for v in xs], xs data of some kind -/
section
variable {w : Wd} {Γ : Env} {S : List Own} {k : KE} {ta tb te : TE}
theorem le_lcLM {α : Type} {tl : TE} {v : Nat} {tt : TT} (f F : α → D) (h : LE w tl Γ S fun e S1 => ∃ xs : List α, e = .d (.lst (xs.map f)) ∧ xs.length ≤ sizeLine ∧ (∀ x acc, x ∈ xs → LcD w Γ v tt te (f x) (S1 ++ [.lst acc]) (F x)) ∧ k (.d (.lst (xs.map F))) S1) : LE w (tLc (iList w.K tl) (gName v) tt te [v]) Γ S k := by
  refine le_lcL (le_mono h fun e S1 ⟨xs, h1, h2, h3, h4⟩ => ⟨xs.map f, h1, fun i acc S2 => S2 = S1 ∧ acc = (xs.take i).map F, ⟨rfl, rfl⟩, ?_, ?_⟩)
  · rintro i d acc _ hd _ ⟨rfl, rfl⟩
    rw [List.getElem?_map] at hd
    obtain ⟨x, hx, rfl⟩ := Option.map_eq_some_iff.mp hd
    obtain ⟨hi, he⟩ := List.getElem?_eq_some_iff.mp hx
    refine lcd_turn (h3 x _ (List.mem_of_getElem? hx)) (by rw [List.length_map, List.length_take]; omega) ⟨rfl, ?_⟩
    rw [List.take_succ_eq_append_getElem hi, List.map_append, he]; rfl
  · rintro acc _ ⟨rfl, rfl⟩
    rw [List.length_map, List.take_length]
    exact h4
end
/-! ### [.. for v in [a, b, ..]] over things of any kind -/
section
variable {w : Wd} {Γ : Env} {S : List Own} {k : KE} {ta tb te : TE}
def LcE (w : Wd) (Γ : Env) (v : Nat) (tt : TT) (te : TE) (x : Ent) (acc : List D) (S2 : List Own) (N : List D → List Own → Prop) : Prop :=
  LT w tt (Γ.set v (some x)) (S2 ++ [.lst acc]) fun b S3 =>
    (b = true → LE w te (Γ.set v (some x)) S3 fun e S4 => ∃ d S5, e = .d d ∧ S4 = S5 ++ [.lst acc] ∧ S5.length = S2.length ∧ acc.length < sizeLine ∧ N (acc ++ [d]) S5) ∧
    (b = false → ∃ S5, S3 = S5 ++ [.lst acc] ∧ S5.length = S2.length ∧ N acc S5)
theorem lc_turnE {v : Nat} {tt : TT} {σ : St} {R1 R2 H2 : Hp} {as1 as2 : List Addr} {S2 : List Own} {acc : List D} {x : Ent} {u : V} {Dl : Addr} {N : List D → List Own → Prop} (st : Sts w.K R1 as1 σ Γ)
    (rl : Rel w R2 H2 as2 (S2 ++ [.lst acc])) (sb : Sub R1 R2) (pr : Pre as1 as2) (hD : as2[S2.length]? = some Dl) (hx : EntOk w.K R2 as2 u x) (h : LcE w Γ v tt te x acc S2 N) :
    gName v u (wipe σ [v]) H2 fun σ2 H3 => wipe σ2 [v] = wipe σ [v] ∧ tt σ2 H3 fun b H4 => if b = true then te σ2 H4 fun y H5 => ∃ acc, H5 Dl = some (.lst acc) ∧ acc.length < sizeLine ∧ LcP w R1 as1 S2.length Dl N (upd H5 Dl (.lst (acc ++ [y]))) else LcP w R1 as1 S2.length Dl N H4 := by
  have e1 : (σ.set v none).set v (some u) = σ.set v (some u) := List.set_set ..
  refine ⟨?_, ?_⟩
  · show ((wipe σ [v]).set v (some u)).set v none = σ.set v none
    show (((σ.set v none).set v (some u))).set v none = σ.set v none
    rw [List.set_set, List.set_set]
  · have st2 : Sts w.K R2 as2 ((wipe σ [v]).set v (some u)) (Γ.set v (some x)) := by
      show Sts w.K R2 as2 ((σ.set v none).set v (some u)) _
      rw [e1]
      exact (st.mono sb pr).set v hx
    refine h _ R2 H2 as2 _ rl st2 fun b S3 R3 H3 as3 rl3 s3 p3 q => ?_
    cases b with
    | true =>
      rw [if_pos rfl]
      refine q.1 rfl _ R3 H3 as3 _ rl3 (st2.mono s3 p3) fun y e S4 R4 H4 as4 rl4 s4 p4 e4 q4 => ?_
      obtain ⟨d, S5, rfl, rfl, hl, hz, hn⟩ := q4
      have hi : (S5 ++ [Own.lst acc])[S5.length]? = some (.lst acc) := List.getElem?_concat_length
      have ha : as4[S5.length]? = some Dl := by rw [hl]; exact p4 _ _ (p3 _ _ hD)
      obtain ⟨⟨z, vs, c1, c2⟩, _⟩ := rl4.reg _ _ _ hi ha (by intro z; cases z)
      refine ⟨vs, c1, by rw [c2.len]; exact hz, S5, R4, as4, acc ++ [d], ?_, (sb.trans s3).trans s4, (pr.trans p3).trans p4, ha, hl, hn⟩
      have rl5 := rl4.write (o' := .lst (acc ++ [d])) (u := .lst (vs ++ [y])) hi ha (by intro z; cases z) (by intro z; cases z) ⟨z, _, upd_same, c2.append (.cons e4 .nil)⟩
      have es : (S5 ++ [Own.lst acc]).set S5.length (.lst (acc ++ [d])) = S5 ++ [.lst (acc ++ [d])] := by
        rw [List.set_append_right _ _ (Nat.le_refl _), Nat.sub_self]; rfl
      rw [es] at rl5
      exact rl5
    | false =>
      rw [if_neg Bool.false_ne_true]
      obtain ⟨S5, rfl, hl, hn⟩ := q.2 rfl
      exact ⟨S5, R3, as3, acc, rl3, sb.trans s3, pr.trans p3, by rw [hl]; exact p3 _ _ hD, hl, hn⟩
theorem ents_get {K : PySem.W.Frag} {R : Hp} {as : List Addr} : ∀ {vs : List V} {es : List Ent} {i : Nat} {v : V}, EntsOk K R as vs es → vs[i]? = some v → ∃ e, es[i]? = some e ∧ EntOk K R as v e
  | [], [], _, _, _, e => by simp at e
  | _ :: _, _ :: _, 0, _, ⟨h, _⟩, e => by simp at e; subst e; exact ⟨_, rfl, h⟩
  | _ :: _, _ :: _, i + 1, _, ⟨_, t⟩, e => by
    obtain ⟨x, h1, h2⟩ := ents_get (i := i) t (by simpa using e)
    exact ⟨x, by simpa using h1, h2⟩
  | [], _ :: _, _, _, h, _ => h.elim
  | _ :: _, [], _, _, h, _ => h.elim
theorem le_lcE {ta : TA} {v : Nat} {tt : TT} (h : LA w ta Γ S fun es S1 => es.length ≤ sizeLine ∧ ∃ I : Nat → List D → List Own → Prop, I 0 [] S1 ∧
    (∀ i e acc S2, es[i]? = some e → S2.length = S1.length → I i acc S2 → LcE w Γ v tt te e acc S2 (I (i + 1))) ∧ (∀ acc S2, I es.length acc S2 → k (.d (.lst acc)) S2)) : LE w (tLc (iList w.K (tLst ta)) (gName v) tt te [v]) Γ S k := fun σ R H as Q rl s c => by
  refine h σ R H as _ rl s fun vs es S1 R0 H0 as1 rl0 s0 p1 e0 ⟨hz, I, i0, is, iE⟩ => ⟨by rw [e0.len]; exact hz, fun p hp => ?_⟩
  obtain ⟨rl1, sp⟩ := rl0.alloc hp (.lst vs)
  have e1 : EntsOk w.K (upd R0 p (.lst vs)) as1 vs es := e0.mono sp (Pre.refl _)
  have ha : upd R0 p (.lst vs) p = some (.lst vs) := upd_same
  have s1 := s0.trans sp
  generalize upd R0 p (.lst vs) = R1 at *
  generalize upd H0 p (.lst vs) = H1 at *
  refine ⟨p, rfl, ⟨vs, SqL.of (rl1.sub _ _ ha)⟩, fun Dl hD => ?_⟩
  refine lc_list (xs := vs) (fun i H => LcP w R1 as1 S1.length Dl (I i) H) (lc_begin rl1 hD i0) (fun i H2 hi q => ?_) (fun i x H2 hx q => ?_) fun H2 q => ?_
  · obtain ⟨S2, R2, as2, acc, rl2, sb, pr, ha2, hl, hi2⟩ := q
    exact SqL.of (rl2.sub _ _ (sb _ _ ha))
  · obtain ⟨S2, R2, as2, acc, rl2, sb, pr, ha2, hl, hi2⟩ := q
    obtain ⟨d, hd1, hd2⟩ := ents_get e1 hx
    have := lc_turnE (Dl := Dl) (s.mono s1 p1) rl2 sb pr ha2 (hd2.mono sb pr) (is i d acc S2 hd1 hl hi2)
    rw [hl] at this
    exact this
  · rw [e1.len] at q
    obtain ⟨acc, S', R', as', q1, q2, q3, q4, q5⟩ := lc_end rl1.len rl1.as0_le q
    exact c _ _ S' R' _ as' q1 (s1.trans q2) (p1.trans q3) (ok_d q4) (iE acc S' q5)
end
section
variable {X : Cx} {e : Expr} {p pos : Pos} {te : TE}
theorem b_minL (hm : X.mg "min" = none) (he : PE X e te) (hc : X.calm = true := by rfl) (hg : Gl X "min" := by rfl) (hs : starEach [e] X.env = (false, eval e X.env) :: starEach [] X.env := by rfl) : PE X (.Call (.Name "min" p) [e] [] pos) (tCB (rMin X.K) (tCons te tNil)) :=
  pe_callB (cr_min hc) hg hm (by decide +kernel) (pa_cons he pa_nil hs) (he := hs)
theorem b_maxL (hm : X.mg "max" = none) (he : PE X e te) (hc : X.calm = true := by rfl) (hg : Gl X "max" := by rfl) (hs : starEach [e] X.env = (false, eval e X.env) :: starEach [] X.env := by rfl) : PE X (.Call (.Name "max" p) [e] [] pos) (tCB (rMax X.K) (tCons te tNil)) :=
  pe_callB (cr_max hc) hg hm (by decide +kernel) (pa_cons he pa_nil hs) (he := hs)
theorem b_minT (hu : X.A.units + 64 < cLine) (hm : X.mg "min" = none) (he : PE X e te) (hc : X.calm = true := by rfl) (hg : Gl X "min" := by rfl) (hs : starEach [e] X.env = (false, eval e X.env) :: starEach [] X.env := by rfl) : PE X (.Call (.Name "min" p) [e] [] pos) (tCB (gMinT X.K) (tCons te tNil)) :=
  pe_callB (c_minT hc (by omega)) hg hm (by decide +kernel) (pa_cons he pa_nil hs) (he := hs)
theorem b_tuple (hm : X.mg "tuple" = none) (he : PE X e te) (hg : Gl X "tuple" := by rfl) (hs : starEach [e] X.env = (false, eval e X.env) :: starEach [] X.env := by rfl) : PE X (.Call (.Name "tuple" p) [e] [] pos) (tCB (gTupl X.K) (tCons te tNil)) :=
  pe_callTy c_tuple hg hm (by decide +kernel) (pa_cons he pa_nil hs) (he := hs)
end
/-! ### in -/
section
theorem sl_listB {X : Cx} (K : PySem.W.Frag) (hK : X.K = K := by rfl) : L2.SlR X (rSlL K) := by subst hK; exact sl_list
theorem sl_tupB {X : Cx} (K : PySem.W.Frag) (hK : X.K = K := by rfl) : L2.SlR X (rSlT K) := by subst hK; exact sl_tup
variable {w : Wd} {Γ : Env} {S : List Own} {k : KE}
theorem Dens.strs {K : PySem.W.Frag} {R : Hp} : ∀ {vs : List V} {as : List Str}, Dens K R vs (as.map D.str) → vs = as.map V.str
  | _, [], r => by cases r; rfl
  | _, n :: ns, r => by
    cases r with
    | cons h r => cases h; rw [Dens.strs r]; rfl
theorem inV_strs (a : Str) : ∀ as : List Str, inV (.str a) (as.map V.str) = decide (a ∈ as)
  | [] => by simp [inV]
  | b :: as => by
    have ih := inV_strs a as
    unfold inV at ih ⊢
    rw [List.map_cons, List.any_cons, ih]
    show ((b == a) || decide (a ∈ as)) = decide (a ∈ b :: as)
    rw [Bool.eq_iff_iff, Bool.or_eq_true, decide_eq_true_iff, decide_eq_true_iff, List.mem_cons, beq_iff_eq]
    exact ⟨fun h => h.imp Eq.symm id, fun h => h.imp Eq.symm id⟩
theorem rr_inStr {a : Str} {as : List Str} (q : k (.d (.bl (decide (a ∈ as)))) S) : RR w (rIn w.K false) (.d (.str a)) (.d (.tup (as.map D.str))) S k := fun R H as' u v Q rl hu hv c => by
  cases hu
  cases hv with
  | tup ha hd =>
    have := Dens.strs hd
    subst this
    refine ⟨_, _, rfl, .inr (SqT.of (rl.sub _ _ ha)), rfl, by simp [flatV], ?_⟩
    rw [if_neg Bool.false_ne_true, inV_strs]
    exact c _ _ S R H as' rl (Sub.refl _) (Pre.refl _) (ok_d (Den.bl _)) q
end
/-! ### for i in range(a, b, c) -/
section
variable {w : Wd} {Γ : Env} {S : List Own} {G : GE} {t1 : TS}
theorem ls_forC {ta : TA} {g : TG} (h : LA w ta Γ S fun es S1 => ∃ i j c n, es = [.d (.int i), .d (.int j), .d (.int c)] ∧ RgC i j c n ∧ ∃ I : Nat → Env → List Own → Prop, I 0 Γ S1 ∧
    (∀ (t : Nat) Γ1 S2, t < n → I t Γ1 S2 → LG w g (.d (.int (i + t * c))) Γ1 S2 fun Γ2 S3 => LS w t1 Γ2 S3 { G with nx := I (t + 1), ct := I (t + 1), bk := G.nx }) ∧ (∀ Γ1 S2, I n Γ1 S2 → G.nx Γ1 S2)) : LS w (tFor (iRng3 ta) g t1) Γ S G := fun D σ R H as rl s e => by
  refine h σ R H as _ rl s fun vs es S1 R1 H1 as1 rl1 s1 p1 e1 ⟨i, j, c, n, h1, hr, I, i0, is, iE⟩ => ?_
  subst h1
  match vs, e1 with
  | [x, y, z], ⟨q1, q2, q3, _⟩ =>
    cases q1; cases q2; cases q3
    refine ⟨i, j, c, n, rfl, hr, ?_⟩
    refine for_rangeC (fun i σ' H' => ∃ Γ' S' R' as', Sub R R' ∧ Rel w R' H' as' S' ∧ Sts w.K R' as' σ' Γ' ∧ I i Γ' S') ⟨Γ, S1, R1, as1, s1, rl1, s.mono s1 p1, i0⟩ ?_ ?_
    · rintro i σ2 H2 hi ⟨Γ2, S2, R2, as2, u2, rl2, st2, i2⟩
      refine is i Γ2 S2 hi i2 _ σ2 R2 H2 as2 _ rl2 st2 (Den.int _) fun Γ3 S3 σ3 R3 H3 as3 rl3 s3 p3 st3 q => ?_
      have up := u2.trans s3
      have e2 := e.up up
      exact q _ σ3 R3 H3 as3 rl3 st3 ⟨fun Γ' S' σ' R' H' as' u a b hi => ⟨Γ', S', R', as', up.trans u, a, b, hi⟩, e2.rt, e2.nx, fun Γ' S' σ' R' H' as' u a b hi => ⟨Γ', S', R', as', up.trans u, a, b, hi⟩⟩
    · rintro σ2 H2 ⟨Γ2, S2, R2, as2, u2, rl2, st2, i2⟩
      exact e.nx Γ2 S2 σ2 R2 H2 as2 u2 rl2 st2 (iE Γ2 S2 i2)
end
end Gm
/-! ranges of any size; // and % by a divisor of either sign -/
namespace Gm
open PySem PySem.Spec PyProof.Rows L2
theorem turn_long {P : Program} {w : World} {K : PySem.W.Frag} {tg : Expr} (it : Addr) (lo : Int) (n : Nat) : Turn P w K tg (Itr lo n) [it] it (fun i h => IsLongIter h it (lo + (i : Nat) * 1) ((n : Int) - (i : Nat)) 1) where
  mem := by simp
  obj := fun i h st b hb => by
    have e : b = it := by simpa using hb
    subst e
    exact ⟨_, st, fun v z => by
      have z' : Data.fields _ = Data.cell v := z
      cases z'⟩
  keep := fun i h h' st k => k it (by simp) _ st
  item := by
    intro X hP hw hK hc i pins s σ H E I hf st hg
    subst hP hw hK
    obtain ⟨f0, f1, f2, f3, f4, f5⟩ := hf it (by simp)
    have W := Walks.longrange (prog := X.prog) (w := X.w) (I.ok.hd hc) it lo 1 n
    refine W.item i s _ _ hg st fun v h' tk hv st' kk => ?_
    obtain ⟨t, rfl⟩ := hv
    have I1 : Inv X pins σ H { s with heap := h', toks := tk } := I.turned (fun b o hb e => kk b o (by simpa using hb) e) f0 f1 f3 f4 f5
    refine ⟨_, rfl, go_of (s := { s with heap := h', toks := tk }) (n := "longrange_iterator") st' rfl rfl (by decide) ⟨.int (lo + i), H, I1, ⟨t, ?_⟩, ⟨rfl, rfl⟩, st', fun b hb => (hf b hb).1⟩⟩
    rw [Int.mul_one]
  done := by
    intro X hP hw hK hc i pins s σ H E I hf st hg
    subst hP hw hK
    obtain ⟨f0, f1, f2, f3, f4, f5⟩ := hf it (by simp)
    exact wpAny_pyNext_long_end (I.ok.hd hc) st (by have : n ≤ i := hg; omega) fun h' eb => ⟨rfl, I.turned (t' := s.toks) (fun b o hb e => eb b o hb e) f0 f1 f3 f4 f5⟩
  self := fun _ _ _ _ _ st h => wpAny_pyIter_longiter st h
section
variable {X : Cx} {tg : Expr}
theorem range_itL {pins : List (Addr × Obj)} {σ : L2.St} {H : Hp} {s : Shared} {R : It → Hp → Prop} {E : Value → Shared → Prop} {lo hi : Int} {t u v : Tok} {tk : Nat} (I : Inv X pins σ H s)
    (q : R (Itr lo (hi - lo).toNat) H) : wpAny (model X.prog X.w) X.A (pyIter (.ref s.heap.objs.size)) (PIE X pins σ tg R) E { s with heap := s.heap.push { cls := .type "range", data := .fields #[.int lo t, .int hi u, .int 1 v] }, toks := tk } := by
  have I1 : Inv X pins σ H { s with heap := s.heap.push { cls := .type "range", data := .fields #[.int lo t, .int hi u, .int 1 v] }, toks := tk } := I.kept fun b o e => Heap.get?_push_of_some _ e
  have e1 : lo + ((0 : Nat) : Int) * 1 = lo := by simp
  have e2 : (((hi - lo).toNat : Nat) : Int) - ((0 : Nat) : Int) = Builtin.Range.rangeSize lo hi 1 := by rw [rangeSize_one]; split <;> omega
  cases hs : Builtin.Range.small lo hi 1 with
  | true =>
    refine wpAny_pyIter_range (IsRange.new ..) hs ?_
    refine ⟨(s.heap.push { cls := .type "range", data := .fields #[.int lo t, .int hi u, .int 1 v] }).objs.size, [(s.heap.push { cls := .type "range", data := .fields #[.int lo t, .int hi u, .int 1 v] }).objs.size], _, _, H, rfl,
      I1.kept (t' := tk) fun b o e => Heap.get?_push_of_some _ e, turn_range _ lo (hi - lo).toNat, ?_, fun b hb => ?_, q⟩
    · show IsRangeIter _ _ (lo + ((0 : Nat) : Int) * 1) ((((hi - lo).toNat : Nat) : Int) - ((0 : Nat) : Int)) 1
      rw [e1, e2]
      exact Heap.get?_push_size _ rfl
    · have e : b = (s.heap.push { cls := .type "range", data := .fields #[.int lo t, .int hi u, .int 1 v] }).objs.size := by simpa using hb
      subst e
      exact I1.fpOk (Nat.le_refl _) (I1.hok.fresh (Nat.le_refl _))
  | false =>
    refine wpAny_pyIter_longrange (IsRange.new ..) hs ?_
    refine ⟨(s.heap.push { cls := .type "range", data := .fields #[.int lo t, .int hi u, .int 1 v] }).objs.size, [(s.heap.push { cls := .type "range", data := .fields #[.int lo t, .int hi u, .int 1 v] }).objs.size], _, _, H, rfl,
      I1.kept (t' := tk) fun b o e => Heap.get?_push_of_some _ e, turn_long _ lo (hi - lo).toNat, ?_, fun b hb => ?_, q⟩
    · show IsLongIter _ _ (lo + ((0 : Nat) : Int) * 1) ((((hi - lo).toNat : Nat) : Int) - ((0 : Nat) : Int)) 1
      rw [e1, e2]
      exact Heap.get?_push_size _ rfl
    · have e : b = (s.heap.push { cls := .type "range", data := .fields #[.int lo t, .int hi u, .int 1 v] }).objs.size := by simpa using hb
      subst e
      exact I1.fpOk (Nat.le_refl _) (I1.hok.fresh (Nat.le_refl _))
def iRngL (ta : TA) : TI := fun σ H R => ta σ H fun vs H1 => ∃ i j : Int, vs = [.int i, .int j] ∧ R (Itr i (j - i).toNat) H1
theorem pi_rangeL {a b : Expr} {ta : TA} {p pos : Pos} (hg : Gl X "range") (hm : X.mg "range" = none) (ha : PA X [a, b] ta) (hs : starEach [a, b] X.env = [(false, eval a X.env), (false, eval b X.env)] := by rfl) (hs2 : starEach [b] X.env = [(false, eval b X.env)] := by rfl) :
    PI X tg (.Call (.Name "range" p) [a, b] [] pos) (iRngL ta) := by
  refine ⟨fun pins s σ H R I h => ?_⟩
  refine Call_ (ld_blt I hg hm boot_range (PyProof.Rows.callWith_type1 (thn (ha.run pos pins s σ H _ I h) fun us s1 ⟨vs, H1, I1, r1, q1⟩ => ?_) (by rw [hs, hs2]) (by rw [hs2]; rfl)))
  obtain ⟨i, j, e, q⟩ := q1
  subst e
  cases r1 with
  | cons r rr =>
    cases rr with
    | cons r' rr =>
      cases rr
      obtain ⟨t, rfl⟩ := r
      obtain ⟨t', rfl⟩ := r'
      exact call_range_2 (range_itL I1 q)
end
section
variable {w : Wd} {Γ : Env} {S : List Own}
theorem lr_L {ta : TA} {k : Int → Nat → List Own → Prop} (h : LA w ta Γ S fun es S1 => ∃ i j, es = [.d (.int i), .d (.int j)] ∧ k i (j - i).toNat S1) : LR w (iRngL ta) Γ S k := fun σ R H as Q rl s c =>
  h σ R H as _ rl s fun vs es S1 R1 H1 as1 rl1 s1 p1 e1 ⟨i, j, h1, h4⟩ => by
    subst h1
    match vs, e1 with
    | [a, b], ⟨q1, q2, _⟩ => cases q1; cases q2; exact ⟨i, j, rfl, c i _ S1 R1 H1 as1 rl1 s1 p1 h4⟩
theorem ls_par3 {G : GE} {i j l : Nat} {ta : TA} (h : LA w ta Γ S fun es S1 => ∃ x y z, es = [x, y, z] ∧ G.nx (((Γ.set i (some x)).set j (some y)).set l (some z)) S1) : LS w (tPar3 i j l ta) Γ S G := fun D σ R H as rl s e =>
  h σ R H as _ rl s fun vs es S1 R1 H1 as1 rl1 s1 p1 e1 ⟨x, y, z, h1, h2⟩ => by
    subst h1
    match vs, e1 with
    | [a, b, c], ⟨q1, q2, q3, _⟩ => exact ⟨a, b, c, rfl, e.nx _ S1 _ R1 H1 as1 s1 rl1 ((((s.mono s1 p1).set i q1).set j q2).set l q3) h2⟩
end
end Gm
/-! dicts with texts as keys; a list that stands in a dict -/
namespace Gm
open PySem PySem.Spec PyProof.Rows L2
theorem units1 {A : Around} (h : A.units + 64 < cLine) : A.units + 1 < cLine := by omega
theorem lt_ble {a b : Nat} (h : Nat.ble (a + 1) b = true) : a < b := Nat.le_of_ble_eq_true h
theorem DenK.len {K : PySem.W.Frag} {R : Hp} : ∀ {ps : List (L2.Key × V)} {qs : List (Str × D)}, DenK K R ps qs → ps.length = qs.length
  | [], [], _ => rfl
  | _ :: _, _ :: _, ⟨_, _, c⟩ => congrArg (· + 1) c.len
  | [], _ :: _, h => h.elim
  | _ :: _, [], h => h.elim
def getD_ (x : Str) : List (Str × D) → Option D
  | [] => none
  | (y, d) :: r => if y = x then some d else getD_ x r
def putD (x : Str) (d : D) : List (Str × D) → List (Str × D)
  | [] => []
  | (y, e) :: r => (if y = x then (y, d) else (y, e)) :: putD x d r
theorem putD_len (x : Str) (d : D) : ∀ gs : List (Str × D), (putD x d gs).length = gs.length
  | [] => rfl
  | _ :: r => congrArg (· + 1) (putD_len x d r)
theorem DenK.get {K : PySem.W.Frag} {R : Hp} {x : Str} {d : D} : ∀ {ps : List (L2.Key × V)} {qs : List (Str × D)}, DenK K R ps qs → getD_ x qs = some d → ∃ v, valV ps (.inr x) = some v ∧ Den K R v d
  | [], [], _, e => by cases e
  | (k, v) :: ps, (y, d0) :: qs, ⟨a, b, c⟩, e => by
    have a' : k = .inr y := a
    subst a'
    unfold getD_ at e
    by_cases h : y = x
    · rw [if_pos h] at e
      cases e
      subst h
      exact ⟨v, valV_pos rfl, b⟩
    · rw [if_neg h] at e
      obtain ⟨u, h1, h2⟩ := DenK.get c e
      exact ⟨u, by rw [valV_neg (p := (Sum.inr y, v)) (fun z => h (Sum.inr.inj z))]; exact h1, h2⟩
  | [], _ :: _, h, _ => h.elim
  | _ :: _, [], h, _ => h.elim
theorem DenK.repl {K : PySem.W.Frag} {R : Hp} {x : Str} {v : V} {d : D} (hd : Den K R v d) : ∀ {ps : List (L2.Key × V)} {qs : List (Str × D)}, DenK K R ps qs → DenK K R (ps.map fun kv => if kv.1 = .inr x then (kv.1, v) else kv) (putD x d qs)
  | [], [], _ => trivial
  | (k, u) :: ps, (y, d0) :: qs, ⟨a, b, c⟩ => by
    have a' : k = .inr y := a
    subst a'
    have r := DenK.repl (x := x) hd c
    by_cases h : y = x
    · subst h
      show DenK K R ((if (Sum.inr y : L2.Key) = .inr y then ((Sum.inr y : L2.Key), v) else (.inr y, u)) :: _) ((if y = y then (y, d) else (y, d0)) :: putD y d qs)
      rw [if_pos rfl, if_pos rfl]
      exact ⟨rfl, hd, r⟩
    · show DenK K R ((if (Sum.inr y : L2.Key) = .inr x then ((Sum.inr y : L2.Key), v) else (.inr y, u)) :: _) ((if y = x then (y, d) else (y, d0)) :: putD x d qs)
      rw [if_neg (fun z => h (Sum.inr.inj z)), if_neg h]
      exact ⟨rfl, b, r⟩
  | [], _ :: _, h => h.elim
  | _ :: _, [], h => h.elim
theorem DenK.put {K : PySem.W.Frag} {R : Hp} {x : Str} {v : V} {d d0 : D} (hd : Den K R v d) {ps : List (L2.Key × V)} {qs : List (Str × D)} (h : DenK K R ps qs) (e : getD_ x qs = some d0) : DenK K R (putK ps (.inr x) v) (putD x d qs) := by
  obtain ⟨u, h1, _⟩ := h.get e
  unfold putK
  rw [if_pos (by rw [valV_any, h1]; rfl)]
  exact h.repl hd
section
variable {w : Wd} {Γ : Env} {S : List Own} {k : KE} {G : GE} {td ty tv : TE}
/-- d["x"] -/
theorem le_dget (h : LE w td Γ S fun x S1 => LE w ty Γ S1 fun y S2 => ∃ i gs s d, x = .own i ∧ S2[i]? = some (.dct gs) ∧ y = .d (.str s) ∧ getD_ s gs = some d ∧ k (.d d) S2) : LE w (tDGet td ty) Γ S k := fun σ R H as Q rl s c => by
  refine h σ R H as _ rl s fun v x S1 R1 H1 as1 rl1 s1 p1 e1 h1 => ?_
  refine h1 σ R1 H1 as1 _ rl1 (s.mono s1 p1) fun u y S2 R2 H2 as2 rl2 s2 p2 e2 q => ?_
  obtain ⟨i, gs, z, d, rfl, q1, rfl, q2, q3⟩ := q
  obtain ⟨a, ha, rfl⟩ := e1.mono s2 p2
  obtain ⟨⟨_, kvs, c1, c2⟩, _⟩ := rl2.reg i _ a q1 ha (by intro z; cases z)
  cases e2
  obtain ⟨v, g1, g2⟩ := c2.get q2
  refine ⟨a, v, rfl, ?_, c v (.d d) S2 R2 H2 as2 rl2 (s1.trans s2) (p1.trans p2) g2 q3⟩
  have := DGet.k (k := (Sum.inr z : L2.Key)) c1
  rw [g1] at this
  exact this
/-- d["x"] = e -/
theorem ls_dput (h : LE w tv Γ S fun v S1 => LE w td Γ S1 fun x S2 => LE w ty Γ S2 fun y S3 => ∃ e i gs s d0, v = .d e ∧ x = .own i ∧ S3[i]? = some (.dct gs) ∧ y = .d (.str s) ∧ getD_ s gs = some d0 ∧ gs.length < 1000 ∧ G.nx Γ (S3.set i (.dct (putD s e gs)))) : LS w (sDPut td ty tv) Γ S G := fun D σ R H as rl s e => by
  refine h σ R H as _ rl s fun v0 v S1 R1 H1 as1 rl1 s1 p1 e1 h1 => ?_
  refine h1 σ R1 H1 as1 _ rl1 (s.mono s1 p1) fun u x S2 R2 H2 as2 rl2 s2 p2 e2 h2 => ?_
  refine h2 σ R2 H2 as2 _ rl2 ((s.mono s1 p1).mono s2 p2) fun u2 y S3 R3 H3 as3 rl3 s3 p3 e3 q => ?_
  obtain ⟨d, i, gs, z, d0, rfl, rfl, q1, rfl, q2, q3, q4⟩ := q
  obtain ⟨a, ha, rfl⟩ := e2.mono s3 p3
  obtain ⟨⟨_, kvs, c1, c2⟩, _⟩ := rl3.reg i _ a q1 ha (by intro z; cases z)
  cases e3
  have hv : Den w.K R3 v0 d := (e1.mono (s2.trans s3) (p2.trans p3) : EntOk w.K R3 as3 v0 (.d d))
  refine ⟨a, _, rfl, DPut.k (k := (Sum.inr z : L2.Key)) c1 (by rw [c2.len, sizeLine_eq]; omega), ?_⟩
  have rl4 := rl3.write (o' := .dct (putD z d gs)) (u := .dK (putK kvs (.inr z) v0)) q1 ha (by intro z; cases z) (by intro z; cases z) ⟨by assumption, _, upd_same, c2.put hv q2⟩
  exact e.nx Γ _ σ R3 _ as3 ((s1.trans s2).trans s3) rl4 (s.mono ((s1.trans s2).trans s3) ((p1.trans p2).trans p3)) q4
/-- d["x"] op= e -/
theorem ls_daug {rd : V → V → Hp → VK → Prop} (h : LE w td Γ S fun x S1 => LE w ty Γ S1 fun y S2 => ∃ i gs s d, x = .own i ∧ S2[i]? = some (.dct gs) ∧ y = .d (.str s) ∧ getD_ s gs = some d ∧
    LE w tv Γ S2 fun y2 S3 => RR w rd (.d d) y2 S3 fun z S4 => ∃ e gs' d0, z = .d e ∧ S4[i]? = some (.dct gs') ∧ getD_ s gs' = some d0 ∧ gs'.length < 1000 ∧ G.nx Γ (S4.set i (.dct (putD s e gs')))) : LS w (sDAug td ty tv rd) Γ S G := fun D σ R H as rl s e => by
  refine h σ R H as _ rl s fun v x S1 R1 H1 as1 rl1 s1 p1 e1 h1 => ?_
  refine h1 σ R1 H1 as1 _ rl1 (s.mono s1 p1) fun u y S2 R2 H2 as2 rl2 s2 p2 e2 q => ?_
  obtain ⟨i, gs, z, d, rfl, q1, rfl, q2, q3⟩ := q
  obtain ⟨a, ha, rfl⟩ := e1.mono s2 p2
  obtain ⟨⟨_, kvs, c1, c2⟩, _⟩ := rl2.reg i _ a q1 ha (by intro z; cases z)
  cases e2
  obtain ⟨v, g1, g2⟩ := c2.get q2
  have hg := DGet.k (k := (Sum.inr z : L2.Key)) c1
  rw [g1] at hg
  refine ⟨a, v, rfl, hg, ?_⟩
  refine q3 σ R2 H2 as2 _ rl2 ((s.mono s1 p1).mono s2 p2) fun u2 y2 S3 R3 H3 as3 rl3 s3 p3 e3 h3 => ?_
  refine h3 R3 H3 as3 _ _ _ rl3 ((show EntOk w.K R2 as2 v (.d d) from g2).mono s3 p3) e3 fun v4 e4 S4 R4 H4 as4 rl4 s4 p4 ev4 q5 => ?_
  obtain ⟨e', gs', d0, rfl, r1, r2, r3, r4⟩ := q5
  have ha4 : as4[i]? = some a := p4 _ _ (p3 _ _ ha)
  obtain ⟨⟨_, kvs', c1', c2'⟩, _⟩ := rl4.reg i _ a r1 ha4 (by intro z; cases z)
  refine ⟨_, DPut.k (k := (Sum.inr z : L2.Key)) c1' (by rw [c2'.len, sizeLine_eq]; omega), ?_⟩
  have rl5 := rl4.write (o' := .dct (putD z e' gs')) (u := .dK (putK kvs' (.inr z) v4)) r1 ha4 (by intro z; cases z) (by intro z; cases z) ⟨by assumption, _, upd_same, c2'.put ev4 r2⟩
  exact e.nx Γ _ σ R4 _ as4 (((s1.trans s2).trans s3).trans s4) rl5 (s.mono (((s1.trans s2).trans s3).trans s4) (((p1.trans p2).trans p3).trans p4)) r4
theorem rr_ipI {f : Int → Int → Int} {i j : Int} (q : k (.d (.int (f i j))) S) : RR w (ipI f) (.d (.int i)) (.d (.int j)) S k := fun R H as u v Q rl hu hv c => by
  cases hu; cases hv
  exact ⟨i, j, rfl, rfl, c _ _ S R H as rl (Sub.refl _) (Pre.refl _) (ok_d (Den.int _)) q⟩
/-- len of a list in a dict -/
theorem rc_lenLat {i : Nat} {g : Addr} {ds : List D} (hi : S[i]? = some (.lat g ds)) (q : k (.d (.int ds.length)) S) : RC w (gLen w.K) [.d (.cls g)] S k := fun R H as us Q rl hu c => by
  obtain ⟨v, rfl, hv⟩ := one_ent hu
  cases hv
  obtain ⟨a, ha⟩ := rl.own hi
  obtain ⟨⟨rfl, z, vs, c1, c2⟩, _⟩ := rl.reg i _ a hi ha (by intro z; cases z)
  refine ⟨a, vs, rfl, .inl (SqL.of c1), ?_⟩
  rw [c2.len]
  exact c _ _ S R H as rl (Sub.refl _) (Pre.refl _) (ok_d (Den.int _)) q
/-- a method of a list in a dict -/
theorem le_bmLat {r : V → List V → Hp → VK → Prop} {t : TA} (h : LE w td Γ S fun x S1 => (∃ (i : Nat) (g : Addr) (ds : List D), x = Ent.d (.cls g) ∧ S1[i]? = some (Own.lat g ds)) ∧ LA w t Γ S1 fun xs S2 => RM w r x xs S2 k) : LE w (tBM w.K "list" r td t) Γ S k := fun σ R H as Q rl s c => by
  refine h σ R H as _ rl s fun v x S1 R1 H1 as1 rl1 s1 p1 e1 ⟨⟨i, g, ds, h1, h2⟩, h3⟩ => ?_
  subst h1
  cases e1
  obtain ⟨a, ha⟩ := rl1.own h2
  obtain ⟨⟨rfl, z, vs, c1, c2⟩, _⟩ := rl1.reg i _ a h2 ha (by intro z; cases z)
  refine ⟨.inl ⟨rfl, vs, SqL.of c1⟩, ?_⟩
  refine h3 σ R1 H1 as1 _ rl1 (s.mono s1 p1) fun vs es S2 R2 H2 as2 rl2 s2 p2 e2 h4 => ?_
  exact h4 R2 H2 as2 _ _ Q rl2 (ok_d (Den.cls _)) e2 fun v' e' S' R' H' as' a1 a2 a3 a4 a5 => c v' e' S' R' H' as' a1 ((s1.trans s2).trans a2) ((p1.trans p2).trans a3) a4 a5
/-- pop(0) of it -/
theorem rm_popLat {i : Nat} {g : Addr} {d : D} {ds : List D} (hi : S[i]? = some (.lat g (d :: ds))) (q : k (.d d) (S.set i (.lat g ds))) : RM w rPopAt (.d (.cls g)) [.d (.int 0)] S k := fun R H as u us Q rl hu hus c => by
  cases hu
  obtain ⟨a, ha⟩ := rl.own hi
  obtain ⟨⟨rfl, z, vs, c1, c2⟩, _⟩ := rl.reg i _ a hi ha (by intro z; cases z)
  match us, hus with
  | [v], ⟨hv, _⟩ =>
    cases hv
    cases c2 with
    | cons c3 c4 =>
      rename_i x xs
      refine ⟨a, x :: xs, 0, 0, x, rfl, rfl, c1, by decide, by decide, ?_, rfl, ?_⟩
      · unfold seqIndex?
        simp
      have rl2 := rl.write (o' := .lat a ds) (u := .lst xs) hi ha (by intro z; cases z) (by intro z; cases z) ⟨rfl, z, _, upd_same, c4⟩
      exact c x (.d d) _ R _ as rl2 (Sub.refl _) (Pre.refl _) c3 q
end
/-! ### a display -/
def PairsOk (K : PySem.W.Frag) (R : Hp) (as : List Addr) : List (V × V) → List (Ent × Ent) → Prop
  | [], [] => True
  | p :: ps, e :: es => EntOk K R as p.1 e.1 ∧ EntOk K R as p.2 e.2 ∧ PairsOk K R as ps es
  | _, _ => False
def LP (w : Wd) (trs : List (TE × TE)) (Γ : Env) (S : List Own) (k : List (Ent × Ent) → List Own → Prop) : Prop :=
  ∀ (σ : L2.St) (R H : Hp) (as : List Addr) (Q : List (V × V) → Hp → Prop), Rel w R H as S → Sts w.K R as σ Γ →
    (∀ ps es S' R' H' as', Rel w R' H' as' S' → Sub R R' → Pre as as' → PairsOk w.K R' as' ps es → k es S' → Q ps H') → tPairs trs σ H Q
theorem pairs_dct {K : PySem.W.Frag} {R : Hp} {as : List Addr} : ∀ {gs : List (Str × D)} {ps : List (V × V)}, PairsOk K R as ps (gs.map fun p => (Ent.d (.str p.1), Ent.d p.2)) → ∃ kvs : List (L2.Key × V), ps = kvs.map (fun kv => (kV kv.1, kv.2)) ∧ DenK K R kvs gs
  | [], [], _ => ⟨[], rfl, trivial⟩
  | (x, d) :: gs, (a, b) :: ps, ⟨h1, h2, h3⟩ => by
    obtain ⟨kvs, e, q⟩ := pairs_dct h3
    have h1' : Den K R a (.str x) := h1
    cases h1'
    exact ⟨(.inr x, b) :: kvs, by rw [e]; rfl, rfl, h2, q⟩
  | [], _ :: _, h => h.elim
  | _ :: _, [], h => h.elim
theorem mergeK_app : ∀ (more acc : List (L2.Key × V)), (∀ p ∈ more, valV acc p.1 = none) → (more.map (·.1)).Nodup → mergeK acc more = acc ++ more
  | [], acc, _, _ => (List.append_nil acc).symm
  | p :: r, acc, h, n => by
    have n' := List.nodup_cons.mp n
    have hp := h p (List.mem_cons_self ..)
    show mergeK (putK acc p.1 p.2) r = _
    rw [putK_new p.2 hp, mergeK_app r _ (fun q hq => ?_) n'.2, List.append_assoc]
    · rfl
    · rw [valV_snoc _ _ _ _ hp]
      have : ¬ q.1 = p.1 := fun z => n'.1 (by show p.1 ∈ _; rw [← z]; exact List.mem_map.mpr ⟨q, hq, rfl⟩)
      rw [if_neg this]
      exact h q (List.mem_cons_of_mem _ hq)
theorem DenK.keys {K : PySem.W.Frag} {R : Hp} : ∀ {ps : List (L2.Key × V)} {qs : List (Str × D)}, DenK K R ps qs → ps.map (·.1) = (qs.map (·.1)).map Sum.inr
  | [], [], _ => rfl
  | p :: ps, q :: qs, ⟨a, _, c⟩ => by rw [List.map_cons, List.map_cons, List.map_cons, c.keys, a]
  | [], _ :: _, h => h.elim
  | _ :: _, [], h => h.elim
theorem DenK.merge {K : PySem.W.Frag} {R : Hp} {ps : List (L2.Key × V)} {qs : List (Str × D)} (h : DenK K R ps qs) (n : (qs.map (·.1)).Nodup) : mergeK [] ps = ps := by
  rw [mergeK_app ps [] (fun _ _ => rfl) ?_]
  · rfl
  · rw [h.keys]
    exact List.Pairwise.map Sum.inr (fun a b (hab : a ≠ b) e => hab (Sum.inr.inj e)) n
section
variable {w : Wd} {Γ : Env} {S : List Own} {k : KE}
theorem lp_nil {k : List (Ent × Ent) → List Own → Prop} (q : k [] S) : LP w [] Γ S k := fun σ R H as Q rl s c => c [] [] S R H as rl (Sub.refl _) (Pre.refl _) trivial q
theorem lp_cons {tk tv : TE} {trs : List (TE × TE)} {k : List (Ent × Ent) → List Own → Prop} (h : LE w tk Γ S fun x S1 => LE w tv Γ S1 fun y S2 => LP w trs Γ S2 fun ps S3 => k ((x, y) :: ps) S3) : LP w ((tk, tv) :: trs) Γ S k := fun σ R H as Q rl s c =>
  h σ R H as _ rl s fun v x S1 R1 H1 as1 rl1 s1 p1 e1 h1 => h1 σ R1 H1 as1 _ rl1 (s.mono s1 p1) fun u y S2 R2 H2 as2 rl2 s2 p2 e2 h2 =>
    h2 σ R2 H2 as2 _ rl2 ((s.mono s1 p1).mono s2 p2) fun ps es S3 R3 H3 as3 rl3 s3 p3 e3 h3 =>
      c ((v, u) :: ps) ((x, y) :: es) S3 R3 H3 as3 rl3 ((s1.trans s2).trans s3) ((p1.trans p2).trans p3) ⟨e1.mono (s2.trans s3) (p2.trans p3), e2.mono s3 p3, e3⟩ h3
/-- {"x": e, ..} -/
theorem le_disp {trs : List (TE × TE)} (h : LP w trs Γ (S ++ [.dct []]) fun es S1 => S1[S.length]? = some (.dct []) ∧ ∃ gs : List (Str × D), es = gs.map (fun p => (Ent.d (.str p.1), Ent.d p.2)) ∧ (gs.map (·.1)).Nodup ∧ gs.length ≤ 15 ∧ k (.own S.length) (S1.set S.length (.dct gs))) :
    LE w (tDisp trs) Γ S k := fun σ R H as Q rl s c p hp => by
  have rl0 := rl.allocO hp (.dK []) (o := .dct []) ⟨(rl.fresh hp).1, [], upd_same, trivial⟩
  refine h σ R _ _ _ rl0 (s.mono (Sub.refl _) (Pre.app _ _)) fun ps es S1 R1 H1 as1 rl1 s1 p1 e1 ⟨hd, gs, ee, n, hl, q⟩ => ?_
  subst ee
  have ha : as1[S.length]? = some p := p1 _ _ (by rw [← rl.len]; exact List.getElem?_concat_length)
  obtain ⟨⟨z, kvs0, c1, c2⟩, _⟩ := rl1.reg _ _ p hd ha (by intro z; cases z)
  obtain rfl : kvs0 = [] := List.eq_nil_of_length_eq_zero c2.len
  obtain ⟨kvs, rfl, dk⟩ := pairs_dct e1
  refine ⟨c1, kvs, rfl, by rw [dk.len]; exact hl, ?_⟩
  rw [dk.merge n]
  have rl2 := rl1.write (o' := .dct gs) (u := .dK kvs) hd ha (by intro z; cases z) (by intro z; cases z) ⟨z, kvs, upd_same, dk⟩
  exact c (.ref p) (.own S.length) _ R1 _ as1 rl2 s1 ((Pre.app _ _).trans p1) ⟨p, ha, rfl⟩ q
/-- {"x": l, ..}, a list of the store first -/
theorem le_dispO {trs : List (TE × TE)} (h : LP w trs Γ (S ++ [.dct []]) fun es S1 => S1[S.length]? = some (.dct []) ∧ ∃ (z : Str) (j : Nat) (xs : List D) (gs : List (Str × D)), es = (Ent.d (.str z), Ent.own j) :: gs.map (fun p => (Ent.d (.str p.1), Ent.d p.2)) ∧ (z :: gs.map (·.1)).Nodup ∧ gs.length ≤ 14 ∧ S1[j]? = some (.lst xs) ∧
      ∀ g, k (.own S.length) ((S1.set j (.lat g xs)).set S.length (.dct ((z, .cls g) :: gs)))) :
    LE w (tDisp trs) Γ S k := fun σ R H as Q rl s c p hp => by
  have rl0 := rl.allocO hp (.dK []) (o := .dct []) ⟨(rl.fresh hp).1, [], upd_same, trivial⟩
  refine h σ R _ _ _ rl0 (s.mono (Sub.refl _) (Pre.app _ _)) fun ps es S1 R1 H1 as1 rl1 s1 p1 e1 ⟨hd, x, j, xs, gs, ee, n, hl, hj, q⟩ => ?_
  subst ee
  have ha : as1[S.length]? = some p := p1 _ _ (by rw [← rl.len]; exact List.getElem?_concat_length)
  obtain ⟨⟨z, kvs0, c1, c2⟩, _⟩ := rl1.reg _ _ p hd ha (by intro z; cases z)
  obtain rfl : kvs0 = [] := List.eq_nil_of_length_eq_zero c2.len
  match ps, e1 with
  | (a, b) :: ps, ⟨f1, ⟨g, f2, f3⟩, f4⟩ =>
  obtain ⟨kvs, rfl, dk⟩ := pairs_dct f4
  have f1' : Den w.K R1 a (.str x) := f1
  cases f1'
  have f3' : b = .ref g := f3
  subst f3'
  have dk' : DenK w.K R1 ((.inr x, .ref g) :: kvs) ((x, .cls g) :: gs) := ⟨rfl, Den.cls g, dk⟩
  refine ⟨c1, (.inr x, .ref g) :: kvs, rfl, by rw [dk'.len]; simp; omega, ?_⟩
  rw [dk'.merge n]
  obtain ⟨⟨y, vs, d1, d2⟩, _⟩ := rl1.reg _ _ g hj f2 (by intro z; cases z)
  have eu : upd H1 g (.lst vs) = H1 := by
    funext b
    by_cases hb : b = g
    · rw [hb, upd_same, d1]
    · rw [upd_ne hb]
  have rl2 := rl1.write (o' := .lat g xs) (u := .lst vs) hj f2 (by intro z; cases z) (by intro z; cases z) ⟨rfl, y, vs, upd_same, d2⟩
  rw [eu] at rl2
  have hne : j ≠ S.length := by
    rintro rfl
    rw [hd] at hj; cases hj
  have hd2 : (S1.set j (.lat g xs))[S.length]? = some (.dct []) := by rw [List.getElem?_set_ne hne]; exact hd
  have rl3 := rl2.write (o' := .dct ((x, .cls g) :: gs)) (u := .dK ((.inr x, .ref g) :: kvs)) hd2 ha (by intro z; cases z) (by intro z; cases z) ⟨z, _, upd_same, dk'⟩
  exact c (.ref p) (.own S.length) _ R1 _ as1 rl3 s1 ((Pre.app _ _).trans p1) ⟨p, ha, rfl⟩ (q g)
end
section
variable {w : Wd} {Γ : Env} {S : List Own} {G : GE} {t1 : TS}
theorem ls_forS {tl : TE} {g : TG} (h : LE w tl Γ S fun e S1 => ∃ ns, e = .d (.scr ns) ∧ ∃ I : Nat → Env → List Own → Prop, I 0 Γ S1 ∧
    (∀ i n Γ1 S2, ns[i]? = some n → I i Γ1 S2 → LG w g (.d (.int n)) Γ1 S2 fun Γ2 S3 => LS w t1 Γ2 S3 { G with nx := I (i + 1), ct := I (i + 1), bk := G.nx }) ∧ (∀ Γ1 S2, I ns.length Γ1 S2 → G.nx Γ1 S2)) : LS w (tFor (iList w.K tl) g t1) Γ S G := fun D σ R H as rl s e => by
  refine h σ R H as _ rl s fun v x S1 R1 H1 as1 rl1 s1 p1 e1 ⟨ns, h1, I, i0, is, iE⟩ => ?_
  subst h1
  cases e1 with
  | scr ha =>
    rename_i a
    refine ⟨a, rfl, ⟨_, sub_seq rl1.sub ha⟩, ?_⟩
    refine for_list (xs := ns.map V.int) (fun i σ' H' => ∃ Γ' S' R' as', Sub R1 R' ∧ Rel w R' H' as' S' ∧ Sts w.K R' as' σ' Γ' ∧ I i Γ' S') ⟨Γ, S1, R1, as1, Sub.refl _, rl1, s.mono s1 p1, i0⟩ ?_ ?_ ?_
    · rintro i σ2 H2 hi ⟨Γ2, S2, R2, as2, u2, rl2, st2, i2⟩
      exact sub_seq rl2.sub (sub_seq u2 ha)
    · rintro i x σ2 H2 hx ⟨Γ2, S2, R2, as2, u2, rl2, st2, i2⟩
      rw [List.getElem?_map, Option.map_eq_some_iff] at hx
      obtain ⟨n, hn, rfl⟩ := hx
      refine is i n Γ2 S2 hn i2 _ σ2 R2 H2 as2 _ rl2 st2 (Den.int n) fun Γ3 S3 σ3 R3 H3 as3 rl3 s3 p3 st3 q => ?_
      have up := u2.trans s3
      have e2 := e.up (s1.trans up)
      exact q _ σ3 R3 H3 as3 rl3 st3 ⟨fun Γ' S' σ' R' H' as' u a b hi => ⟨Γ', S', R', as', up.trans u, a, b, hi⟩, e2.rt, e2.nx, fun Γ' S' σ' R' H' as' u a b hi => ⟨Γ', S', R', as', up.trans u, a, b, hi⟩⟩
    · rintro σ2 H2 ⟨Γ2, S2, R2, as2, u2, rl2, st2, i2⟩
      exact e.nx Γ2 S2 σ2 R2 H2 as2 (s1.trans u2) rl2 st2 (by rw [List.length_map] at i2; exact iE Γ2 S2 i2)
end
section
variable {w : Wd} {Γ : Env} {S : List Own} {k : KE} {te : TE}
theorem dens_ints {K : PySem.W.Frag} {R : Hp} : ∀ ns : List Int, Dens K R (ns.map V.int) (ns.map D.int)
  | [] => .nil
  | n :: ns => .cons (.int n) (dens_ints ns)
/-- a slice of the script -/
theorem le_slS {tl th : TO} (h : LE w te Γ S fun x S1 => LO w tl Γ S1 fun lo S2 => LO w th Γ S2 fun hi S3 => ∃ ns, x = .d (.scr ns) ∧ k (.d (.lst (cutD (ns.map D.int) lo hi))) S3) : LE w (tSl (rSlL w.K) te tl th) Γ S k := fun σ R H as Q rl s c => by
  refine h σ R H as _ rl s fun v x S1 R1 H1 as1 rl1 s1 p1 e1 h1 => ?_
  refine h1 σ R1 H1 as1 _ rl1 (s.mono s1 p1) fun lo S2 R2 H2 as2 rl2 s2 p2 h2 => ?_
  refine h2 σ R2 H2 as2 _ rl2 (s.mono (s1.trans s2) (p1.trans p2)) fun hi S3 R3 H3 as3 rl3 s3 p3 ⟨ns, h3, h4⟩ => ?_
  subst h3
  have e3 : EntOk w.K R3 as3 v (.d (.scr ns)) := (e1.mono s2 p2).mono s3 p3
  cases e3 with
  | scr ha =>
    refine ⟨_, ns.map V.int, rfl, sub_seq rl3.sub ha, fun p hp => ?_⟩
    obtain ⟨rl4, s4⟩ := rl3.alloc hp (.lst (cutV (ns.map V.int) lo hi))
    exact c _ _ S3 _ _ as3 rl4 (((s1.trans s2).trans s3).trans s4) ((p1.trans p2).trans p3) (ok_d (Den.lst upd_same ((cut_dens (dens_ints ns) lo hi)))) h4
end
end Gm
/-! repr of lists and tuples, where no repr runs around -/
namespace Gm
open PySem PySem.Spec PyProof.Rows L2
def gRepr (K : PySem.W.Frag) : List V → Hp → VK → Prop := fun xs H Q => ∃ (a : Addr) (d : PyData), xs = [.ref a] ∧ Dp K H (.ref a) d ∧ d.showable = true ∧ d.hasDict = false ∧ d.depth ≤ 50 ∧ d.shown.length ≤ sizeLine ∧ Q (.str d.shown) H
theorem c_repr {X : Cx} (hg : X.A.guards = some []) (hu : X.A.units + 64 < cLine) : CallR X (.builtin "repr") (gRepr X.K) := by
  intro pins s σ H xs us Q I r h
  obtain ⟨a, d, rfl, hd, hs, hh, hdp, hz, q⟩ := h
  obtain ⟨u, rfl, ru⟩ := r.one
  obtain rfl : u = Value.ref a := ru
  obtain ⟨as, rd⟩ := Dp.reads I d (.ref a) (.ref a) hd rfl
  exact repr_of_reads' rd hs (fun z => by rw [hh] at z; cases z) hg (by omega) (fun _ _ e => e) (fun h' t tk hk => ⟨.str d.shown, H, I.kept (t' := tk) hk, ⟨t, rfl⟩, q⟩) hz
theorem b_repr {X : Cx} {e : Expr} {te : TE} {p pos : Pos} (hgu : X.A.guards = some []) (hu : X.A.units + 64 < cLine) (hm : X.mg "repr" = none) (h1 : PE X e te) (hK : X.calm = true := by rfl)
    (hg : Gl X "repr" := by rfl) (hs : starEach [e] X.env = (false, eval e X.env) :: starEach [] X.env := by rfl) (hpl : (backTo pos (starEach [] X.env)).any (·.1) = false := by rfl) :
    PE X (.Call (.Name "repr" p) [e] [] pos) (tCB (gRepr X.K) (tCons te tNil)) :=
  pe_callB (c_repr hgu hu) hg hm (by decide +kernel) (pa_cons h1 pa_nil hs) (he := hs) (hpl := hpl)
section
variable {w : Wd} {Γ : Env} {S : List Own} {k : KE}
theorem rc_repr {x : Ent} {d : PyData} (hx : entP S x = some d) (hs : d.showable = true) (hh : d.hasDict = false) (hdp : d.depth ≤ 50) (hz : d.shown.length ≤ sizeLine) (hr : (∃ ds, d = .list ds) ∨ ∃ ds, d = .tuple ds) (q : k (.d (.str d.shown)) S) : RC w (gRepr w.K) [x] S k := fun R H as us Q rl hu c => by
  obtain ⟨v, rfl, hv⟩ := one_ent hu
  have h := entP_dp rl hv hx
  have hv' : ∃ a, v = .ref a := by
    rcases hr with ⟨ds, rfl⟩ | ⟨ds, rfl⟩
    · cases h with
      | lst _ _ => exact ⟨_, rfl⟩
    · cases h with
      | tup _ _ => exact ⟨_, rfl⟩
  obtain ⟨a, rfl⟩ := hv'
  exact ⟨a, d, rfl, h, hs, hh, hdp, hz, c _ _ S R H as rl (Sub.refl _) (Pre.refl _) (ok_d (Den.str _)) q⟩
end
/-- a promise that wants that no repr runs around -/
structure FnOkG (P : Program) (w : World) (K : PySem.W.Frag) (mg : Str → Option Value) (base : Heap) (CX : CXT) (k : Nat) (f : Addr) (fd : FuncData) (ps : List Str) (sp : Sp) : Prop where
  len : ∀ vs H Q E, sp vs H Q E → vs.length = ps.length
  run : ∀ (A : Around) (outer : List PySem.Env) (s : Shared) (H : Hp) (args : Args) (us : List Value) (vs : List V) (Q : VK) (E : XK), A.guards = some [] → Room k A → Env0 P w K mg base A outer s H → BindsTo s fd args (ps.zip us) → Vals vs us → sp vs H Q E →
    codeAny (model P w) A (.call (.ref f) args) (CR CX outer P w H s Q E) s
section
variable {P : Program} {w0 : World} {K : PySem.W.Frag} {mg : Str → Option Value} {base : Heap}
theorem Fun.okG {x qual : Str} {st : Stmt} {f : Addr} {fd : FuncData} {N ps : List Str} {k : Nat} {sp : Sp} (fu : Fun K x qual st f fd) (fs : FnScope N ps (defScope st)) (lenG : ∀ vs H Q E, sp vs H Q E → vs.length = ps.length)
    (bodyG : ∀ (cdv : Value) (A : Around) (outer : List PySem.Env) (s : Shared) (H : Hp) (vs : List V) (Q : VK) (E : XK), A.guards = some [] → Room k (A.deeper (envOfC qual (defScope st) s.heap.objs.size f cdv)) → sp vs H Q E →
      ∃ t, PSs (cxOf CX0 P w0 K mg base N qual (defScope st) f cdv A outer s H E).nox (defBody st) t ∧ t { nx := fun _ H' => Q .non H', rt := Q } (start N vs) H) : FnOkG P w0 K mg base CX0 (k + 1) f fd ps sp := by
  obtain ⟨oc, od, kV, doc, pm, an, cdv, ct, osl, rfl, hl, hc⟩ := fu.ex
  refine ⟨lenG, fun A outer s H args us vs Q E hg room env bd rv hs => ?_⟩
  have nps := lenG vs H Q E hs
  have inK : K.In s.heap := env.mod.kin.keeps (fun c u q => (env.bs c u q).1)
  have noL : s.heap.NoLimit := env.mod.nolimit.keeps (fun c u q => (env.bs c u q).1)
  refine codeAny_call_function room.depth (inK f _ hl) rfl fs.co fs.gen rfl (PySem.W.codeRec_of inK hc) (bd _ _ _ _ ?_)
  refine wpAny_newFunctionEnv_cells fs.kind (fun z hz => ?_) fun e2 he2 s2 made => ?_
  · rcases fs.par z.1 (List.of_mem_zip (show (z.1, z.2) ∈ ps.zip us from hz)).1 with q | q
    · exact Or.inl q
    · exact Or.inr ⟨q, PySem.W.cellsFrom_some _ _ _ (Or.inl q)⟩
  subst he2
  refine ⟨noL.keeps made.toInCall.keep, codeAny_func ?_⟩
  obtain ⟨t, pt, qt⟩ := bodyG cdv A outer s H vs Q E hg (room.deeper _) hs
  have I0 : Inv (cxOf CX0 P w0 K mg base N qual (defScope st) f cdv A outer s H E) [] (start N vs) H s2 := inv_start fs room.hd env nps rv made
  refine wpAny_mono (pt.nox.run [] s2 (start N vs) H _ I0 qt) (fun r s3 hr => ?_) (fun _ _ h => h)
  cases r with
  | ret u => obtain ⟨v, σ3, H3, J, ru, q⟩ := hr; exact ⟨v, H3, J.os, J.bare, J.base, J.hok, ru, q⟩
  | next => obtain ⟨σ3, H3, J, q⟩ := hr; exact ⟨V.non, H3, J.os, J.bare, J.base, J.hok, rfl, q⟩
  | brk => obtain ⟨_, _, _, q⟩ := hr; exact q.elim
  | cont => obtain ⟨_, _, _, q⟩ := hr; exact q.elim
end
end Gm
/-! the end of a law whose promise wants that no repr runs around -/
namespace Gm
open PySem PySem.Spec PyProof.Rows L2
section
variable {P : Program} {w : World} {K : PySem.W.Frag} {mg nb : Str → Option Value} {k : Nat} {fa p : Addr} {fd : FuncData} {x : Str} {sp : Sp} {s0 : Shared} {us : List Value} {zs : List Int}
theorem lawG (inK : K.In s0.heap) (gl : s0.heap.Ns mainGlobals mg) (bu : s0.heap.Ns builtinsNs nb) (bb : ∀ y : Str, y ≠ "__name__" → nb y = bootBuiltins y) (nl : s0.heap.NoLimit) (g0 : s0.gens = #[])
    (hp : s0.heap.get? p = some { cls := .type "list", data := .seq us.toArray }) (hu : IntsAre us zs) (hz : zs.length ≤ sizeLine) (room : Room k callerA)
    (prom : ∀ base : Heap, K.In base → base.Ns mainGlobals mg → FnOkG P w K mg base CX0 k fa fd [x] sp) (bd : ∀ (s : Shared) (u : Value), BindsTo s fd ⟨[u], []⟩ [(x, u)])
    (meets : ∀ H : Hp, Only H → SqL K H p (zs.map V.int) → sp [.ref p] H (fun v _ => v = .bl true) fun _ _ _ => False) :
    codeAny (model P w) callerA (.call (.ref fa) ⟨[.ref p], []⟩) (fun r s1 => r = .ok (.ret (.bool true)) ∧ OldK s0.heap s1.heap ∧ s1.os = s0.os ∧ AllBare s1.gens) s0 := by
  have core : ∀ H : Hp, Only H → SqL K H p (zs.map V.int) → HOk P w H s0.heap → (∀ c, H c ≠ none → c = p) → (H p ≠ none → K.lookup p = none) →
      codeAny (model P w) callerA (.call (.ref fa) ⟨[.ref p], []⟩) (fun r s1 => r = .ok (.ret (.bool true)) ∧ OldK s0.heap s1.heap ∧ s1.os = s0.os ∧ AllBare s1.gens) s0 := by
    intro H only sq ok one kp
    have none_of : ∀ {c : Addr}, c ≠ p → H c = none := fun {c} ne => by
      cases q : H c with
      | none => rfl
      | some _ => exact absurd (one c (by rw [q]; exact Option.some_ne_none _)) ne
    have dict_none : ∀ {c : Addr} {o : Obj} {es : Array DictEntry} {ep : Nat}, s0.heap.get? c = some o → o.data = .dict es ep → H c = none := fun {c o es ep} q d => by
      by_cases ne : c = p
      · subst ne
        rw [hp] at q
        cases q
        exact absurd (show Data.seq us.toArray _ = Data.dict es ep from d) (by intro z; cases z)
      · exact none_of ne
    have ns_of : ∀ {c : Addr} {m : Str → Option Value}, s0.heap.Ns c m → (hidT s0.heap H).Ns c m := fun {c m} ⟨o, es, ep, q, d, r⟩ => ⟨o, es, ep, hidT_get q (dict_none q d), d, r⟩
    have inB : K.In (hidT s0.heap H) := fun c o q => hidT_get (inK c o q) (by
      by_cases ne : c = p
      · subst ne
        cases h : H c with
        | none => rfl
        | some _ => rw [kp (by rw [h]; exact Option.some_ne_none _)] at q; cases q
      · exact none_of ne)
    have md : Mod K mg (hidT s0.heap H) := ⟨inB, ns_of gl, ⟨nb, ns_of bu, bb⟩, nl.elim fun mc h => ⟨mc, ns_of h.1, h.2⟩⟩
    have env : Env0 P w K mg (hidT s0.heap H) callerA [] s0 H := ⟨rfl, md, fun c o q => of_hidT q, Nat.le_of_eq (hidT_size _ _), trivial, (fun c hc => absurd (show c ∈ ([] : List Addr) from hc) List.not_mem_nil), ok, .of_eq g0⟩
    refine codeAny_mono ((prom _ inB (ns_of gl)).run callerA [] s0 H ⟨[.ref p], []⟩ [.ref p] [.ref p] _ _ rfl room env (bd s0 (.ref p)) (.cons rfl .nil) (meets H only sq)) fun r s1 h => ?_
    match r, h with
    | .error e, h => exact h.elim
    | .ok .next, h => exact h.elim
    | .ok .brk, h => exact h.elim
    | .ok .cont, h => exact h.elim
    | .ok (.ret u), h =>
      obtain ⟨v, H1, os, bare, un, ok1, rv, q⟩ := h
      obtain rfl : v = .bl true := q
      obtain rfl : u = Value.bool true := rv
      refine ⟨rfl, OldK.of_keep fun c o hc => ?_, os, bare⟩
      by_cases ne : c = p
      · subst ne
        cases h : H c with
        | none => exact un.keep c o hc h (fun z => absurd (show c ∈ ([] : List Addr) from z) List.not_mem_nil) List.not_mem_nil
        | some t =>
          rcases only c with z | ⟨ob, xs, z⟩
          · rw [h] at z; cases z
          · have h1 := (ok c _ z).1
            have h2 := (ok1 c _ (un.frzs c ob _ z)).1
            rw [hc] at h1
            cases h1
            exact h2
      · exact un.keep c o hc (none_of ne) (fun z => absurd (show c ∈ ([] : List Addr) from z) List.not_mem_nil) List.not_mem_nil
  have rv := vals_ints hu
  cases hk : K.lookup p with
  | some o =>
    have q := inK p o hk
    rw [hp] at q
    cases q
    exact core (fun _ => none) (fun _ => .inl rfl) (.inr ⟨_, us.toArray, _, hk, rfl, rfl, rfl, by rw [List.size_toArray, hu.length]; exact hz, by simpa using rv⟩) (fun c t q => by cases (show (none : Option HO) = some t from q)) (fun c q => absurd rfl q) fun q => absurd rfl q
  | none =>
    refine core (fun c => if c = p then some (.frz { cls := .type "list", data := .seq us.toArray } (.lst (zs.map V.int))) else none) (fun c => ?_) (.inl (.inr ⟨_, if_pos rfl⟩)) (fun c t q => ?_) (fun c q => ?_) fun _ => hk
    · by_cases ne : c = p
      · exact .inr ⟨_, _, if_pos ne⟩
      · exact .inl (if_neg ne)
    · by_cases ne : c = p
      · have q1 := (if_pos ne).symm.trans q
        cases q1
        subst ne
        exact ⟨hp, by rw [List.length_map]; exact hz, us, _, rv, hp⟩
      · have q1 := (if_neg ne).symm.trans q
        cases q1
    · by_cases ne : c = p
      · exact ne
      · exact absurd (if_neg ne) q
end
theorem walkG {l : PySem.W.OpenLaw} {n k : Nat} {q : Program} {loose : List Str} {XP : (Str → Option Value) → Heap → Prop} {YP : World → Heap → Prop} {d : DefRec} {K : Params → PySem.W.Frag} {sp : World → Sp} {x : Str} (most : l.most = some n) (small : n ≤ sizeLine) (plain : d.params.defaults = []) (room : Room k callerA)
    (inK : ∀ (w : World) (h : Heap), YP w h → (K w.params).In h)
    (prom : ∀ (w : World) (mg : Str → Option Value) (fa : Addr) (h : Heap), (K w.params).In h → h.Ns mainGlobals mg → mg d.name = some (.ref fa) →
      ∃ fd : FuncData, (∀ (s : Shared) (u : Value), BindsTo s fd ⟨[u], []⟩ [(x, u)]) ∧ ∀ base : Heap, (K w.params).In base → base.Ns mainGlobals mg → FnOkG l.prog w (K w.params) mg base CX0 k fa fd [x] (sp w))
    (meets : ∀ (w : World) (H : Hp) (p : Addr) (zs : List Int), zs.length ≤ n → Only H → SqL (K w.params) H p (zs.map V.int) → sp w [.ref p] H (fun v _ => v = .bl true) fun _ _ _ => False) :
    PySem.W.WalkO q loose XP YP l.row.toRowW d [] (fun f vs => PySem.call f vs) := by
  refine Att.attach_call most plain fun w s0 s1 mg nb fa o pm cd doc p us zs G Y ho hd hcd hmg hobj hints hlen hg => ?_
  obtain ⟨fd, bd, pr⟩ := prom w mg fa _ (inK w _ Y) G.T.g hmg
  exact lawG (inK w _ Y) G.T.g G.T.b G.T.builtins G.T.nolimit hg hobj hints (Nat.le_trans hlen small) room pr bd fun H only sq => meets w H p zs hlen only sq
section
variable {P : Program} {w0 : World} {K : PySem.W.Frag} {mg : Str → Option Value} {base : Heap}
/-- a def by its body, where no repr runs around -/
theorem fnG {x qual : Str} {st : Stmt} {f : Addr} {fd : FuncData} {N ps : List Str} {k : Nat} {f0 : DS} (F : Fun K x qual st f fd) (Sc : FnScope N ps (defScope st)) (len : ∀ es S p e, f0 es S p e → es.length = ps.length)
    (body : ∀ (cdv : Value) (A : Around) (outer : List PySem.Env) (s : Shared) (H : Hp) (E : XK), A.guards = some [] → Room k (A.deeper (PyProof.Rows.envOfC qual (defScope st) s.heap.objs.size f cdv)) →
      ∀ (w : Wd) (es : List Ent) (S : List Own) (p : KE) (e : KX), w.K = K → w.as0.length = S.length → f0 es S p e → ∃ t, PSs (cxOf CX0 P w0 K mg base N qual (defScope st) f cdv A outer s H E).nox (defBody st) t ∧ LS w t (startG N es) S { nx := fun _ S' => p (.d .non) S', rt := p }) :
    FnOkG P w0 K mg base CX0 (k + 1) f fd ps (spD K f0) := by
  refine Gm.Fun.okG F Sc (fun vs H Q E ⟨R, as, S, es, p, e, h1, h2, h3, h4, h5⟩ => by rw [h1.len]; exact len es S p e h3) (fun cdv A outer s H vs Q E hg hr h => ?_)
  obtain ⟨R, as, S, es, p, e, h1, h2, h3, h4, h5⟩ := h
  obtain ⟨t, ht, hL⟩ := body cdv A outer s H E hg hr ⟨K, R, H, as⟩ es S p e rfl h2.len h3
  refine ⟨t, ht, hL _ _ R H as h2 (sts_start h1) ⟨fun Γ' S' σ' R' H' as' u a b c => ?_, fun v x S' R' H' as' u a b c => h4 v x S' R' H' as' a b c, fun _ _ _ _ _ _ _ _ _ c => c.elim, fun _ _ _ _ _ _ _ _ _ c => c.elim⟩⟩
  exact h4 .non (.d .non) S' R' H' as' a Den.non c
end
end Gm
/-! comprehensions with pairs as targets, with two fors; sorted pairs; reversed ranges -/
namespace Gm
open PySem PySem.Spec PyProof.Rows L2
theorem wipe_get : ∀ (vs : List Nat) (σ : L2.St) (j : Nat), (wipe σ vs)[j]? = if j ∈ vs then σ[j]?.map (fun _ => none) else σ[j]?
  | [], σ, j => by rw [if_neg List.not_mem_nil]; rfl
  | v :: vs, σ, j => by
    have e : wipe σ (v :: vs) = (wipe σ vs).set v none := rfl
    have ih := wipe_get vs σ j
    rw [e, List.getElem?_set]
    by_cases h : v = j
    · subst h
      rw [if_pos rfl, if_pos (List.mem_cons_self ..)]
      have hl : (wipe σ vs).length = σ.length := wipe_length ..
      rw [hl]
      by_cases hl : v < σ.length
      · rw [if_pos hl, List.getElem?_eq_getElem hl]; rfl
      · rw [if_neg hl, List.getElem?_eq_none (show σ.length ≤ v by omega)]; rfl
    · rw [if_neg h, ih]
      simp [Ne.symm h]
theorem wipe_set {τ : L2.St} {vs : List Nat} {v : Nat} {x : Option V} (h : v ∈ vs) : wipe (τ.set v x) vs = wipe τ vs := by
  refine List.ext_getElem? fun j => ?_
  rw [wipe_get, wipe_get]
  by_cases hj : j ∈ vs
  · rw [if_pos hj, if_pos hj, List.getElem?_set]
    split
    · rename_i e
      subst e
      split
      · rename_i hl
        rw [List.getElem?_eq_getElem hl]; rfl
      · rename_i hl
        rw [List.getElem?_eq_none (show τ.length ≤ v by omega)]
    · rfl
  · rw [if_neg hj, if_neg hj, List.getElem?_set_ne (fun e => hj (by rw [← e]; exact h))]
theorem wipe_wipe {σ : L2.St} {vs : List Nat} : wipe (wipe σ vs) vs = wipe σ vs := by
  refine List.ext_getElem? fun j => ?_
  rw [wipe_get, wipe_get]
  by_cases hj : j ∈ vs
  · rw [if_pos hj, if_pos hj]
    cases σ[j]? <;> rfl
  · rw [if_neg hj, if_neg hj]
section
variable {w : Wd} {Γ : Env} {S : List Own} {k : KE}
/-- a target in a block's turn -/
def TgOk (w : Wd) (g : TG) (vs : List Nat) (d : D) (up : Env → Env) : Prop :=
  ∀ (σ : L2.St) (Γ : Env) (R H : Hp) (as : List Addr) (S : List Own) (u : V) (Q : L2.St → Hp → Prop), Rel w R H as S → Sts w.K R as σ Γ → Den w.K R u d →
    (∀ σ2, Sts w.K R as σ2 (up (wipeG Γ vs)) → wipe σ2 vs = wipe σ vs → Q σ2 H) → g u (wipe σ vs) H Q
theorem tg_name {v : Nat} {vs : List Nat} {d : D} (h : v ∈ vs) : TgOk w (gName v) vs d fun Γ => Γ.set v (some (.d d)) := fun σ Γ R H as S u Q rl st hd c =>
  c _ ((st.wipe vs).set v (ok_d hd)) (by rw [wipe_set h, wipe_wipe])
theorem tg_pair {i j : Nat} {vs : List Nat} {x y : D} (hi : i ∈ vs) (hj : j ∈ vs) : TgOk w (gTup w.K 2 (gCons (gName i) (gCons (gName j) gNil))) vs (.tup [x, y]) fun Γ => (Γ.set i (some (.d x))).set j (some (.d y)) := fun σ Γ R H as S u Q rl st hd c => by
  cases hd with
  | tup ha hds =>
    rename_i a xs
    match xs, hds with
    | [v1, v2], hds =>
      cases hds with
      | cons h1 h2 =>
        cases h2 with
        | cons h2 h3 =>
          refine ⟨a, _, rfl, SqT.of (rl.sub _ _ ha), rfl, v1, [v2], rfl, v2, [], rfl, rfl, ?_⟩
          exact c _ (((st.wipe vs).set i (ok_d h1)).set j (ok_d h2)) (by rw [wipe_set hj, wipe_set hi, wipe_wipe])
/-- what a turn of a block does, once its target is set -/
def LcG (w : Wd) (Γ' : Env) (tt : TT) (te : TE) (acc : List D) (S2 : List Own) (N : List D → List Own → Prop) : Prop :=
  LT w tt Γ' (S2 ++ [.lst acc]) fun b S3 =>
    (b = true → LE w te Γ' S3 fun e S4 => ∃ d S5, e = .d d ∧ S4 = S5 ++ [.lst acc] ∧ S5.length = S2.length ∧ acc.length < sizeLine ∧ N (acc ++ [d]) S5) ∧
    (b = false → ∃ S5, S3 = S5 ++ [.lst acc] ∧ S5.length = S2.length ∧ N acc S5)
theorem lc_turnG {tt : TT} {te : TE} {σ2 : L2.St} {Γ' : Env} {R1 R2 H2 : Hp} {as1 as2 : List Addr} {S2 : List Own} {acc : List D} {Dl : Addr} {N : List D → List Own → Prop} (st2 : Sts w.K R2 as2 σ2 Γ')
    (rl : Rel w R2 H2 as2 (S2 ++ [.lst acc])) (sb : Sub R1 R2) (pr : Pre as1 as2) (hD : as2[S2.length]? = some Dl) (h : LcG w Γ' tt te acc S2 N) :
    tt σ2 H2 fun b H4 => if b = true then te σ2 H4 fun y H5 => ∃ acc, H5 Dl = some (.lst acc) ∧ acc.length < sizeLine ∧ LcP w R1 as1 S2.length Dl N (upd H5 Dl (.lst (acc ++ [y]))) else LcP w R1 as1 S2.length Dl N H4 := by
  refine h _ R2 H2 as2 _ rl st2 fun b S3 R3 H3 as3 rl3 s3 p3 q => ?_
  cases b with
  | true =>
    rw [if_pos rfl]
    refine q.1 rfl _ R3 H3 as3 _ rl3 (st2.mono s3 p3) fun y e S4 R4 H4 as4 rl4 s4 p4 e4 q4 => ?_
    obtain ⟨d, S5, rfl, rfl, hl, hz, hn⟩ := q4
    have hi : (S5 ++ [Own.lst acc])[S5.length]? = some (.lst acc) := List.getElem?_concat_length
    have ha : as4[S5.length]? = some Dl := by rw [hl]; exact p4 _ _ (p3 _ _ hD)
    obtain ⟨⟨z, vs, c1, c2⟩, _⟩ := rl4.reg _ _ _ hi ha (by intro z; cases z)
    refine ⟨vs, c1, by rw [c2.len]; exact hz, S5, R4, as4, acc ++ [d], ?_, (sb.trans s3).trans s4, (pr.trans p3).trans p4, ha, hl, hn⟩
    have rl5 := rl4.write (o' := .lst (acc ++ [d])) (u := .lst (vs ++ [y])) hi ha (by intro z; cases z) (by intro z; cases z) ⟨z, _, upd_same, c2.append (.cons e4 .nil)⟩
    have es : (S5 ++ [Own.lst acc]).set S5.length (.lst (acc ++ [d])) = S5 ++ [.lst (acc ++ [d])] := by
      rw [List.set_append_right _ _ (Nat.le_refl _), Nat.sub_self]; rfl
    rw [es] at rl5
    exact rl5
  | false =>
    rw [if_neg Bool.false_ne_true]
    obtain ⟨S5, rfl, hl, hn⟩ := q.2 rfl
    exact ⟨S5, R3, as3, acc, rl3, sb.trans s3, pr.trans p3, by rw [hl]; exact p3 _ _ hD, hl, hn⟩
theorem le_lcG {tl te : TE} {g : TG} {tt : TT} {vs : List Nat} (h : LE w tl Γ S fun e S1 => ∃ ds, e = .d (.lst ds) ∧ ∃ I : Nat → List D → List Own → Prop, I 0 [] S1 ∧
    (∀ i d acc S2, ds[i]? = some d → S2.length = S1.length → I i acc S2 → ∃ up, TgOk w g vs d up ∧ LcG w (up (wipeG Γ vs)) tt te acc S2 (I (i + 1))) ∧ (∀ acc S2, I ds.length acc S2 → k (.d (.lst acc)) S2)) : LE w (tLc (iList w.K tl) g tt te vs) Γ S k := fun σ R H as Q rl s c => by
  refine h σ R H as _ rl s fun vl el S1 R1 H1 as1 rl1 s1 p1 e1 ⟨ds, h1, I, i0, is, iE⟩ => ?_
  subst h1
  cases e1 with
  | lst ha hd =>
    rename_i a xs
    refine ⟨a, rfl, ⟨xs, SqL.of (rl1.sub _ _ ha)⟩, fun Dl hD => ?_⟩
    refine lc_list (xs := xs) (fun i H => LcP w R1 as1 S1.length Dl (I i) H) (lc_begin rl1 hD i0) (fun i H2 hi p => ?_) (fun i x H2 hx p => ?_) fun H2 p => ?_
    · obtain ⟨S2, R2, as2, acc, rl2, sb, pr, ha2, hl, hi2⟩ := p
      exact SqL.of (rl2.sub _ _ (sb _ _ ha))
    · obtain ⟨S2, R2, as2, acc, rl2, sb, pr, ha2, hl, hi2⟩ := p
      obtain ⟨d, hd1, hd2⟩ := hd.get2 hx
      obtain ⟨up, hu, hg⟩ := is i d acc S2 hd1 hl hi2
      refine hu σ Γ R2 H2 as2 _ x _ rl2 ((s.mono s1 p1).mono sb pr) (hd2.mono sb) fun σ2 st2 hw => ⟨hw, ?_⟩
      have := lc_turnG (Dl := Dl) st2 rl2 sb pr ha2 hg
      rw [hl] at this
      exact this
    · rw [hd.len] at p
      obtain ⟨acc, S', R', as', q1, q2, q3, q4, q5⟩ := lc_end rl1.len rl1.as0_le p
      exact c _ _ S' R' _ as' q1 (s1.trans q2) (p1.trans q3) (ok_d q4) (iE acc S' q5)
theorem le_lcGO {tl te : TE} {g : TG} {tt : TT} {vs : List Nat} (h : LE w tl Γ S fun e S1 => ∃ ds, e = .d (.lst ds) ∧ ∃ I : Nat → List D → List Own → Prop, I 0 [] S1 ∧
    (∀ i d acc S2, ds[i]? = some d → S2.length = S1.length → I i acc S2 → ∃ up, TgOk w g vs d up ∧ LcG w (up (wipeG Γ vs)) tt te acc S2 (I (i + 1))) ∧ (∀ acc S2, S2.length = S1.length → I ds.length acc S2 → k (.own S2.length) (S2 ++ [.lst acc]))) : LE w (tLc (iList w.K tl) g tt te vs) Γ S k := fun σ R H as Q rl s c => by
  refine h σ R H as _ rl s fun vl el S1 R1 H1 as1 rl1 s1 p1 e1 ⟨ds, h1, I, i0, is, iE⟩ => ?_
  subst h1
  cases e1 with
  | lst ha hd =>
    rename_i a xs
    refine ⟨a, rfl, ⟨xs, SqL.of (rl1.sub _ _ ha)⟩, fun Dl hD => ?_⟩
    refine lc_list (xs := xs) (fun i H => LcP w R1 as1 S1.length Dl (I i) H) (lc_begin rl1 hD i0) (fun i H2 hi p => ?_) (fun i x H2 hx p => ?_) fun H2 p => ?_
    · obtain ⟨S2, R2, as2, acc, rl2, sb, pr, ha2, hl, hi2⟩ := p
      exact SqL.of (rl2.sub _ _ (sb _ _ ha))
    · obtain ⟨S2, R2, as2, acc, rl2, sb, pr, ha2, hl, hi2⟩ := p
      obtain ⟨d, hd1, hd2⟩ := hd.get2 hx
      obtain ⟨up, hu, hg⟩ := is i d acc S2 hd1 hl hi2
      refine hu σ Γ R2 H2 as2 _ x _ rl2 ((s.mono s1 p1).mono sb pr) (hd2.mono sb) fun σ2 st2 hw => ⟨hw, ?_⟩
      have := lc_turnG (Dl := Dl) st2 rl2 sb pr ha2 hg
      rw [hl] at this
      exact this
    · rw [hd.len] at p
      obtain ⟨S2, R2, as2, acc, rl2, sb, pr, ha2, hl, hi2⟩ := p
      exact c _ (.own S2.length) _ R2 _ as2 rl2 (s1.trans sb) (p1.trans pr) (show EntOk w.K R2 as2 (.ref Dl) (.own S2.length) from ⟨Dl, ha2, rfl⟩) (iE acc S2 hl hi2)
theorem lcP_mono {R1 R2 H : Hp} {as1 as2 : List Addr} {n : Nat} {Dl : Addr} {I J : List D → List Own → Prop} (h : LcP w R2 as2 n Dl I H) (sb : Sub R1 R2) (pr : Pre as1 as2) (hI : ∀ acc S', I acc S' → J acc S') : LcP w R1 as1 n Dl J H := by
  obtain ⟨S', R', as', acc, rl, sb', pr', hD, hl, hi⟩ := h
  exact ⟨S', R', as', acc, rl, sb.trans sb', pr.trans pr', hD, hl, hI _ _ hi⟩
/-- [.. for g in l for g1 in l1]: the store stays -/
theorem le_lc2 {tl tl1 te : TE} {g g1 : TG} {vs vs1 : List Nat} (h : LE w tl Γ S fun e S1 => ∃ ds, e = .d (.lst ds) ∧ ∃ I : Nat → List D → Prop, I 0 [] ∧
    (∀ i d acc, ds[i]? = some d → I i acc → ∃ up, TgOk w g vs d up ∧ LE w tl1 (up (wipeG Γ vs)) (S1 ++ [.lst acc]) fun e' S2 => S2 = S1 ++ [.lst acc] ∧ ∃ es, e' = .d (.lst es) ∧ ∃ J : Nat → List D → Prop, J 0 acc ∧
      (∀ q d' acc', es[q]? = some d' → J q acc' → ∃ up1, TgOk w g1 vs1 d' up1 ∧ LE w te (up1 (wipeG (up (wipeG Γ vs)) vs1)) (S1 ++ [.lst acc']) fun y S3 => S3 = S1 ++ [.lst acc'] ∧ ∃ z, y = .d z ∧ acc'.length < sizeLine ∧ J (q + 1) (acc' ++ [z])) ∧
      (∀ acc', J es.length acc' → I (i + 1) acc')) ∧ (∀ acc, I ds.length acc → k (.d (.lst acc)) S1)) : LE w (tLc2 (iList w.K tl) g tYes (iList w.K tl1) g1 tYes te vs vs1) Γ S k := fun σ R H as Q rl s c => by
  refine h σ R H as _ rl s fun vl el S1 R1 H1 as1 rl1 s1 p1 e1 ⟨ds, h1, I, i0, is, iE⟩ => ?_
  subst h1
  cases e1 with
  | lst ha hd =>
    rename_i a xs
    refine ⟨a, rfl, ⟨xs, SqL.of (rl1.sub _ _ ha)⟩, fun Dl hD => ?_⟩
    refine ⟨fun i m H => m = xs.length - i ∧ i ≤ xs.length ∧ LcP w R1 as1 S1.length Dl (fun acc S' => S' = S1 ∧ I i acc) H, ⟨_, rfl, Nat.zero_le _, lc_begin rl1 hD ⟨rfl, i0⟩⟩, ?_⟩
    rintro i m H2 ⟨rfl, hi, p⟩
    obtain ⟨S2, R2, as2, acc, rl2, sb, pr, ha2, hl, rfl, hi2⟩ := p
    have sq : SqL w.K H2 a xs := SqL.of (rl2.sub _ _ (sb _ _ ha))
    by_cases hx : i < xs.length
    · have hx1 : xs[i]? = some xs[i] := List.getElem?_eq_getElem hx
      refine .inr ⟨⟨xs, _, sq, hx1⟩, fun H' => LcP w R1 as1 S2.length Dl (fun acc S' => S' = S2 ∧ I (i + 1) acc) H', fun H' hp => ⟨xs.length - (i + 1), by omega, rfl, hx, hp⟩, ?_⟩
      rintro x _ ⟨rfl, hy⟩
      have hxx := hy xs sq
      obtain ⟨d, hd1, hd2⟩ := hd.get2 hxx
      obtain ⟨up, hu, hg⟩ := is i d acc hd1 hi2
      refine hu σ Γ R2 _ as2 _ x _ rl2 ((s.mono s1 p1).mono sb pr) (hd2.mono sb) fun σ2 st2 hw => ⟨hw, ?_⟩
      unfold tYes
      dsimp only
      rw [if_pos rfl]
      refine hg σ2 R2 _ as2 _ rl2 st2 fun vl2 el2 S3 R3 H3 as3 rl3 s3 p3 e3 ⟨q1, es, q2, J, j0, js, jE⟩ => ?_
      subst q1
      subst q2
      cases e3 with
      | lst hb hd' =>
        rename_i b ys
        have hD3 := p3 _ _ ha2
        refine ⟨b, rfl, ⟨ys, SqL.of (rl3.sub _ _ hb)⟩, ?_⟩
        refine ⟨fun q m H => m = ys.length - q ∧ q ≤ ys.length ∧ LcP w R3 as3 S2.length Dl (fun acc' S' => S' = S2 ∧ J q acc') H, ⟨_, rfl, Nat.zero_le _, S2, R3, as3, acc, rl3, Sub.refl _, Pre.refl _, hD3, rfl, rfl, j0⟩, ?_⟩
        rintro q m H4 ⟨rfl, hq, p⟩
        obtain ⟨S4, R4, as4, acc', rl4, sb4, pr4, ha4, hl4, rfl, hj⟩ := p
        have sq4 : SqL w.K H4 b ys := SqL.of (rl4.sub _ _ (sb4 _ _ hb))
        by_cases hy2 : q < ys.length
        · have hy1 : ys[q]? = some ys[q] := List.getElem?_eq_getElem hy2
          refine .inr ⟨⟨ys, _, sq4, hy1⟩, fun H' => LcP w R3 as3 S4.length Dl (fun acc' S' => S' = S4 ∧ J (q + 1) acc') H', fun H' hp => ⟨ys.length - (q + 1), by omega, rfl, hy2, hp⟩, ?_⟩
          rintro x' _ ⟨rfl, hy'⟩
          obtain ⟨d', hd1', hd2'⟩ := hd'.get2 (hy' ys sq4)
          obtain ⟨up1, hu1, hg1⟩ := js q d' acc' hd1' hj
          refine hu1 σ2 _ R4 _ as4 _ x' _ rl4 ((st2.mono s3 p3).mono sb4 pr4) (hd2'.mono sb4) fun σ3 st3 hw3 => ⟨hw3, ?_⟩
          try unfold tYes
          dsimp only
          rw [if_pos rfl]
          refine hg1 σ3 R4 _ as4 _ rl4 st3 fun y ey S5 R5 H5 as5 rl5 s5 p5 e5 ⟨q5, z, q6, hz, hn⟩ => ?_
          subst q5
          subst q6
          have hi5 : (S4 ++ [Own.lst acc'])[S4.length]? = some (.lst acc') := List.getElem?_concat_length
          have ha5 : as5[S4.length]? = some Dl := p5 _ _ ha4
          obtain ⟨⟨zz, vs5, c1, c2⟩, _⟩ := rl5.reg _ _ _ hi5 ha5 (by intro z; cases z)
          refine ⟨vs5, c1, by rw [c2.len]; exact hz, S4, R5, as5, acc' ++ [z], ?_, sb4.trans s5, pr4.trans p5, ha5, rfl, rfl, hn⟩
          have rl6 := rl5.write (o' := .lst (acc' ++ [z])) (u := .lst (vs5 ++ [y])) hi5 ha5 (by intro z; cases z) (by intro z; cases z) ⟨zz, _, upd_same, c2.append (.cons e5 .nil)⟩
          have es : (S4 ++ [Own.lst acc']).set S4.length (.lst (acc' ++ [z])) = S4 ++ [.lst (acc' ++ [z])] := by
            rw [List.set_append_right _ _ (Nat.le_refl _), Nat.sub_self]; rfl
          rw [es] at rl6
          exact rl6
        · have e : q = ys.length := by omega
          subst e
          refine .inl ⟨⟨ys, sq4, Nat.le_refl _⟩, ?_⟩
          rw [hd'.len] at hj
          exact ⟨S4, R4, as4, acc', rl4, (sb.trans s3).trans sb4, (pr.trans p3).trans pr4, ha4, rfl, rfl, jE acc' hj⟩
    · have e : i = xs.length := by omega
      subst e
      refine .inl ⟨⟨xs, sq, Nat.le_refl _⟩, ?_⟩
      rw [hd.len] at hi2
      obtain ⟨acc', S', R', as', q1, q2, q3, q4, q5, q6⟩ := lc_end rl1.len rl1.as0_le (I := fun acc S' => S' = S2 ∧ I ds.length acc) ⟨S2, R2, as2, acc, rl2, sb, pr, ha2, rfl, rfl, hi2⟩
      subst q5
      exact c _ _ S' R' _ as' q1 (s1.trans q2) (p1.trans q3) (ok_d q4) (iE acc' q6)
/-! sorted, of pairs and of numbers -/
abbrev pD2 (p : Int × Int) : D := .tup [.int p.1, .int p.2]
def pk (R : Hp) : V → Int × Int
  | .ref t => match R t with
    | some (.tup [.int a, .int b]) => (a, b)
    | _ => (0, 0)
  | _ => (0, 0)
theorem den_pair {K : PySem.W.Frag} {R : Hp} {x : V} {p : Int × Int} (h : Den K R x (pD2 p)) : (∃ t, x = .ref t ∧ R t = some (.tup [.int p.1, .int p.2])) ∧ pk R x = p := by
  cases h with
  | tup ha hd =>
    rename_i a vs
    have e := Dens.ints (ns := [p.1, p.2]) hd
    subst e
    refine ⟨⟨a, rfl, ha⟩, ?_⟩
    unfold pk
    dsimp only
    rw [ha]; rfl
theorem dens_pairs {K : PySem.W.Frag} {R : Hp} : ∀ {xs : List V} {ps : List (Int × Int)}, Dens K R xs (ps.map pD2) → (∀ x ∈ xs, (∃ t, x = .ref t ∧ R t = some (.tup [.int (pk R x).1, .int (pk R x).2])) ∧ Den K R x (pD2 (pk R x))) ∧ xs.map (pk R) = ps
  | [], [], _ => ⟨fun x hx => (List.not_mem_nil hx).elim, rfl⟩
  | x :: xs, p :: ps, .cons h t => by
    obtain ⟨t1, t2⟩ := dens_pairs t
    obtain ⟨h1, h2⟩ := den_pair h
    refine ⟨fun y hy => ?_, by rw [List.map_cons, h2, t2]⟩
    rcases List.mem_cons.mp hy with rfl | hy
    · rw [h2]; exact ⟨h1, h⟩
    · exact t1 y hy
  | [], _ :: _, h => nomatch h
  | _ :: _, [], h => nomatch h
theorem dens_of {K : PySem.W.Frag} {R : Hp} {f : V → D} : ∀ {ys : List V}, (∀ y ∈ ys, Den K R y (f y)) → Dens K R ys (ys.map f)
  | [], _ => .nil
  | y :: ys, h => .cons (h y (List.mem_cons_self ..)) (dens_of fun z hz => h z (List.mem_cons_of_mem _ hz))
theorem rc_sortP {ps : List (Int × Int)} (q : ∀ qs : List (Int × Int), qs.Perm ps → k (.d (.lst (qs.map pD2))) S) : RC w (rSortedPO w.K) [.d (.lst (ps.map pD2))] S k := fun R H as us Q rl hu c => by
  obtain ⟨v, rfl, hv⟩ := one_ent hu
  have hv' : Den w.K R v (.lst (ps.map pD2)) := hv
  cases hv' with
  | lst ha hd =>
    rename_i a xs
    obtain ⟨h1, h2⟩ := dens_pairs hd
    refine ⟨a, xs, pk R, rfl, SqL.of (rl.sub _ _ ha), fun x hx => ?_, fun ys p _ st hp => ?_⟩
    · obtain ⟨⟨t, e1, e2⟩, _⟩ := h1 x hx
      exact ⟨t, e1, rl.sub _ _ e2⟩
    · obtain ⟨rl2, s2⟩ := rl.alloc hp (.lst ys)
      have hperm := st.perm
      have hd2 : Dens w.K R ys (ys.map fun y => pD2 (pk R y)) := dens_of (f := fun y => pD2 (pk R y)) fun y hy => (h1 y (hperm.mem_iff.mp hy)).2
      have e : (ys.map fun y => pD2 (pk R y)) = (ys.map (pk R)).map pD2 := by rw [List.map_map]; rfl
      rw [e] at hd2
      exact c _ _ S _ _ as rl2 s2 (Pre.refl _) (ok_d (Den.lst upd_same (hd2.mono s2))) (q _ (by rw [← h2]; exact hperm.map _))
end
section
variable {X : Cx} {e : Expr} {p pos : Pos} {te : TE}
theorem b_sortP (hm : X.mg "sorted" = none) (he : PE X e te) (hg : Gl X "sorted" := by rfl) (hs : starEach [e] X.env = (false, eval e X.env) :: starEach [] X.env := by rfl) : PE X (.Call (.Name "sorted" p) [e] [] pos) (tCB (rSortedPO X.K) (tCons te tNil)) :=
  pe_callB cr_sortedPO hg hm (by decide +kernel) (pa_cons he pa_nil hs) (he := hs)
end
/-! for i in reversed(range(n)) -/
section
variable {w : Wd} {Γ : Env} {S : List Own} {G : GE} {t1 : TS}
theorem ls_forV {ta : TE} {g : TG} (h : LE w ta Γ S fun e S1 => ∃ n : Nat, e = .d (.int n) ∧ n < 2 ^ 60 ∧ ∃ I : Nat → Env → List Own → Prop, I n Γ S1 ∧
    (∀ (i : Nat) Γ1 S2, i < n → I (i + 1) Γ1 S2 → LG w g (.d (.int i)) Γ1 S2 fun Γ2 S3 => LS w t1 Γ2 S3 { G with nx := I i, ct := I i, bk := G.nx }) ∧ (∀ Γ1 S2, I 0 Γ1 S2 → G.nx Γ1 S2)) : LS w (tFor (iRevR (tRg1 ta)) g t1) Γ S G := fun D σ R H as rl s e => by
  refine h σ R H as _ rl s fun v ev S1 R1 H1 as1 rl1 s1 p1 e1 ⟨n, h1, hn, I, i0, is, iE⟩ => ?_
  subst h1
  cases e1
  refine ⟨n, rfl, by decide, by decide, by omega, by omega, ?_⟩
  have en : ((n : Int) - 0).toNat = n := by omega
  rw [en]
  refine for_rangeC (fun t σ' H' => ∃ Γ' S' R' as', Sub R R' ∧ Rel w R' H' as' S' ∧ Sts w.K R' as' σ' Γ' ∧ t ≤ n ∧ I (n - t) Γ' S') ⟨Γ, S1, R1, as1, s1, rl1, s.mono s1 p1, Nat.zero_le _, i0⟩ ?_ ?_
  · rintro t σ2 H2 ht ⟨Γ2, S2, R2, as2, u2, rl2, st2, _, i2⟩
    have et : (0 : Int) + (n : Int) - 1 + (t : Int) * -1 = ((n - (t + 1) : Nat) : Int) := by omega
    rw [et]
    have e2' : n - t = n - (t + 1) + 1 := by omega
    rw [e2'] at i2
    refine is (n - (t + 1)) Γ2 S2 (by omega) i2 _ σ2 R2 H2 as2 _ rl2 st2 (Den.int _) fun Γ3 S3 σ3 R3 H3 as3 rl3 s3 p3 st3 q => ?_
    have up := u2.trans s3
    have e2 := e.up up
    exact q _ σ3 R3 H3 as3 rl3 st3 ⟨fun Γ' S' σ' R' H' as' u a b hi => ⟨Γ', S', R', as', up.trans u, a, b, by omega, hi⟩, e2.rt, e2.nx, fun Γ' S' σ' R' H' as' u a b hi => ⟨Γ', S', R', as', up.trans u, a, b, by omega, hi⟩⟩
  · rintro σ2 H2 ⟨Γ2, S2, R2, as2, u2, rl2, st2, _, i2⟩
    rw [Nat.sub_self] at i2
    exact e.nx Γ2 S2 σ2 R2 H2 as2 u2 rl2 st2 (iE Γ2 S2 i2)
end
end Gm
/-! sorted(set(..)) of lists of numbers -/
namespace Gm
open PySem PySem.Spec PyProof.Rows L2
theorem ints_get : ∀ {vs : List Value} {ns : List Int} {i : Nat} {v : Value}, IntsAre vs ns → vs[i]? = some v → ∃ k t, ns[i]? = some k ∧ v = Value.int k t
  | _, _, _, _, .nil, e => by simp at e
  | _, _, 0, _, .cons n t h, e => by simp at e; exact ⟨n, t, rfl, e.symm⟩
  | _, _, i + 1, _, .cons n t h, e => by
    obtain ⟨k, t', h1, h2⟩ := ints_get (i := i) h (by simpa using e)
    exact ⟨k, t', by simpa using h1, h2⟩
theorem call_set_listI {P : Program} {w : World} {A : Around} {E : Value → Shared → Prop} {s : Shared} {l : Addr} {items : Array Value} (ns : List Int) {Q : Value → Shared → Prop} (hh : A.handled = none) (hl : s.heap.IsList l items) (hit : IntsAre items.toList ns) (hb : ns.length + 1 < scanBound)
    (h : ∀ (h' : Heap) (tk c : Nat), SetR w h' s.heap.objs.size (fun j => decide (j ∈ ns)) c → c ≤ ns.length → (∀ (b : Addr) (o : Obj), s.heap.get? b = some o → h'.get? b = some o) → Q (.ref s.heap.objs.size) { heap := h', gens := s.gens, drawn := s.drawn, toks := tk, os := s.os }) :
    wpAny (model P w) A (call (.type "set") [.ref l]) Q E s := by
  have hisz : items.size = ns.length := by rw [← hit.length, Array.length_toList]
  obtain ⟨c, tl, hmro⟩ := F.called_set.mro
  have hmade := F.called_set.made
  have hsub := F.called_set.sub
  refine wpAny_call (codeAny_of_tree ?_)
  refine wpAny_pure ⟨Code.quiet_builtin _ (by decide +kernel), codeAny_builtin F.entry_type_call ?_⟩
  rw [Around.under_plain (weight_type_call_type "set" [.ref l] []) rfl]
  have h1 := F.called_set.notType
  have h2 := F.called_set.canCreate
  have hct := F.typeCall_set_1 (.ref l)
  unfold Builtin.«type.__call__»
  refine wpAny_ite_false rfl ?_
  refine wpAny_ite_false rfl ?_
  refine wpAny_bind (wpAny_of_eq hct ?_)
  refine wpAny_bind (wpAny_of_eq hmro ?_)
  refine wpAny_ite_false rfl ?_
  refine wpAny_bind (wpAny_of_eq hmade ?_)
  refine wpAny_bind (wpAny_pure ?_)
  refine wpAny_bind (wpAny_holding (wpAny_call ?_))
  refine codeAny_mono (code_set_led1 (P := P) (w := w) (A := A.in1) (E := fun _ _ => False) (s := s) (.ref l) (Q₁ := fun v s1 => v = .ref s.heap.objs.size ∧ s1 = { heap := s.heap.push { cls := Value.type "set", data := Data.set #[] 0 (SetTable.fresh 0 0 !w.params.followText "set-order") }, gens := s.gens, drawn := s.drawn, toks := s.toks, os := s.os }) ⟨rfl, rfl⟩) fun r s₁ hr => ?_
  match r, hr with
  | .ok (.ret v), hr =>
    obtain ⟨rfl, rfl⟩ := hr
    dsimp only
    have hnew : (s.heap.push { cls := Value.type "set", data := Data.set #[] 0 (SetTable.fresh 0 0 !w.params.followText "set-order") }).get? s.heap.objs.size = some { cls := Value.type "set", data := Data.set #[] 0 (SetTable.fresh 0 0 !w.params.followText "set-order") } := Heap.get?_push_size _ rfl
    have hsd : (Data.set #[] 0 (SetTable.fresh 0 0 !w.params.followText "set-order")) = Data.set #[] 0 (SetTable.fresh 0 0 !w.params.followText "set-order") := rfl
    generalize hO : ({ cls := Value.type "set", data := Data.set #[] 0 (SetTable.fresh 0 0 !w.params.followText "set-order") } : Obj) = O at *
    have hty : (Shared.mk (s.heap.push O) s.gens s.drawn s.toks s.os).TypeIs (.ref s.heap.objs.size) "set" := by
      exact ⟨_, hnew, by rw [← hO]⟩
    have hOd : O.data = Data.set #[] 0 (SetTable.fresh 0 0 !w.params.followText "set-order") := by rw [← hO]
    have hOc : O.cls = .type "set" := by rw [← hO]
    refine wpAny_bind (wpAny_isInstance hty hsub ?_)
    refine wpAny_ite_false rfl ?_
    refine wpAny_bind (wpAny_holding ?_)
    unfold callSpecial?
    refine wpAny_bind (wpAny_specialOf hty F.called_set.init.lookup ?_)
    dsimp only
    refine wpAny_holding (wpAny_bind (wpAny_of_eq (F.called_set.init.bind ..) ?_))
    refine wpAny_bind (wpAny_call ?_)
    refine codeAny_mono (R := fun r s' => r = .ok (.ret .none) ∧ ∃ (h' : Heap) (tk c : Nat), s' = { heap := h', gens := s.gens, drawn := s.drawn, toks := tk, os := s.os } ∧ SetR w h' s.heap.objs.size (fun j => decide (j ∈ ns)) c ∧ c ≤ ns.length ∧ (∀ (b : Addr) (o : Obj), s.heap.get? b = some o → h'.get? b = some o)) ?_ fun r s₁ hr => ?_
    · refine codeAny_call_builtin F.called_set.init.plain F.entry_set_init (check_set_init_1 hty ?_)
      unfold Builtin.«set.__init__»
      refine wpAny_bind (wpAny_ite_true rfl (wpAny_pure ?_))
      simp only [List.cons_append, List.nil_append]
      refine wpAny_bind ?_
      unfold typeNameOfCut
      refine wpAny_bind ?_
      unfold shownTypeOf
      refine wpAny_bind (wpAny_typeOf hty ?_)
      refine wpAny_ite_false rfl ?_
      refine wpAny_pure ?_
      refine wpAny_pure ?_
      refine wpAny_bind ?_
      unfold checkCount
      refine wpAny_ite_false rfl ?_
      refine wpAny_ite_false rfl ?_
      refine wpAny_ite_false rfl ?_
      refine wpAny_pure ?_
      refine wpAny_bind ?_
      unfold Builtin.Frozenset.addrOf
      refine wpAny_pure ?_
      refine wpAny_bind ?_
      unfold setUsed
      refine wpAny_bind ?_
      unfold setState
      refine wpAny_bind (wpAny_load' hnew ?_)
      rw [hOd]
      dsimp only
      refine wpAny_ite_false rfl ?_
      refine wpAny_pure ?_
      refine wpAny_pure ?_
      refine wpAny_ite_false rfl ?_
      refine wpAny_bind ?_
      unfold Builtin.Frozenset.updateFrom
      obtain ⟨o, ho, hocls, no, hodata⟩ := hl
      have hl1 : (s.heap.push O).get? l = some o := Heap.get?_push_of_some _ ho
      have hlty : (Shared.mk (s.heap.push O) s.gens s.drawn s.toks s.os).TypeIs (.ref l) "list" := ⟨o, hl1, hocls⟩
      refine wpAny_bind ?_
      unfold Builtin.Frozenset.isAnySet
      refine wpAny_bind (wpAny_isInstance hlty F.sub_list_set ?_)
      show wpAny _ _ (isInstance (.ref l) (.type "frozenset")) _ _ _
      refine wpAny_isInstance hlty F.sub_list_frozenset ?_
      refine wpAny_ite_false rfl ?_
      refine wpAny_bind (wpAny_typeOf hlty ?_)
      refine wpAny_ite_false rfl ?_
      have hIL : (s.heap.push O).IsList l items := ⟨o, hl1, hocls, no, hodata⟩
      refine wpAny_bind (wpAny_pyIter_list hIL ?_)
      refine wpAny_bind (wpAny_runValue ?_)
      have hl0 : l < s.heap.objs.size := Heap.lt_size ho
      have hsz : (s.heap.push O).objs.size = s.heap.objs.size + 1 := Heap.size_push ..
      have hne : l ≠ (s.heap.push O).objs.size := by
        rw [hsz]
        exact Nat.ne_of_lt (Nat.lt_succ_of_lt hl0)
      refine set_update_ints (Walks.toS (Walks.list (A := A.in1.in1.in1) hh (s.heap.push O).objs.size l hne items)) s.heap.objs.size ?_ ns hisz hb ?_ _ 0 _ rfl (Nat.zero_le _) ?_ ⟨0, Nat.le_refl _, setR_new_at ?_⟩ fun s' c' hm hc hs => ?_
      · intro hm
        rcases List.mem_cons.mp hm with e | hm
        · rw [hsz] at e
          exact Nat.ne_of_lt (Nat.lt_succ_self _) e
        · exact Nat.ne_of_gt hl0 (List.mem_singleton.mp hm)
      · intro i v hv
        exact ints_get hit (by rw [Array.getElem?_toList]; exact hv)
      · exact ⟨⟨_, Heap.get?_push_size _ rfl, rfl, rfl⟩, hIL.push _⟩
      · exact (Heap.get?_push_of_some _ hnew).trans (by rw [← hO])
      · refine wpAny_pure (wpAny_pure ⟨rfl, s'.heap, s'.toks, c', ?_, hs, by rw [← hisz]; exact hc, fun b o' hb' => ?_⟩)
        · have e1 := hm.gens
          have e2 := hm.drawn
          have e3 := hm.os
          cases s'
          dsimp only at e1 e2 e3
          subst e1; subst e2; subst e3
          rfl
        · refine hm.heap b o' (fun hm2 => ?_) (Heap.get?_push_of_some _ (Heap.get?_push_of_some _ hb'))
          have hb0 : b < s.heap.objs.size := Heap.lt_size hb'
          rcases List.mem_cons.mp hm2 with e | hm2
          · exact Nat.ne_of_lt hb0 e
          · have e := List.mem_singleton.mp hm2
            rw [hsz] at e
            exact Nat.ne_of_lt (Nat.lt_succ_of_lt hb0) e
    · obtain ⟨rfl, h', tk, c', rfl, hs, hc, hk⟩ := hr
      refine wpAny_pure ?_
      refine wpAny_ite_false rfl ?_
      exact wpAny_pure (h h' tk c' hs hc hk)


theorem vals_ints : ∀ {ns : List Int} {vs : List Value}, Vals (ns.map V.int) vs → IntsAre vs ns
  | [], _, h => by cases h; exact .nil
  | n :: ns, _, h => by
    cases h with
    | cons h t =>
      obtain ⟨tk, rfl⟩ := h
      exact .cons n tk (vals_ints t)
def rSetL (K : PySem.W.Frag) (W : World) : List V → Hp → VK → Prop := fun xs H Q => ∃ (l : Addr) (ns : List Int), xs = [.ref l] ∧ SqL K H l (ns.map V.int) ∧ ns.length + 1 < scanBound ∧ ∀ (p : Addr) (c : Nat), H p = none → c ≤ ns.length → Q (.ref p) (upd H p (SetO W p (fun j => decide (j ∈ ns)) c))
theorem c_setL {X : Cx} (hc : X.A.handled = none) : CallR X (.type "set") (rSetL X.K X.w) := by
  intro pins s σ H xs us Q I r h
  obtain ⟨l, ns, rfl, sq, hb, q⟩ := h
  obtain ⟨u, rfl, ru⟩ := r.one
  obtain rfl : u = Value.ref l := ru
  obtain ⟨its, hv, hp, _⟩ := I.list sq
  refine call_set_listI ns hc (items := its.toArray) ?_ (by exact vals_ints hv) hb fun h' tk c hs hcn hk => ?_
  · obtain ⟨o, n, h1, h2, _, h3⟩ := hp
    exact ⟨o, h1, h2, n, h3⟩
  · exact ⟨.ref s.heap.objs.size, _, I.laid hk (Nat.le_refl _) (setO_new hs), rfl, q _ c I.fresh hcn⟩
section
variable {w : Wd} {Γ : Env} {S : List Own} {k : KE}
theorem le_sortSet {W : World} {te : TE} (h : LE w te Γ S fun e S1 => ∃ s : List Int, IsLst e S1 (s.map D.int) ∧ s.length < 64 ∧ ∀ out : List Int, out.Pairwise (· < ·) → (∀ x, x ∈ out ↔ x ∈ s) → k (.d (.lst (out.map D.int))) S1) :
    LE w (tCB (rSortedSet W) (tCons (tCB (rSetL w.K W) (tCons te tNil)) tNil)) Γ S k := fun σ R H as Q rl s c => by
  refine h σ R H as _ rl s fun v e S1 R1 H1 as1 rl1 s1 p1 e1 ⟨ns, hx, hl, q⟩ => ?_
  obtain ⟨a, ha⟩ := lst_ints (K := w.K) hx rl1 e1
  refine ⟨a, ns, by rw [ha.1], ha.2, Nat.lt_of_lt_of_le (show ns.length + 1 < 70 by omega) (by decide +kernel), fun p n hp hn => ?_⟩
  obtain ⟨rl2, s2⟩ := rl1.alloc hp (SetO W p (fun j => decide (j ∈ ns)) n)
  refine ⟨p, _, n, rfl, upd_same, by omega, fun out p2 h1 h2 h3 hp2 => ?_⟩
  obtain ⟨rl3, s3⟩ := rl2.alloc hp2 (.lst (out.map V.int))
  exact c _ (.d (.lst (out.map D.int))) S1 _ _ as1 rl3 ((s1.trans s2).trans s3) p1 (ok_d (Den.lst upd_same ((Dens.of_ints out).mono s3))) (q out h1 fun x => by rw [h2]; simp)
end
section
variable {X : Cx} {e : Expr} {p pos p2 pos2 : Pos} {te : TE}
theorem b_sortSet (hm : X.mg "sorted" = none) (hm2 : X.mg "set" = none) (he : PE X e te) (hc : X.calm = true := by rfl) (hh : X.A.handled = none := by rfl) (hg : Gl X "sorted" := by rfl) (hg2 : Gl X "set" := by rfl)
    (hs : starEach [e] X.env = (false, eval e X.env) :: starEach [] X.env := by rfl)
    (hs2 : starEach [.Call (.Name "set" p2) [e] [] pos2] X.env = (false, eval (.Call (.Name "set" p2) [e] [] pos2) X.env) :: starEach [] X.env := by rfl) :
    PE X (.Call (.Name "sorted" p) [.Call (.Name "set" p2) [e] [] pos2] [] pos) (tCB (rSortedSet X.w) (tCons (tCB (rSetL X.K X.w) (tCons te tNil)) tNil)) :=
  pe_callB (cr_sortedSet hc) hg hm (by decide +kernel) (pa_cons (pe_callTy (c_setL hh) hg2 hm2 (by decide +kernel) (pa_cons he pa_nil hs) (he := hs)) pa_nil hs2) (he := hs2)
end
/-! sorted(..) of lists of numbers -/
section
variable {w : Wd} {Γ : Env} {S : List Own} {k : KE}
theorem rc_sortI {x : Ent} {s : List Int} (hx : IsLst x S (s.map D.int)) (q : ∀ out : List Int, out.Perm s → out.Pairwise (· ≤ ·) → k (.d (.lst (out.map D.int))) S) : RC w (rSortedI w.K) [x] S k := fun R H as us Q rl hu c => by
  obtain ⟨v, rfl, hv⟩ := one_ent hu
  obtain ⟨a, ha⟩ := lst_ints (K := w.K) hx rl hv
  refine ⟨a, s, by rw [ha.1], ha.2, fun out p h1 h2 hp => ?_⟩
  obtain ⟨rl2, s2⟩ := rl.alloc hp (.lst (out.map V.int))
  exact c _ _ S _ _ as rl2 s2 (Pre.refl _) (ok_d (Den.lst upd_same ((Dens.of_ints out).mono s2))) (q out h1 h2)
end
section
variable {X : Cx} {e : Expr} {p pos : Pos} {te : TE}
theorem b_sortI (hm : X.mg "sorted" = none) (he : PE X e te) (hg : Gl X "sorted" := by rfl) (hs : starEach [e] X.env = (false, eval e X.env) :: starEach [] X.env := by rfl) : PE X (.Call (.Name "sorted" p) [e] [] pos) (tCB (rSortedI X.K) (tCons te tNil)) :=
  pe_callB cr_sortedI hg hm (by decide +kernel) (pa_cons he pa_nil hs) (he := hs)
end
end Gm
/-! calls of defs whose promise wants that no repr runs around -/
namespace Gm
open PySem PySem.Spec PyProof.Rows L2
theorem run_fnG {X : Cx} {CX : CXT} {k : Nat} {f : Addr} {fd : FuncData} {ps : List Str} {sp : Sp} {E : XK} {pins : List (Addr × Obj)} {σ : L2.St} {H : Hp} {s : Shared} {Q : VK} {us : List Value} {vs : List V}
    (F : FnOkG X.prog X.w X.K X.mg X.base CX k f fd ps sp) (hg : X.A.guards = some []) (hr : Room k X.A) (hb : Binds X.K fd ps []) (hx : Passes CX X E) (I : L2.Inv X pins σ H s) (r : Vals vs us) (h : sp vs H Q E) : wpAny (model X.prog X.w) X.A (call (.ref f) us) (EP X pins σ Q) X.xe s := by
  have hl : us.length = ps.length := by rw [← F.len vs H Q E h, r.length]
  have hbd := hb s us I.kIn (by rw [List.append_nil]; exact hl)
  rw [List.append_nil] at hbd
  refine wpAny_call (codeAny_mono (F.run X.A X.stack s H ⟨us, []⟩ us vs Q E hg hr I.env0 hbd r h) fun r s' hr => ?_)
  match r, hr with
  | .error e, hr => exact hx pins σ H s e s' I hr
  | .ok .next, hr => exact hr.elim
  | .ok .brk, hr => exact hr.elim
  | .ok .cont, hr => exact hr.elim
  | .ok (.ret u), hr => exact I.after hr
structure DfG (P : Program) (w0 : World) (K : PySem.W.Frag) (mg : Str → Option Value) (base : Heap) (CX : CXT) (k : Nat) (x : Str) (n : Nat) (ds : DS) : Prop where
  ex : ∃ (f : Addr) (fd : FuncData) (ps : List Str), ps.length = n ∧ FnOkG P w0 K mg base CX k f fd ps (spD K ds) ∧ mg x = some (.ref f) ∧ PySem.W.keepIn K (.ref f) = true ∧ Binds K fd ps []
theorem pe_dfG {X : Cx} {CX : CXT} {k n : Nat} {x : Str} {ds : DS} {E : XK} {p pos : Pos} {e : Expr} {es : List Expr} {t : TA} (hgu : X.A.guards = some []) (d : DfG X.prog X.w X.K X.mg X.base CX k x n ds) (hr : Room k X.A) (hx : Passes CX X E) (ha : PA X (e :: es) t) (hg : Gl X x := by rfl) (hdb : (x == ("__debug__" : Str)) = false := by decide)
    (he : starEach (e :: es) X.env = (false, eval e X.env) :: starEach es X.env := by rfl) (hpl : (backTo pos (starEach es X.env)).any (·.1) = false := by rfl) : PE X (.Call (.Name x p) (e :: es) [] pos) (tCall (spD X.K ds) [] E t) := by
  obtain ⟨f, fd, ps, _, F, hm, hk, hb⟩ := d.ex
  refine ⟨fun pins s σ H Q I h => ?_⟩
  refine wpAny_Call_Name_kw (ld_glob I hg hm ?_ hdb)
  refine PySem.W.callWith_K (first := []) (h₀ := X.base) I.ok.mod.kin hk (thn (ha.run pos pins s σ H _ I h) fun us s1 ⟨vs, H1, I1, r1, q1⟩ => ⟨I1.kIn, ?_⟩) he hpl
  dsimp only at q1
  rw [List.append_nil] at q1
  exact run_fnG F hgu hr hb hx I1 r1 q1
end Gm
/-! sets of numbers by comprehension -/
namespace Gm
open PySem PySem.Spec PyProof.Rows L2
/-- a turn of the comprehension: what the set at D is afterwards -/
abbrev SciT (w : World) (g : TG) (tt : TT) (te : TE) (vs : List Nat) (D : Addr) (x : V) (σ : L2.St) (H : Hp) (N : Hp → Prop) : Prop :=
  g x (wipe σ vs) H fun τ H2 => wipe τ vs = wipe σ vs ∧ tt τ H2 fun b H3 => if b = true then te τ H3 fun y H4 =>
    ∃ (c : Int) (Z : Int → Bool) (n : Nat), y = .int c ∧ H4 D = some (SetO w D Z n) ∧ n + 1 < scanBound ∧ N (upd H4 D (SetO w D (fun j => Z j || decide (j = c)) (if Z c = true then n else n + 1))) else N H3
abbrev set0 (w : World) (H : Hp) (D : Addr) : Hp := upd H D (SetO w D (fun _ => false) 0)
def tSci (w : World) (wi : TI) (g : TG) (tt : TT) (te : TE) (vs : List Nat) : TE := fun σ H Q => wi σ H fun J H1 => ∀ D, H1 D = none → ∃ W : Nat → Nat → Hp → Prop,
  (∃ m, W 0 m (set0 w H1 D)) ∧ ∀ i m H, W i m H → (J.stop i H ∧ Q (.ref D) H) ∨ (J.go i H ∧ ∃ N : Hp → Prop, (∀ H', N H' → ∃ m', m' < m ∧ W (i + 1) m' H') ∧ ∀ x H', J.yld i H x H' → SciT w g tt te vs D x σ H' N)
section
variable {X : Cx}
theorem addI_ok {pins : List (Addr × Obj)} {σ : L2.St} {H : Hp} {s : Shared} {E : Value → Shared → Prop} {D : Addr} {Z : Int → Bool} {n : Nat} {y : Int} {tk : Tok} {Q : Value → Shared → Prop}
    (I : Inv X pins σ H s) (hD : H D = some (SetO X.w D Z n)) (hn : n + 1 < scanBound)
    (q : ∀ t, Inv X pins σ (upd H D (SetO X.w D (fun j => Z j || decide (j = y)) (if Z y = true then n else n + 1))) t → Q .none t) :
    wpAny (model X.prog X.w) X.A (call (.builtin "set.add") [.ref D, .int y tk]) Q E s :=
  setR_add (setO_get I hD) hn fun h' sb new => q _ (I.write (e := D) (t' := s.toks + 1) (by rw [hD]; trivial) (.inl rfl) (fun b u h1 h2 => (sb.2 b h1).trans h2) ⟨_, new.choose_spec.choose_spec.choose_spec.choose_spec.1⟩ (setO_new new))
variable {elt tg iter : Expr} {ifs : List Expr} {scope : Scope} {own : List (PySem.Str × Nat)} {pos : Pos} {wi : TI} {g : TG} {tt : TT} {te : TE}
theorem pe_sci (hc : X.calm = true) (hN : X.N.Nodup) (hi : PI X tg iter wi) (ok : BlkOk X.N X.env.scope scope own)
    (hg : ∀ (s : Shared) (H : Hp) (C : Addr) (cl : List (PySem.Str × Addr)) (fp : List Addr), PG (X.blk s H scope (compEnvC scope cl C X.env) fp) tg g)
    (ht : ∀ (s : Shared) (H : Hp) (C : Addr) (cl : List (PySem.Str × Addr)) (fp : List Addr), PTs (X.blk s H scope (compEnvC scope cl C X.env) fp) ifs tt)
    (he : ∀ (s : Shared) (H : Hp) (C : Addr) (cl : List (PySem.Str × Addr)) (fp : List Addr), PE (X.blk s H scope (compEnvC scope cl C X.env) fp) elt te)
    (hs : ∀ x, foldedSetIterable iter X.env x = pure x := by intro _; rfl) :
    PE X (.SetComp elt [⟨tg, iter, ifs, 0⟩] scope pos) (tSci X.w wi g tt te (own.map (·.2))) := by
  refine ⟨fun pins s0 σ H Q I h => ?_⟩
  rw [PpSet.eval_SetComp]
  have fr : ∀ y ∈ scope.names, y.2 = .free → ∃ c, X.env.cells.lookup y.1 = some c := by
    intro y hy e
    cases ok.free y hy e with
    | inl k => exact I.ok.has _ (.inl k)
    | inr k => exact I.ok.has _ (.inr k)
  refine wpAny_comprehension_free rfl hs (closure_ok fr) ok.kind (fun y hy e => by rw [ok.uniq y hy, e]) (thn (hi.run pins s0 σ H _ I h) ?_)
  intro xv s1 hx
  refine thn hx ?_
  rintro _ s2 ⟨it, fp, tn, J, H2, rfl, I2, T, st2, f2, q⟩
  refine PpSet.newSet_ok (newEnv_comp ?_)
  obtain ⟨D, hD⟩ : ∃ D, s2.heap.objs.size = D := ⟨_, rfl⟩
  rw [hD]
  have dn : H2 D = none := I2.hok.fresh (Nat.le_of_eq hD)
  obtain ⟨W, ⟨m0, w0⟩, turn⟩ := q D dn
  obtain ⟨s3, hs3⟩ : ∃ s3 : Shared, s3 = { s2 with heap := s2.heap.push { cls := .type "set", dict := none, data := .set #[] 0 (.fresh 0 0 (!X.w.params.followText "set-order")) } } := ⟨_, rfl⟩
  rw [← hs3]
  have up3 : ∀ (b : Addr) (o : Obj), s2.heap.get? b = some o → s3.heap.get? b = some o := fun b o e => by rw [hs3]; exact Heap.get?_push_of_some _ e
  have I3 : Inv X pins σ (set0 X.w H2 D) s3 := by
    subst hs3
    subst hD
    exact I2.laid (t' := s2.toks) (fun b o e => Heap.get?_push_of_some _ e) (Nat.le_refl _) (setO_new (setR_fresh X.w))
  have z3 : s3.heap.objs.size = s2.heap.objs.size + 1 := by rw [hs3]; exact Heap.size_push ..
  have f3 : ∀ b ∈ fp, FpOk X pins (set0 X.w H2 D) b ∧ b < s3.heap.objs.size := by
    intro b hb
    obtain ⟨o, eo, _⟩ := T.obj _ _ st2 b hb
    have lt := Heap.lt_size eo
    refine ⟨⟨?_, (f2 b hb).2⟩, by rw [z3]; exact Nat.lt_succ_of_lt lt⟩
    have ne : b ≠ D := by rw [← hD]; exact Nat.ne_of_lt lt
    rw [set0, upd_ne ne]
    exact (f2 b hb).1
  have st3 : tn 0 s3.heap := T.keep _ _ _ st2 fun b _ o e => up3 b o e
  have I4 := block_start I3 ok hN f3
  generalize hK : cellsFrom (s3.heap.objs.size + 1) scope.names (cloFrom X.env.cells scope.names []) = cl at I4 ⊢
  have pg := hg s3 (set0 X.w H2 D) s3.heap.objs.size cl fp
  have pt := ht s3 (set0 X.w H2 D) s3.heap.objs.size cl fp
  have pe := he s3 (set0 X.w H2 D) s3.heap.objs.size cl fp
  have nf : ∀ b ∈ fp, (set0 X.w H2 D) b = none := fun b hb => (f3 b hb).1.1
  obtain ⟨ce, hce⟩ : ∃ ce, ce = compEnvC scope cl s3.heap.objs.size X.env := ⟨_, rfl⟩
  rw [← hce] at I4 pg pt pe
  have cL : ce.locals = s3.heap.objs.size := by rw [hce]; rfl
  obtain ⟨H3, hH3⟩ : ∃ H3, H3 = set0 X.w H2 D := ⟨_, rfl⟩
  rw [← hH3] at I3 I4 pg pt pe w0 nf f3
  obtain ⟨s4, hs4⟩ : ∃ s4 : Shared, s4 = { s3 with heap := pushCells (s3.heap.push { cls := .type "dict", data := .dict #[] }) scope.names } := ⟨_, rfl⟩
  have st4 : tn 0 s4.heap := T.keep _ _ _ st3 fun b _ o e => by
    rw [hs4]
    exact pushCells_keeps _ _ _ _ (Heap.get?_push_of_some _ e)
  rw [← hs4] at I4
  have stat : ∀ {τ : L2.St} {K : Hp} {t : Shared}, Inv (X.blk s3 H3 scope ce fp) [] τ K t → (∀ b ∈ fp, K b = none) → ∀ b ∈ fp, FpOk (X.blk s3 H3 scope ce fp) [] K b := by
    intro τ K t J' hn b hb
    refine ⟨hn b hb, (J'.ok.exf b hb).1, J'.ok.exfs b hb, .inl hb, fun x c e => (J'.ok.exf b hb).2 x c e, fun p hp => ?_⟩
    exact absurd (show p ∈ ([] : List (Addr × Obj)) ++ [] from hp) (by simp)
  show codeAny _ _ (.compStart _ 0 (.ref it) (.ref D) (compEnvC scope cl s3.heap.objs.size X.env)) (compPost _ _ _ none _ _ s3.heap.objs.size) _
  rw [← hce, ← hs4]
  refine (fun loop => PpSet.codeAny_compStart_set loop (T.self X.A 0 _ _ _ st4 loop)) ?_
  refine PpSet.compLoopS_any (fun n t => ∃ i K, Inv (X.blk s3 H3 scope ce fp) [] (wipe σ (own.map (·.2))) K t ∧ tn i t.heap ∧ (∀ b ∈ fp, K b = none) ∧ W i n K) ?_ m0 ⟨0, H3, I4, st4, nf, w0⟩
  rintro n s5 ⟨i, H5, I5, st5, n5, w5⟩
  cases turn i n H5 w5 with
  | inl e =>
    obtain ⟨stop, qq⟩ := e
    refine thnF (T.done (X.blk s3 H3 scope ce fp) rfl rfl rfl hc i [] s5 _ H5 (fun _ _ => False) I5 (stat I5 n5) st5 stop) ?_
    rintro _ s6 ⟨rfl, I6⟩
    have I7 : Inv X pins σ H5 s6 := by
      refine I3.call' (ch := fp) I6.os I6.base I6.hok I6.bare fun b hb => ?_
      have f := (f3 b hb).1.2
      exact ⟨f.2.2.1, f.1, f.2.2.2.1, f.2.2.2.2⟩
    have nC : H5 s3.heap.objs.size = none := by
      rw [← cL]
      exact I6.free
    obtain ⟨m, hm, _⟩ := I6.loc
    refine ⟨m, by rw [← cL]; exact hm, fun h2 sb => ?_⟩
    obtain ⟨g0, g1, g2, g3, g4, g5⟩ := I3.fpOk (Nat.le_refl _) nC
    exact ⟨.ref D, H5, I7.turned (t' := s6.toks) (fun b o hb e => (sb.2 b hb).trans e) g0 g1 g3 g4 g5, rfl, qq⟩
  | inr e =>
    obtain ⟨go, N, hN2, step⟩ := e
    refine thnF (T.item (X.blk s3 H3 scope ce fp) rfl rfl rfl hc i [] s5 _ H5 (fun _ _ => False) I5 (stat I5 n5) st5 go) ?_
    rintro _ s6 ⟨u, rfl, h6⟩
    refine thnF h6 ?_
    rintro _ s7 ⟨x, H7, I7, r7, y7, st7, n7⟩
    refine thnF (pg.run _ s7 _ H7 x u _ (I7.pinned (stat I7 n7) (T.obj _ _ st7)) r7 (step x H7 y7)) ?_
    rintro _ s8 ⟨τ, H8, I8, hw8, q8⟩
    refine thnF (pt.run _ s8 τ H8 _ I8 q8) ?_
    rintro b s9 ⟨H9, I9, q9⟩
    have fin : ∀ {t : Shared} {K : Hp}, Inv (X.blk s3 H3 scope ce fp) ([] ++ pinsAt fp s7.heap) τ K t → N K → ∃ m, m < n ∧ ∃ i K, Inv (X.blk s3 H3 scope ce fp) [] (wipe σ (own.map (·.2))) K t ∧ tn i t.heap ∧ (∀ b ∈ fp, K b = none) ∧ W i m K := by
      intro t K J' nx
      obtain ⟨m', hm, w'⟩ := hN2 K nx
      have pn : ∀ b ∈ fp, ∀ o, s7.heap.get? b = some o → t.heap.get? b = some o ∧ K b = none := by
        intro b hb o e
        have z := J'.pin (b, o) (List.mem_append_right _ (List.mem_append_right _ (mem_pinsAt hb e)))
        exact ⟨z.1, z.2.1⟩
      refine ⟨m', hm, i + 1, K, (J'.unpinned (pins := [])).weak ?_ (fun j v e => ?_), T.keep _ _ _ st7 fun b hb o e => (pn b hb o e).1, fun b hb => ?_, w'⟩
      · rw [← hw8, wipe_length]
      · rw [← hw8] at e
        exact (wipe_some e).1
      · obtain ⟨o, e, _⟩ := T.obj _ _ st7 b hb
        exact (pn b hb o e).2
    cases b with
    | false =>
      simp only [Bool.false_eq_true, if_false] at q9 ⊢
      exact fin I9 q9
    | true =>
      simp only [if_true] at q9 ⊢
      refine thnF (pe.run _ s9 τ H9 _ I9 q9) ?_
      rintro z s10 ⟨yv, H10, I10, r10, cb, S0, n0, rfl, hD10, hz10, nx⟩
      obtain ⟨tk, rfl⟩ : ∃ tk, z = Value.int cb tk := r10
      exact addI_ok (X := X.blk s3 H3 scope ce fp) I10 hD10 hz10 fun s11 I11 => fin I11 nx
end
/-! ### sorted({.. for x in xs}) of an expression that changes nothing -/
def PureI (K : PySem.W.Frag) (Γ : Env) (v : Nat) (te : TE) (x y : Int) : Prop := ∀ (R : Hp) (as : List Addr) (σ : L2.St) (H : Hp) (Q : VK), Sts K R as σ (Γ.set v (some (.d (.int x)))) → Q (.int y) H → te σ H Q
theorem pure_mod {K : PySem.W.Frag} {Γ : Env} {v i j : Nat} {x a p : Int} (h1 : (Γ.set v (some (.d (.int x))))[i]? = some (some (.d (.int a)))) (h2 : (Γ.set v (some (.d (.int x))))[j]? = some (some (.d (.int p)))) (hp : 0 < p) :
    PureI K Γ v (tOp (rI (fun _ j => 0 < j) fun i j => .int (i % j)) (tVar i) (tVar j)) x (a % p) := fun R as σ H Q st q => by
  obtain ⟨u1, e1, o1⟩ := st.get _ _ h1
  obtain ⟨u2, e2, o2⟩ := st.get _ _ h2
  cases (show Den K R u1 (.int a) from o1)
  cases (show Den K R u2 (.int p) from o2)
  exact ⟨_, e1, _, e2, a, p, rfl, rfl, hp, q⟩
section
variable {w : Wd} {Γ : Env} {S : List Own} {k : KE} {tl te : TE} {v : Nat} {W : World} {g0 : TE}
/-- the set under way -/
def SetP (W : World) (H1 : Hp) (D : Addr) (ns : List Int) (m : Nat) (i : Nat) (H : Hp) : Prop := ∃ n, n ≤ i ∧ H = upd H1 D (SetO W D (fun j => decide (j ∈ ns.take i)) n) ∧ i ≤ ns.length ∧ m = ns.length - i
theorem sci_walk {Γ : Env} {R H1 : Hp} {as : List Addr} {σ : L2.St} {a B : Addr} {vs : List V} {xs : List Int} {f : Int → Int} {Q : VK} (st : Sts w.K R as σ Γ) (sub : Sub R H1) (hD : H1 B = none) (ha : R a = some (.lst vs)) (hx : Dens w.K R vs (xs.map D.int)) (h64 : xs.length < 64)
    (hp : ∀ x ∈ xs, PureI w.K Γ v te x (f x)) (q : ∀ n, n ≤ xs.length → Q (.ref B) (upd H1 B (SetO W B (fun j => decide (j ∈ xs.map f)) n))) :
    ∃ Wk : Nat → Nat → Hp → Prop, (∃ m, Wk 0 m (set0 W H1 B)) ∧ ∀ i m H, Wk i m H → ((Itl w.K a).stop i H ∧ Q (.ref B) H) ∨ ((Itl w.K a).go i H ∧ ∃ N : Hp → Prop, (∀ H', N H' → ∃ m', m' < m ∧ Wk (i + 1) m' H') ∧ ∀ x H', (Itl w.K a).yld i H x H' → SciT W (gName v) tYes te [v] B x σ H' N) := by
  have hl : (xs.map f).length = xs.length := List.length_map _
  refine ⟨fun i m H => SetP W H1 B (xs.map f) m i H, ⟨(xs.map f).length, 0, Nat.le_refl _, rfl, Nat.zero_le _, rfl⟩, ?_⟩
  rintro i m H ⟨n, hn, rfl, hi, rfl⟩
  have ss : Sub R (upd H1 B (SetO W B (fun j => decide (j ∈ (xs.map f).take i)) n)) := fun b o e => by
    have e1 := sub b o e
    rw [upd_ne (ne_of_none e1 hD)]
    exact e1
  have ha' : SqL w.K (upd H1 B (SetO W B (fun j => decide (j ∈ (xs.map f).take i)) n)) a vs := SqL.of (ss _ _ ha)
  have hv : vs.length = xs.length := by rw [hx.len, List.length_map]
  by_cases hlt : i < xs.length
  · have hiv : i < vs.length := by omega
    refine .inr ⟨⟨vs, vs[i], ha', List.getElem?_eq_getElem hiv⟩, fun H' => SetP W H1 B (xs.map f) ((xs.map f).length - (i + 1)) (i + 1) H', fun H' p => ⟨_, by omega, p⟩, ?_⟩
    rintro x H' ⟨rfl, y⟩
    have ex := y vs ha'
    obtain ⟨d, hd1, hd2⟩ := hx.get2 ex
    have hxi : xs[i]? = some xs[i] := List.getElem?_eq_getElem hlt
    rw [List.getElem?_map, hxi] at hd1
    have hd1 : some (D.int xs[i]) = some d := hd1
    cases hd1
    have e1 : ((wipe σ [v]).set v (some x)) = σ.set v (some x) := List.set_set ..
    refine ⟨?_, ?_⟩
    · show ((wipe σ [v]).set v (some x)).set v none = σ.set v none
      rw [e1, List.set_set]
    show te _ _ _
    rw [e1]
    refine hp xs[i] (List.getElem_mem hlt) R as _ _ _ (st.set v (ok_d hd2)) ⟨f xs[i], _, n, rfl, upd_same, Nat.lt_of_lt_of_le (show n + 1 < 70 by omega) (by decide +kernel), ?_⟩
    rw [upd_upd]
    have et : (xs.map f).take (i + 1) = (xs.map f).take i ++ [f xs[i]] := by
      rw [List.take_add_one, List.getElem?_map, hxi]; rfl
    have ef : (fun j => decide (j ∈ (xs.map f).take i) || decide (j = f xs[i])) = fun j => decide (j ∈ (xs.map f).take (i + 1)) := by
      funext j
      rw [et]
      simp [List.mem_append]
    rw [ef]
    exact ⟨_, by split <;> omega, rfl, by omega, rfl⟩
  · have e : i = xs.length := by omega
    subst e
    refine .inl ⟨⟨vs, ha', by omega⟩, ?_⟩
    have et : (xs.map f).take xs.length = xs.map f := List.take_of_length_le (by omega)
    rw [et]
    exact q n hn
theorem le_sortSc (f : Int → Int) (h : LE w tl Γ S fun e S1 => ∃ xs : List Int, e = .d (.lst (xs.map D.int)) ∧ xs.length < 64 ∧ (∀ x, x ∈ xs → PureI w.K Γ v te x (f x)) ∧
    ∀ out : List Int, out.Pairwise (· < ·) → (∀ y, y ∈ out ↔ ∃ x, x ∈ xs ∧ f x = y) → k (.d (.lst (out.map D.int))) S1) :
    LE w (tCB (rSortedSet W) (tCons (tSci W (iList w.K tl) (gName v) tYes te [v]) tNil)) Γ S k := fun σ R H as Q rl s c => by
  refine h σ R H as _ rl s fun vl el S1 R1 H1 as1 rl1 s1 p1 e1 ⟨xs, h1, h64, hp, q⟩ => ?_
  subst h1
  cases e1 with
  | lst ha hd =>
    rename_i a vs
    refine ⟨a, rfl, ⟨vs, SqL.of (rl1.sub _ _ ha)⟩, fun B hB => ?_⟩
    refine sci_walk (W := W) (Q := fun x H1 => rSortedSet W [x] H1 Q) (s.mono s1 p1) rl1.sub hB ha hd h64 hp fun n hn => ?_
    obtain ⟨rl2, s2⟩ := rl1.alloc hB (SetO W B (fun j => decide (j ∈ xs.map f)) n)
    refine ⟨B, _, n, rfl, upd_same, by omega, fun out p2 g1 g2 g3 hp2 => ?_⟩
    obtain ⟨rl3, s3⟩ := rl2.alloc hp2 (.lst (out.map V.int))
    exact c _ (.d (.lst (out.map D.int))) S1 _ _ as1 rl3 ((s1.trans s2).trans s3) p1 (ok_d (Den.lst upd_same ((Dens.of_ints out).mono s3))) (q out g1 fun y => by rw [g2]; simp)
theorem le_sortScO (f : Int → Int) (h : LE w tl Γ S fun e S1 => ∃ xs : List Int, e = .d (.lst (xs.map D.int)) ∧ xs.length < 64 ∧ (∀ x, x ∈ xs → PureI w.K Γ v te x (f x)) ∧
    ∀ out : List Int, out.Pairwise (· < ·) → (∀ y, y ∈ out ↔ ∃ x, x ∈ xs ∧ f x = y) → k (.own S1.length) (S1 ++ [.lst (out.map D.int)])) :
    LE w (tCB (rSortedSet W) (tCons (tSci W (iList w.K tl) (gName v) tYes te [v]) tNil)) Γ S k := fun σ R H as Q rl s c => by
  refine h σ R H as _ rl s fun vl el S1 R1 H1 as1 rl1 s1 p1 e1 ⟨xs, h1, h64, hp, q⟩ => ?_
  subst h1
  cases e1 with
  | lst ha hd =>
    rename_i a vs
    refine ⟨a, rfl, ⟨vs, SqL.of (rl1.sub _ _ ha)⟩, fun B hB => ?_⟩
    refine sci_walk (W := W) (Q := fun x H1 => rSortedSet W [x] H1 Q) (s.mono s1 p1) rl1.sub hB ha hd h64 hp fun n hn => ?_
    obtain ⟨rl2, s2⟩ := rl1.alloc hB (SetO W B (fun j => decide (j ∈ xs.map f)) n)
    refine ⟨B, _, n, rfl, upd_same, by omega, fun out p2 g1 g2 g3 hp2 => ?_⟩
    have rl3 := rl2.allocO hp2 (.lst (out.map V.int)) (o := .lst (out.map D.int)) ⟨(rl2.fresh hp2).1, _, upd_same, Dens.of_ints out⟩
    exact c _ (.own S1.length) _ _ _ _ rl3 (s1.trans s2) (p1.trans (Pre.app _ _)) (show EntOk w.K _ _ (.ref p2) (.own S1.length) from ⟨p2, by rw [← rl2.len]; exact List.getElem?_concat_length, rfl⟩) (q out g1 fun y => by rw [g2]; simp)
end
section
variable {X : Cx} {e : Expr} {p pos : Pos} {te : TE}
theorem b_sortSc (hm : X.mg "sorted" = none) (he : PE X e te) (hc : X.calm = true := by rfl) (hg : Gl X "sorted" := by rfl) (hs : starEach [e] X.env = (false, eval e X.env) :: starEach [] X.env := by rfl) : PE X (.Call (.Name "sorted" p) [e] [] pos) (tCB (rSortedSet X.w) (tCons te tNil)) :=
  pe_callB (cr_sortedSet hc) hg hm (by decide +kernel) (pa_cons he pa_nil hs) (he := hs)
end
/-! k in a list of numbers -/
theorem inV_ints (n : Int) (s : List Int) : inV (.int n) (s.map V.int) = decide (n ∈ s) := by
  unfold inV
  rw [Bool.eq_iff_iff, List.any_eq_true, decide_eq_true_iff]
  constructor
  · rintro ⟨y, hy, e⟩
    obtain ⟨z, hz, rfl⟩ := List.mem_map.mp hy
    have : z = n := by simpa [eqV] using e
    rw [← this]; exact hz
  · intro h
    exact ⟨_, List.mem_map_of_mem h, by simp [eqV]⟩
section
variable {w : Wd} {S : List Own} {k : KE}
theorem rr_inI {y : Ent} {n : Int} {s : List Int} (hy : IsLst y S (s.map D.int)) (q : k (.d (.bl (decide (n ∈ s)))) S) : RR w (rIn w.K false) (.d (.int n)) y S k := fun R H as u v Q rl hu hv c => by
  obtain ⟨a, rfl, h⟩ := lst_ints (K := w.K) hy rl hv
  cases (show Den w.K R u (.int n) from hu)
  refine ⟨a, _, rfl, .inl h, rfl, by simp [List.all_map, flatV], ?_⟩
  rw [if_neg Bool.false_ne_true, inV_ints]
  exact c _ _ S R H as rl (Sub.refl _) (Pre.refl _) (ok_d (Den.bl _)) q
theorem rr_niI {y : Ent} {n : Int} {s : List Int} (hy : IsLst y S (s.map D.int)) (q : k (.d (.bl (!decide (n ∈ s)))) S) : RR w (rIn w.K true) (.d (.int n)) y S k := fun R H as u v Q rl hu hv c => by
  obtain ⟨a, rfl, h⟩ := lst_ints (K := w.K) hy rl hv
  cases (show Den w.K R u (.int n) from hu)
  refine ⟨a, _, rfl, .inl h, rfl, by simp [List.all_map, flatV], ?_⟩
  rw [if_pos rfl, inV_ints]
  exact c _ _ S R H as rl (Sub.refl _) (Pre.refl _) (ok_d (Den.bl _)) q
end
/-! k in xs inside a comprehension -/
theorem op_in_seqB {X : Cx} (K : PySem.W.Frag) (hK : X.K = K := by rfl) : OpR X (compareOp .In) (rIn K false) := by subst hK; exact op_in_seq
theorem op_notIn_seqB {X : Cx} (K : PySem.W.Frag) (hK : X.K = K := by rfl) : OpR X (compareOp .NotIn) (rIn K true) := by subst hK; exact op_notIn_seq
theorem at_zero (d : D) (ds : List D) : atI (d :: ds) 0 = some d := by
  unfold atI ixN
  rw [if_pos (Int.le_refl _), if_pos (by simp only [List.length_cons]; omega)]
  rfl
end Gm
/-! tuples that hold things of the store: ==, items, as a call's answer -/
namespace Gm
open PySem L2
section
variable {w : Wd} {S : List Own} {k : KE}
def entPs (S : List Own) : List Ent → Option (List PyData)
  | [] => some []
  | e :: es => (entP S e).bind fun y => (entPs S es).map (y :: ·)
def entQ (S : List Own) : Ent → Option PyData
  | .tup es => (entPs S es).map PyData.tuple
  | e => entP S e
theorem entPs_dp {R H : Hp} {as : List Addr} (rl : Rel w R H as S) : ∀ {vs : List V} {es : List Ent} {ps : List PyData}, EntsOk w.K R as vs es → entPs S es = some ps → DpAll w.K H vs ps
  | [], [], _, _, e => by cases e; exact .nil
  | v :: vs, x :: es, ps, ⟨h, t⟩, e => by
    simp [entPs, Option.bind_eq_some_iff] at e
    obtain ⟨y, h1, ys, h2, h3⟩ := e
    subst h3
    exact .cons (entP_dp rl h h1) (entPs_dp rl t h2)
  | [], _ :: _, _, h, _ => h.elim
  | _ :: _, [], _, h, _ => h.elim
theorem entQ_dp {R H : Hp} {as : List Addr} {v : V} {x : Ent} {p : PyData} (rl : Rel w R H as S) (h : EntOk w.K R as v x) (e : entQ S x = some p) : Dp w.K H v p := by
  cases x with
  | d x => exact entP_dp rl h e
  | own i => exact entP_dp rl h e
  | tup es =>
    obtain ⟨a, vs, rfl, h2, h3⟩ := h
    have e : (entPs S es).map PyData.tuple = some p := e
    rw [Option.map_eq_some_iff] at e
    obtain ⟨ps, h4, rfl⟩ := e
    exact .tup (SqT.of (rl.sub _ _ h2)) (entPs_dp rl h3 h4)
theorem rr_eqQ {x y : Ent} {d e : PyData} (hx : entQ S x = some d) (hy : entQ S y = some e) (sd : SeqAt.shaped d = true) (se : SeqAt.shaped e = true) (q : k (.d (.bl (PyData.eqv d e))) S) : RR w (rEqD w.K) x y S k := fun R H as u v Q rl hu hv c =>
  ⟨d, e, entQ_dp rl hu hx, entQ_dp rl hv hy, sd, se, c _ _ S R H as rl (Sub.refl _) (Pre.refl _) (ok_d (Den.bl _)) q⟩
theorem rr_neQ {x y : Ent} {d e : PyData} (hx : entQ S x = some d) (hy : entQ S y = some e) (sd : SeqAt.shaped d = true) (se : SeqAt.shaped e = true) (q : k (.d (.bl (!PyData.eqv d e))) S) : RR w (rNeD w.K) x y S k := fun R H as u v Q rl hu hv c =>
  ⟨d, e, entQ_dp rl hu hx, entQ_dp rl hv hy, sd, se, c _ _ S R H as rl (Sub.refl _) (Pre.refl _) (ok_d (Den.bl _)) q⟩
theorem ents_at {K : PySem.W.Frag} {R : Hp} {as : List Addr} : ∀ {vs : List V} {es : List Ent} {j : Nat} {e : Ent}, EntsOk K R as vs es → es[j]? = some e → ∃ v, vs[j]? = some v ∧ EntOk K R as v e
  | v :: _, x :: _, 0, e, ⟨h, _⟩, q => by simp at q; subst q; exact ⟨v, rfl, h⟩
  | v :: vs, x :: es, j + 1, e, ⟨_, t⟩, q => by
    obtain ⟨u, h1, h2⟩ := ents_at t (by simpa using q)
    exact ⟨u, by simpa using h1, h2⟩
  | [], [], _, _, _, q => by simp at q
  | [], _ :: _, _, _, h, _ => h.elim
  | _ :: _, [], _, _, h, _ => h.elim
theorem rr_ixTE {es : List Ent} {i : Int} {j : Nat} {e : Ent} (h1 : ixN es.length i = some j) (h2 : es[j]? = some e) (q : k e S) : RR w (rIxT w.K) (.tup es) (.d (.int i)) S k := fun R H as u' v' Q rl hu hv c => by
  cases (show Den w.K R v' (.int i) from hv)
  obtain ⟨a, vs, rfl, ha, he⟩ := hu
  obtain ⟨v, e1, e2⟩ := ents_at he h2
  exact ⟨_, _, i, v, rfl, rfl, SqT.of (rl.sub _ _ ha), atI_map he.len h1 e1, c _ _ S R H as rl (Sub.refl _) (Pre.refl _) e2 q⟩
end
section
variable {w : Wd} {S : List Own} {α : Type} {pre : α → List Ent → List Own → Prop} {post : α → Ent → List Own → Prop} {E : XK} {k : KE}
theorem backs_tup (n : Nat) : ∀ ds : List D, Ent.backs [] n (ds.map Ent.d ++ [.own 0]) = ds.map Ent.d ++ [.own n]
  | [] => by simp [Ent.backs, Ent.back]
  | d :: ds => by
    show Ent.back [] n (.d d) :: Ent.backs [] n (ds.map Ent.d ++ [.own 0]) = _
    rw [backs_tup n ds]; rfl
/-- nothing is borrowed, it gives a tuple whose last item is a new thing of the store -/
theorem r0T {es : List Ent} (a : α) (hpre : pre a es []) (h : ∀ e S', post a e S' → ∃ (o' : Own) (ds : List D), S' = [o'] ∧ e = .tup (ds.map Ent.d ++ [.own 0]) ∧ k (.tup (ds.map Ent.d ++ [.own S.length])) (S ++ [o'])) (hw : es.all (Ent.wf 0) = true := by rfl) : RS w (ds pre post) E es S k := by
  refine rs_call (ex0 (w := w) (E := E)) [] Pick.nil (ren_wf0 hw) hw ⟨a, hpre, fun e S' q => ?_⟩
  obtain ⟨o', ds, rfl, rfl, h2⟩ := h e S' q
  refine ⟨[], [o'], rfl, rfl, by simp, ?_⟩
  show k (.tup (Ent.backs [] S.length (ds.map Ent.d ++ [.own 0]))) _
  rw [backs_tup]
  exact h2
end
/-! [.. for v in (a, b, ..)], of data -/
section
variable {w : Wd} {Γ : Env} {S : List Own} {k : KE}
theorem le_lcTup {tl te : TE} {v : Nat} {tt : TT} (h : LE w tl Γ S fun e S1 => ∃ ds, e = .d (.tup ds) ∧ ∃ I : Nat → List D → List Own → Prop, I 0 [] S1 ∧
    (∀ i d acc S2, ds[i]? = some d → S2.length = S1.length → I i acc S2 → LcT w Γ v tt te d acc S2 (I (i + 1))) ∧ (∀ acc S2, I ds.length acc S2 → k (.d (.lst acc)) S2)) : LE w (tLc (iTup w.K tl) (gName v) tt te [v]) Γ S k := fun σ R H as Q rl s c => by
  refine h σ R H as _ rl s fun vl el S1 R1 H1 as1 rl1 s1 p1 e1 ⟨ds, h1, I, i0, is, iE⟩ => ?_
  subst h1
  cases e1 with
  | tup ha hd =>
    rename_i a vs
    refine ⟨a, rfl, ⟨vs, SqT.of (rl1.sub _ _ ha)⟩, fun Dl hD => ?_⟩
    refine lc_tup (xs := vs) (fun i H => LcP w R1 as1 S1.length Dl (I i) H) (lc_begin rl1 hD i0) (fun i H2 hi p => ?_) (fun i x H2 hx p => ?_) fun H2 p => ?_
    · obtain ⟨S2, R2, as2, acc, rl2, sb, pr, ha2, hl, hi2⟩ := p
      exact SqT.of (rl2.sub _ _ (sb _ _ ha))
    · obtain ⟨S2, R2, as2, acc, rl2, sb, pr, ha2, hl, hi2⟩ := p
      obtain ⟨d, hd1, hd2⟩ := hd.get2 hx
      have := lc_turn (Dl := Dl) (s.mono s1 p1) rl2 sb pr ha2 (hd2.mono sb) (is i d acc S2 hd1 hl hi2)
      rw [hl] at this
      exact this
    · rw [hd.len] at p
      obtain ⟨acc, S', R', as', q1, q2, q3, q4, q5⟩ := lc_end rl1.len rl1.as0_le p
      exact c _ _ S' R' _ as' q1 (s1.trans q2) (p1.trans q3) (ok_d q4) (iE acc S' q5)
end
end Gm
/-! sorted pairs, with their order -/
namespace Gm
open PySem PySem.Spec PyProof.Rows L2
section
variable {w : Wd} {Γ : Env} {S : List Own} {k : KE}
theorem rc_sortPS {x : Ent} {ps : List (Int × Int)} (hx : IsLst x S (ps.map pD2)) (q : ∀ qs : List (Int × Int), qs.Perm ps → qs.Pairwise (fun a b => a.1 ≤ b.1) → k (.d (.lst (qs.map pD2))) S) : RC w (rSortedPO w.K) [x] S k := fun R H as us Q rl hu c => by
  obtain ⟨v, rfl, hv⟩ := one_ent hu
  obtain ⟨a, xs, rfl, ha, hd⟩ := isLst_at hx rl hv
  obtain ⟨h1, h2⟩ := dens_pairs hd
  refine ⟨a, xs, pk R, rfl, SqL.of ha, fun x hx => ?_, fun ys p so st hp => ?_⟩
  · obtain ⟨⟨t, e1, e2⟩, _⟩ := h1 x hx
    exact ⟨t, e1, rl.sub _ _ e2⟩
  · obtain ⟨rl2, s2⟩ := rl.alloc hp (.lst ys)
    have hperm := st.perm
    have hd2 : Dens w.K R ys (ys.map fun y => pD2 (pk R y)) := dens_of (f := fun y => pD2 (pk R y)) fun y hy => (h1 y (hperm.mem_iff.mp hy)).2
    have e : (ys.map fun y => pD2 (pk R y)) = (ys.map (pk R)).map pD2 := by rw [List.map_map]; rfl
    rw [e] at hd2
    refine c _ _ S _ _ as rl2 s2 (Pre.refl _) (ok_d (Den.lst upd_same (hd2.mono s2))) (q _ (by rw [← h2]; exact hperm.map _) ?_)
    refine List.pairwise_map.mpr (so.imp fun {x y} hxy => ?_)
    have := SrtO.lexB_no.mp (show SrtO.lexB (pk R y) (pk R x) = false from hxy)
    omega
theorem take_snoc' {α : Type} {xs : List α} {i : Nat} {d : α} (h : xs[i]? = some d) : xs.take (i + 1) = xs.take i ++ [d] := by rw [List.take_add_one, h]; rfl
/-- a comprehension over pairs of numbers -/
theorem le_lcPr {tl te : TE} {i j : Nat} (F : Int × Int → D) (h : LE w tl Γ S fun e S1 => ∃ ps : List (Int × Int), e = .d (.lst (ps.map pD2)) ∧ ps.length ≤ sizeLine ∧
    (∀ p acc, p ∈ ps → LE w te (((wipeG Γ [i, j]).set i (some (.d (.int p.1)))).set j (some (.d (.int p.2)))) (S1 ++ [.lst acc]) fun e S4 => e = .d (F p) ∧ S4 = S1 ++ [.lst acc]) ∧ k (.d (.lst (ps.map F))) S1) :
    LE w (tLc (iList w.K tl) (gTup w.K 2 (gCons (gName i) (gCons (gName j) gNil))) tYes te [i, j]) Γ S k := by
  refine le_lcG (le_mono h fun e S1 ⟨ps, h1, h2, h3, h4⟩ => ⟨ps.map pD2, h1, fun t acc S2 => S2 = S1 ∧ acc = (ps.take t).map F, ⟨rfl, rfl⟩, ?_, ?_⟩)
  · rintro t d acc _ hd _ ⟨rfl, rfl⟩
    rw [List.getElem?_map, Option.map_eq_some_iff] at hd
    obtain ⟨p, hp, rfl⟩ := hd
    have hl := (List.getElem?_eq_some_iff.mp hp).1
    refine ⟨_, tg_pair (by simp) (by simp), ?_⟩
    refine lt_yes ⟨fun _ => ?_, fun z => Bool.noConfusion z⟩
    refine le_mono (h3 p _ (List.mem_of_getElem? hp)) fun e S4 ⟨e1, e2⟩ => ⟨F p, _, e1, e2, rfl, ?_, rfl, ?_⟩
    · rw [List.length_map, List.length_take]; omega
    · rw [take_snoc' hp, List.map_append]; rfl
  · rintro acc _ ⟨rfl, rfl⟩
    rw [List.length_map, List.take_length]
    exact h4
/-- .. with a test -/
theorem le_lcPrF {tl te : TE} {tt : TT} {i j : Nat} (b : Int × Int → Bool) (F : Int × Int → D) (h : LE w tl Γ S fun e S1 => ∃ ps : List (Int × Int), e = .d (.lst (ps.map pD2)) ∧ ps.length ≤ sizeLine ∧
    (∀ p acc, p ∈ ps → LT w tt (((wipeG Γ [i, j]).set i (some (.d (.int p.1)))).set j (some (.d (.int p.2)))) (S1 ++ [.lst acc]) fun b' S4 => b' = b p ∧ S4 = S1 ++ [.lst acc]) ∧
    (∀ p acc, p ∈ ps → b p = true → LE w te (((wipeG Γ [i, j]).set i (some (.d (.int p.1)))).set j (some (.d (.int p.2)))) (S1 ++ [.lst acc]) fun e S4 => e = .d (F p) ∧ S4 = S1 ++ [.lst acc]) ∧ k (.d (.lst ((ps.filter b).map F))) S1) :
    LE w (tLc (iList w.K tl) (gTup w.K 2 (gCons (gName i) (gCons (gName j) gNil))) tt te [i, j]) Γ S k := by
  refine le_lcG (le_mono h fun e S1 ⟨ps, h1, h2, h3, h5, h4⟩ => ⟨ps.map pD2, h1, fun t acc S2 => S2 = S1 ∧ acc = ((ps.take t).filter b).map F, ⟨rfl, rfl⟩, ?_, ?_⟩)
  · rintro t d acc _ hd _ ⟨rfl, rfl⟩
    rw [List.getElem?_map, Option.map_eq_some_iff] at hd
    obtain ⟨p, hp, rfl⟩ := hd
    have hl := (List.getElem?_eq_some_iff.mp hp).1
    have hm := List.mem_of_getElem? hp
    have hfl := List.length_filter_le b (ps.take t)
    rw [List.length_take] at hfl
    refine ⟨_, tg_pair (by simp) (by simp), ?_⟩
    refine lt_mono (h3 p _ hm) fun b' S3 ⟨e1, e2⟩ => ?_
    subst e1 e2
    refine ⟨fun hb => le_mono (h5 p _ hm hb) fun e S4 ⟨e1, e2⟩ => ⟨F p, _, e1, e2, rfl, ?_, rfl, ?_⟩, fun hb => ⟨_, rfl, rfl, rfl, ?_⟩⟩
    · rw [List.length_map]; omega
    · rw [take_snoc' hp, List.filter_append, List.map_append, List.filter_cons, if_pos hb]; rfl
    · rw [take_snoc' hp, List.filter_append, List.filter_cons, hb]; simp
  · rintro acc _ ⟨rfl, rfl⟩
    rw [List.length_map, List.take_length]
    exact h4
/-- two fors, the store stays -/
theorem le_lc2F {α β : Type} {tl tl1 te : TE} {g g1 : TG} {vs vs1 : List Nat} (fa : α → D) (fb : β → D) (g0 : α → List β) (F : α → β → D) (up : α → Env → Env) (up1 : β → Env → Env)
    (h : LE w tl Γ S fun e S1 => ∃ xs : List α, e = .d (.lst (xs.map fa)) ∧ (xs.flatMap fun a => (g0 a).map (F a)).length ≤ sizeLine ∧
      (∀ a ∈ xs, TgOk w g vs (fa a) (up a) ∧ (∀ acc, LE w tl1 (up a (wipeG Γ vs)) (S1 ++ [.lst acc]) fun e' S2 => S2 = S1 ++ [.lst acc] ∧ e' = .d (.lst ((g0 a).map fb))) ∧
        ∀ b ∈ g0 a, TgOk w g1 vs1 (fb b) (up1 b) ∧ ∀ acc, LE w te (up1 b (wipeG (up a (wipeG Γ vs)) vs1)) (S1 ++ [.lst acc]) fun y S3 => S3 = S1 ++ [.lst acc] ∧ y = .d (F a b)) ∧
      k (.d (.lst (xs.flatMap fun a => (g0 a).map (F a)))) S1) : LE w (tLc2 (iList w.K tl) g tYes (iList w.K tl1) g1 tYes te vs vs1) Γ S k := by
  refine le_lc2 (le_mono h fun e S1 ⟨xs, h1, h2, h3, h4⟩ => ⟨xs.map fa, h1, fun t acc => acc = (xs.take t).flatMap fun a => (g0 a).map (F a), rfl, ?_, ?_⟩)
  · rintro t d _ hd rfl
    rw [List.getElem?_map, Option.map_eq_some_iff] at hd
    obtain ⟨a, ha, rfl⟩ := hd
    obtain ⟨q1, q2, q3⟩ := h3 a (List.mem_of_getElem? ha)
    have hsplit : xs = xs.take t ++ a :: xs.drop (t + 1) := by
      obtain ⟨hl, rfl⟩ := List.getElem?_eq_some_iff.mp ha
      rw [← List.drop_eq_getElem_cons hl, List.take_append_drop]
    have hlen : ((xs.take t).flatMap fun a => (g0 a).map (F a)).length + (g0 a).length ≤ sizeLine := by
      refine Nat.le_trans ?_ h2
      conv => rhs; rw [hsplit]
      rw [List.flatMap_append, List.flatMap_cons, List.length_append, List.length_append, List.length_map]
      omega
    refine ⟨_, q1, le_mono (q2 _) fun e' S2 ⟨e1, e2⟩ => ⟨e1, _, e2, fun q acc' => acc' = ((xs.take t).flatMap fun a => (g0 a).map (F a)) ++ ((g0 a).take q).map (F a), by simp, ?_, ?_⟩⟩
    · rintro q d' _ hd' rfl
      rw [List.getElem?_map, Option.map_eq_some_iff] at hd'
      obtain ⟨b, hb, rfl⟩ := hd'
      have hbl := (List.getElem?_eq_some_iff.mp hb).1
      obtain ⟨r1, r2⟩ := q3 b (List.mem_of_getElem? hb)
      refine ⟨_, r1, le_mono (r2 _) fun y S3 ⟨f1, f2⟩ => ⟨f1, _, f2, ?_, ?_⟩⟩
      · rw [List.length_append, List.length_map, List.length_take]; omega
      · dsimp only
        rw [take_snoc' hb, List.map_append, List.append_assoc]; rfl
    · rintro _ rfl
      rw [List.length_map, List.take_length, take_snoc' ha, List.flatMap_append]
      simp
  · rintro _ rfl
    rw [List.length_map, List.take_length]
    exact h4
end
section
variable {X : Cx}
theorem pi_listB (K : PySem.W.Frag) {tg l : Expr} {tl : TE} (hl : PE X l tl) (hK : X.K = K := by rfl) : PI X tg l (iList K tl) := by
  subst hK; exact pi_list hl
end
end Gm
/-! a dict whose keys are pairs of numbers -/
namespace Gm
open PySem PySem.Spec PyProof.Rows L2
def kP (p : Int × Int) : List L2.Key := [.inl p.1, .inl p.2]
theorem kP_inj {p q : Int × Int} (h : kP p = kP q) : p = q := by
  obtain ⟨a, b⟩ := p
  obtain ⟨c, d⟩ := q
  simp [kP] at h
  exact Prod.ext h.1 h.2
theorem kP_tup (p : Int × Int) : (kP p).map kV = [V.int p.1, V.int p.2] := rfl
theorem valV_pairs {kvs : List (List L2.Key × V)} {ps : List (Int × Int)} (h : kvs.map (·.1) = ps.map kP) (p : Int × Int) : (valV kvs (kP p)).isSome = decide (p ∈ ps) := by
  rw [← valV_any, Bool.eq_iff_iff, List.any_eq_true, decide_eq_true_iff]
  constructor
  · rintro ⟨kv, hm, he⟩
    have : kv.1 ∈ ps.map kP := by rw [← h]; exact List.mem_map_of_mem hm
    obtain ⟨q, hq, e⟩ := List.mem_map.mp this
    rw [of_decide_eq_true he] at e
    rw [← kP_inj e]; exact hq
  · intro hp
    have : kP p ∈ kvs.map (·.1) := by rw [h]; exact List.mem_map_of_mem hp
    obtain ⟨kv, hm, e⟩ := List.mem_map.mp this
    exact ⟨kv, hm, decide_eq_true e⟩
section
variable {w : Wd} {Γ : Env} {S : List Own} {k : KE} {G : GE} {td ty tv te : TE}
theorem le_newT (q : k (.own S.length) (S ++ [.sn []])) : LE w tDNewT Γ S k := fun σ R H as Q rl s c p hp =>
  c _ _ _ R _ _ (rl.allocO hp _ (o := .sn []) ⟨(rl.fresh hp).1, [], upd_same, rfl⟩) (Sub.refl _) (Pre.app _ _) (ok_own (by rw [← rl.len]; exact List.getElem?_concat_length)) q
theorem den_pr {K : PySem.W.Frag} {R : Hp} {v : V} {p : Int × Int} (h : Den K R v (pD2 p)) : ∃ b, v = .ref b ∧ R b = some (.tup ((kP p).map kV)) := by
  cases h with
  | tup ha hd =>
    rename_i a vs
    have e := Dens.ints (ns := [p.1, p.2]) hd
    subst e
    exact ⟨_, rfl, ha⟩
theorem lt_notinT (h : LE w ty Γ S fun y S1 => LE w td Γ S1 fun x S2 => ∃ i ps p, x = .own i ∧ S2[i]? = some (.sn ps) ∧ y = .d (pD2 p) ∧ k (.d (.bl (!decide (p ∈ ps)))) S2) : LE w (tDNotIn ty td) Γ S k := fun σ R H as Q rl s c => by
  refine h σ R H as _ rl s fun y ey S1 R1 H1 as1 rl1 s1 p1 e1 h1 => ?_
  refine h1 σ R1 H1 as1 _ rl1 (s.mono s1 p1) fun x ex S2 R2 H2 as2 rl2 s2 p2 e2 ⟨i, ps, p, hx, hi, hy, hk⟩ => ?_
  subst hx hy
  obtain ⟨a, ha, rfl⟩ := e2
  obtain ⟨⟨z, kvs, c1, c2⟩, _⟩ := rl2.reg i _ a hi ha (by intro z; cases z)
  obtain ⟨b, rfl, hb⟩ := den_pr (show Den w.K R2 y (pD2 p) from (e1.mono s2 p2 : EntOk w.K R2 as2 y (.d (pD2 p))))
  refine ⟨a, _, rfl, DGet.t c1 (rl2.sub _ _ hb), ?_⟩
  rw [valV_pairs c2]
  exact c _ _ S2 R2 H2 as2 rl2 (s1.trans s2) (p1.trans p2) (ok_d (Den.bl _)) hk
theorem ls_dputT (h : LE w tv Γ S fun v S1 => LE w td Γ S1 fun x S2 => LE w ty Γ S2 fun y S3 => ∃ e i ps p, v = .d e ∧ x = .own i ∧ S3[i]? = some (.sn ps) ∧ y = .d (pD2 p) ∧ p ∉ ps ∧ ps.length < sizeLine ∧ G.nx Γ (S3.set i (.sn (ps ++ [p])))) : LS w (sDPut td ty tv) Γ S G := fun D σ R H as rl s e => by
  refine h σ R H as _ rl s fun v ev S1 R1 H1 as1 rl1 s1 p1 e1 h1 => ?_
  refine h1 σ R1 H1 as1 _ rl1 (s.mono s1 p1) fun x ex S2 R2 H2 as2 rl2 s2 p2 e2 h2 => ?_
  refine h2 σ R2 H2 as2 _ rl2 ((s.mono s1 p1).mono s2 p2) fun y ey S3 R3 H3 as3 rl3 s3 p3 e3 ⟨d, i, ps, p, hv, hx, hi, hy, hp, hl, hk⟩ => ?_
  subst hv hx hy
  obtain ⟨a, ha, rfl⟩ := e2.mono s3 p3
  obtain ⟨⟨z, kvs, c1, c2⟩, _⟩ := rl3.reg i _ a hi ha (by intro z; cases z)
  obtain ⟨b, rfl, hb⟩ := den_pr (show Den w.K R3 y (pD2 p) from e3)
  have hlen : kvs.length = ps.length := by have := congrArg List.length c2; simpa using this
  refine ⟨a, _, rfl, DPut.t c1 (rl3.sub _ _ hb) (by rw [hlen]; exact hl), ?_⟩
  have hput : putK kvs (kP p) v = kvs ++ [(kP p, v)] := by
    unfold putK
    rw [if_neg]
    rw [valV_any, valV_pairs c2]
    simpa using hp
  rw [hput]
  have rl4 := rl3.write (o' := .sn (ps ++ [p])) (u := .dT (kvs ++ [(kP p, v)])) hi ha (by intro z; cases z) (by intro z; cases z) ⟨z, _, upd_same, by rw [List.map_append, List.map_append]; exact congrArg (· ++ [kP p]) c2⟩
  exact e.nx _ _ σ R3 _ as3 ((s1.trans s2).trans s3) rl4 (((s.mono s1 p1).mono s2 p2).mono s3 p3) hk
/-- [y for x, y in d if x == 0] -/
theorem le_seenC {i j m n : Nat} {ps : List (Int × Int)} (hn : m ≠ n) (hx : Γ[i]? = some (some (.own j))) (hS : S[j]? = some (.sn ps)) (hl : ps.length ≤ sizeLine) (hm : m < Γ.length) (hn2 : n < Γ.length)
    (q : k (.d (.lst (((ps.filter fun p => decide (p.1 = 0)).map (·.2)).map D.int))) S) :
    LE w (tLockE (tLc (iKeys (tVar i)) (gTup w.K 2 (gCons (gName m) (gCons (gName n) gNil))) (tTest (tOp rEq (tVar m) (tC (.int 0)))) (tVar n) [m, n])) Γ S k := fun σ R H as Q rl s c => by
  obtain ⟨v, hv, a, ha, rfl⟩ := s.get i _ hx
  obtain ⟨⟨hR, kvs, c1, c2⟩, _⟩ := rl.reg j _ a hS ha (by intro z; cases z)
  have hlen : kvs.length = ps.length := by have := congrArg List.length c2; simpa using this
  refine ⟨a, .dT kvs, c1, trivial, fun od => ?_⟩
  refine ⟨.ref a, hv, a, od, rfl, .inr ⟨kvs, upd_same, fun B hB => ?_⟩⟩
  have hBa : B ≠ a := fun z => by rw [z, upd_same] at hB; cases hB
  have hB0 : H B = none := by rw [upd_ne hBa] at hB; exact hB
  refine ⟨fun t z Hc => t ≤ ps.length ∧ z = ps.length - t ∧ Hc = upd (upd H a (.frz od (.dT kvs))) B (.lst ((((ps.take t).filter fun p => decide (p.1 = 0)).map (·.2)).map V.int)), ⟨_, Nat.zero_le _, rfl, rfl⟩, ?_⟩
  rintro t z _ ⟨ht, rfl, rfl⟩
  have hd : (upd (upd H a (.frz od (.dT kvs))) B (.lst ((((ps.take t).filter fun p => decide (p.1 = 0)).map (·.2)).map V.int))) a = some (.frz od (.dT kvs)) := by rw [upd_ne (Ne.symm hBa), upd_same]
  by_cases htl : t < ps.length
  · refine .inr ⟨⟨hd, by rw [hlen]; exact htl⟩, fun H' => H' = upd (upd H a (.frz od (.dT kvs))) B (.lst ((((ps.take (t + 1)).filter fun p => decide (p.1 = 0)).map (·.2)).map V.int)), fun H' e => ⟨_, by omega, htl, rfl, e⟩, ?_⟩
    rintro x _ ⟨rfl, key, vv, b, hk, rfl, hb⟩
    have hkey : key = kP ps[t] := by
      have e1 : (kvs.map (·.1))[t]? = some key := by rw [List.getElem?_map, hk]; rfl
      rw [c2, List.getElem?_map, List.getElem?_eq_getElem htl] at e1
      exact (Option.some.inj e1).symm
    subst hkey
    have etk : ps.take (t + 1) = ps.take t ++ [ps[t]] := by rw [List.take_add_one, List.getElem?_eq_getElem htl]; rfl
    rw [etk]
    generalize ps[t] = p at hb
    have ws : ∀ u1 u2 : V, wipe (((wipe σ [m, n]).set m (some u1)).set n (some u2)) [m, n] = wipe σ [m, n] := fun u1 u2 => by
      rw [wipe_set (by simp), wipe_set (by simp), wipe_wipe]
    have sl : (wipe σ [m, n]).length = Γ.length := by rw [wipe_length]; exact s.len
    refine ⟨b, _, rfl, SqT.of hb, rfl, V.int p.1, [V.int p.2], rfl, V.int p.2, [], rfl, rfl, ws _ _, ?_⟩
    refine ⟨V.int p.1, by rw [List.getElem?_set_ne (Ne.symm hn), List.getElem?_set_self (by rw [sl]; exact hm)], rfl, _, rfl, ?_⟩
    by_cases h0 : p.1 = 0
    · have e0 : decide (V.int p.1 = V.int 0) = true := by rw [h0]; exact decide_eq_true rfl
      rw [e0]
      dsimp only
      rw [if_pos rfl]
      refine ⟨V.int p.2, by rw [List.getElem?_set_self (by rw [List.length_set, sl]; exact hn2)], _, upd_same, ?_, ?_⟩
      · rw [List.length_map, List.length_map]
        have := List.length_filter_le (fun p : Int × Int => decide (p.1 = 0)) (ps.take t)
        rw [List.length_take] at this
        omega
      · rw [List.filter_append, List.filter_cons, if_pos (decide_eq_true h0), List.map_append, List.map_append]
        funext y
        by_cases hy : y = B
        · rw [hy, upd_same, upd_same]; rfl
        · rw [upd_ne hy, upd_ne hy, upd_ne hy]
    · have e0 : decide (V.int p.1 = V.int 0) = false := decide_eq_false fun z => h0 (by injection z)
      rw [e0]
      dsimp only
      rw [if_neg Bool.false_ne_true, List.filter_append, List.filter_cons, if_neg (by simpa using h0)]
      simp
  · refine .inl ⟨⟨hd, by rw [hlen]; omega⟩, hd, ?_⟩
    have ex : upd (upd (upd H a (.frz od (.dT kvs))) B (.lst ((((ps.take t).filter fun p => decide (p.1 = 0)).map (·.2)).map V.int))) a (.dT kvs) = upd H B (.lst (((ps.filter fun p => decide (p.1 = 0)).map (·.2)).map V.int)) := by
      rw [List.take_of_length_le (by omega)]
      funext y
      by_cases hy : y = a
      · rw [hy, upd_same, upd_ne (Ne.symm hBa), c1]
      · rw [upd_ne hy]
        by_cases hy2 : y = B
        · rw [hy2, upd_same, upd_same]
        · rw [upd_ne hy2, upd_ne hy2, upd_ne hy]
    rw [ex]
    obtain ⟨rl2, s2⟩ := rl.alloc hB0 (.lst (((ps.filter fun p : Int × Int => decide (p.1 = 0)).map (fun p : Int × Int => p.2)).map V.int))
    exact c _ _ S _ _ as rl2 s2 (Pre.refl _) (ok_d (Den.lst upd_same (Dens.of_ints _))) q
theorem rm_pop {i : Nat} {ds : List D} {d : D} (hi : S[i]? = some (.lst (ds ++ [d]))) (q : k (.d d) (S.set i (.lst ds))) : RM w L2.rPop (.own i) [] S k := fun R H as u us Q rl hu hus c => by
  obtain ⟨a, ha, rfl⟩ := hu
  obtain ⟨⟨z, vs, c1, c2⟩, _⟩ := rl.reg i _ a hi ha (by intro z; cases z)
  match us, hus with
  | [], _ =>
    have hl : vs.length = ds.length + 1 := by rw [c2.len]; simp
    obtain ⟨y, hy, hd⟩ := c2.get (i := ds.length) List.getElem?_concat_length
    refine ⟨a, vs, y, rfl, rfl, c1, by rw [hl]; exact hy, ?_⟩
    have c3 := c2.dropLast
    rw [List.dropLast_concat] at c3
    have rl2 := rl.write (o' := .lst ds) (u := .lst vs.dropLast) hi ha (by intro z; cases z) (by intro z; cases z) ⟨z, _, upd_same, c3⟩
    exact c y (.d d) _ R _ as rl2 (Sub.refl _) (Pre.refl _) (ok_d hd) q
theorem Rel.cut {R H : Hp} : ∀ {junk : List Own} {as : List Addr} {S0 : List Own}, Rel w R H as (S0 ++ junk) → w.as0.length ≤ S0.length → ∃ as', Rel w R H as' S0
  | [], as, S0, r, _ => ⟨as, by rw [List.append_nil] at r; exact r⟩
  | o :: junk, as, S0, r, h => by
    have r2 : Rel w R H as ((S0 ++ [o]) ++ junk) := by rw [List.append_assoc]; exact r
    obtain ⟨as2, r3⟩ := Rel.cut r2 (by rw [List.length_append]; omega)
    exact ⟨_, r3.drop1.pop h⟩
/-- data are returned; what was new in the store is forgotten -/
theorem ls_retD {t : TE} (h : LE w t Γ S fun e S1 => ∃ d S0 junk, e = .d d ∧ S1 = S0 ++ junk ∧ w.as0.length ≤ S0.length ∧ G.rt (.d d) S0) : LS w (tRet t) Γ S G := fun D σ R H as rl s e =>
  h σ R H as _ rl s fun v x S1 R1 H1 as1 rl1 s1 p1 e1 ⟨d, S0, junk, h1, h2, h3, h4⟩ => by
    subst h1 h2
    obtain ⟨as2, r2⟩ := rl1.cut h3
    exact e.rt v (.d d) S0 R1 H1 as2 s1 r2 e1 h4
end
section
variable {X : Cx} {p pos : Pos} {e : Expr} {te : TE}
theorem b_minLB (K : PySem.W.Frag) (hm : X.mg "min" = none) (he : PE X e te) (hc : X.calm = true := by rfl) (hg : Gl X "min" := by rfl) (hs : starEach [e] X.env = (false, eval e X.env) :: starEach [] X.env := by rfl) (hK : X.K = K := by rfl) : PE X (.Call (.Name "min" p) [e] [] pos) (tCB (rMin K) (tCons te tNil)) := by
  subst hK; exact b_minL hm he hc hg hs
theorem b_maxLB (K : PySem.W.Frag) (hm : X.mg "max" = none) (he : PE X e te) (hc : X.calm = true := by rfl) (hg : Gl X "max" := by rfl) (hs : starEach [e] X.env = (false, eval e X.env) :: starEach [] X.env := by rfl) (hK : X.K = K := by rfl) : PE X (.Call (.Name "max" p) [e] [] pos) (tCB (rMax K) (tCons te tNil)) := by
  subst hK; exact b_maxL hm he hc hg hs
end
end Gm
/-! sorted(set(..)) of numbers, of any length -/
namespace Gm
open PySem PySem.Spec PyProof.Rows L2
theorem sorted_setB {P : Program} {w : World} {A : Around} {E : Value → Shared → Prop} {s : Shared} {a : Addr} {S : Int → Bool} {n : Nat} {Q : Value → Shared → Prop} (R : SetR w s.heap a S n) (hh : A.handled = none) (h64 : n ≤ sizeLine)
    (hQ : ∀ s' p (out : Array Value) (c : Nat) (ns : List Int), (∀ b o, s.heap.get? b = some o → s'.heap.get? b = some o) → s'.gens = s.gens → s'.os = s.os → s.heap.objs.size ≤ p →
      s'.heap.get? p = some (seqObj "list" out c) → IntsAre out.toList ns → ns.Pairwise (· < ·) → (∀ k, k ∈ ns ↔ S k = true) → ns.length = n → Q (.ref p) s') :
    wpAny (model P w) A (call (.builtin "sorted") [.ref a]) Q E s := by
  obtain ⟨o, es, ep, t, ho, hex, hd, g, nd, hm, hb, hf, hn, hr, hl⟩ := R
  refine Calls.call_function_entry kind_sorted plain_sorted entry_sorted (args_sorted1 _) ?_
  unfold Builtin.«sorted»
  refine wpAny_bind (m := checkCount "sorted" 1 1 _) (wpAny_pure ?_)
  refine wpAny_bind (collect_set (A := A.in1) hh ⟨o, ho, hex.1, hd⟩ hf hb hr hl fun s1 vs k1 hz g1 o1 pm => ?_)
  have hvl : vs.length = n := by rw [pm.length_eq, List.length_map, Array.length_toList]; exact hn
  have hI : IntsAre vs (vs.map Builtin.Re.reRawOf) := ints_of vs fun v hv => by
    obtain ⟨e, he, q⟩ := List.mem_map.mp (pm.mem_iff.mp hv)
    obtain ⟨k, tk, h1, _⟩ := g e he
    exact ⟨k, tk, by rw [← q]; exact h1⟩
  have pk : (vs.map Builtin.Re.reRawOf).Perm (es.toList.map keyOf) := by
    have q := pm.map Builtin.Re.reRawOf
    rw [List.map_map] at q
    exact q
  refine wpAny_bind (wpAny_newList ?_ (by rw [hvl]; exact h64))
  have hoL : (s1.heap.push (seqObj "list" vs.toArray 0)).get? s1.heap.objs.size = some (seqObj "list" vs.toArray 0) := Heap.get?_push_size _ rfl
  refine wpAny_bind (wpAny_holding (wpAny_call_entry slot_list_sort ⟨_, hoL, rfl⟩ entry_list_sort (SrtO.list_sort_ord SrtO.swo_int hoL (by rw [hvl]; exact h64) (fun h2 => SrtO.ints_sortable hI h2) fun out h1 h2 => ⟨_, rfl, ?_⟩) (args_list_sort _)))
  obtain ⟨a1, a2, a3⟩ := SrtO.ints_out hI h1 h2
  obtain ⟨c, hc⟩ := sortedHeap_at (vs := vs) (out := out.toArray) hoL
  have pn : (out.map SrtO.iv).Perm (es.toList.map keyOf) := a2.trans pk
  refine wpAny_pure ⟨_, rfl, hQ _ s1.heap.objs.size out.toArray c (out.map SrtO.iv) (fun b u e => ?_) g1 o1 hz hc a1 (lt_of_le_nodup _ a3 (pn.nodup_iff.mpr nd)) (fun k => by rw [pn.mem_iff, ← hm k]) ?_⟩
  · have q := k1 b u e
    have hlt := Heap.lt_size q
    show (sortedHeap (s1.heap.push (seqObj "list" vs.toArray 0)) s1.heap.objs.size vs out.toArray).get? b = some u
    rw [sortedHeap_old (Nat.ne_of_lt hlt) (by rw [size_push']; exact Nat.lt_succ_of_lt hlt)]
    exact Heap.get?_push_of_some _ q
  · rw [pn.length_eq, List.length_map, Array.length_toList]; exact hn
def rSortedSetB (w : World) : List V → Hp → VK → Prop := fun vs H Q => ∃ (a : Addr) (S : Int → Bool) (n : Nat), vs = [V.ref a] ∧ H a = some (SetO w a S n) ∧ n ≤ sizeLine ∧
  ∀ (ns : List Int) (p : Addr), ns.Pairwise (· < ·) → (∀ k : Int, k ∈ ns ↔ S k = true) → ns.length = n → H p = none → Q (.ref p) (upd H p (.lst (ns.map V.int)))
theorem cr_sortedSetB {X : Cx} (hc : X.calm = true) : CallR X (.builtin "sorted") (rSortedSetB X.w) := by
  intro pins s σ H vs us Q I r h
  obtain ⟨a, S, n, rfl, ha, h64, q⟩ := h
  have R := setO_get I ha
  rw [Vals.ref1 r]
  refine sorted_setB R (I.ok.hd hc) h64 fun s' p out c ns k g o hp hg hi hs hm hl => ?_
  have hlen : (ns.map V.int).length ≤ sizeLine := by rw [List.length_map, hl]; exact h64
  have hn : H p = none := I.hok.fresh hp
  have J : Inv X pins σ (upd H p (.lst (ns.map V.int))) { s with heap := s'.heap, gens := s'.gens, drawn := s'.drawn, toks := s'.toks } :=
    I.call (ch := []) (Un.laid k hp hn) (I.hok.laid k hp ⟨hlen, out.toList, c, vals_of_ints hi, hg⟩) (by rw [g]; exact I.bare) (fun _ z => nomatch z)
  have e : s' = { s with heap := s'.heap, gens := s'.gens, drawn := s'.drawn, toks := s'.toks } := by
    cases s'
    cases s
    cases o
    rfl
  rw [e]
  exact ⟨.ref p, _, J, rfl, q ns p hs hm hl hn⟩
section
variable {w : Wd} {Γ : Env} {S : List Own} {k : KE}
theorem le_sortSetB {W : World} {te : TE} (h : LE w te Γ S fun e S1 => ∃ s : List Int, IsLst e S1 (s.map D.int) ∧ s.length ≤ 4000 ∧ ∀ out : List Int, out.Pairwise (· < ·) → (∀ x, x ∈ out ↔ x ∈ s) → out.length ≤ s.length → k (.d (.lst (out.map D.int))) S1) :
    LE w (tCB (rSortedSetB W) (tCons (tCB (rSetL w.K W) (tCons te tNil)) tNil)) Γ S k := fun σ R H as Q rl s c => by
  refine h σ R H as _ rl s fun v e S1 R1 H1 as1 rl1 s1 p1 e1 ⟨ns, hx, hl, q⟩ => ?_
  obtain ⟨a, ha⟩ := lst_ints (K := w.K) hx rl1 e1
  refine ⟨a, ns, by rw [ha.1], ha.2, Nat.lt_of_lt_of_le (show ns.length + 1 < 4003 by omega) (by decide +kernel), fun p n hp hn => ?_⟩
  obtain ⟨rl2, s2⟩ := rl1.alloc hp (SetO W p (fun j => decide (j ∈ ns)) n)
  refine ⟨p, _, n, rfl, upd_same, by unfold sizeLine; omega, fun out p2 h1 h2 h3 hp2 => ?_⟩
  obtain ⟨rl3, s3⟩ := rl2.alloc hp2 (.lst (out.map V.int))
  exact c _ (.d (.lst (out.map D.int))) S1 _ _ as1 rl3 ((s1.trans s2).trans s3) p1 (ok_d (Den.lst upd_same ((Dens.of_ints out).mono s3))) (q out h1 (fun x => by rw [h2]; simp) (by rw [h3]; exact hn))
end
section
variable {X : Cx} {e : Expr} {p pos p2 pos2 : Pos} {te : TE}
theorem b_sortSetB (hm : X.mg "sorted" = none) (hm2 : X.mg "set" = none) (he : PE X e te) (hc : X.calm = true := by rfl) (hh : X.A.handled = none := by rfl) (hg : Gl X "sorted" := by rfl) (hg2 : Gl X "set" := by rfl)
    (hs : starEach [e] X.env = (false, eval e X.env) :: starEach [] X.env := by rfl)
    (hs2 : starEach [.Call (.Name "set" p2) [e] [] pos2] X.env = (false, eval (.Call (.Name "set" p2) [e] [] pos2) X.env) :: starEach [] X.env := by rfl) :
    PE X (.Call (.Name "sorted" p) [.Call (.Name "set" p2) [e] [] pos2] [] pos) (tCB (rSortedSetB X.w) (tCons (tCB (rSetL X.K X.w) (tCons te tNil)) tNil)) :=
  pe_callB (cr_sortedSetB hc) hg hm (by decide +kernel) (pa_cons (pe_callTy (c_setL hh) hg2 hm2 (by decide +kernel) (pa_cons he pa_nil hs) (he := hs)) pa_nil hs2) (he := hs2)
end
end Gm
/-! a list of the store, named by its address -/
namespace Gm
open PySem PySem.Spec PyProof.Rows L2
section
variable {w : Wd} {R H : Hp} {as : List Addr} {S : List Own} {Γ : Env} {k : KE} {G : GE}
theorem Rel.toLat (r : Rel w R H as S) {i : Nat} {a : Addr} {xs : List D} (hi : S[i]? = some (.lst xs)) (ha : as[i]? = some a) : Rel w R H as (S.set i (.lat a xs)) := by
  obtain ⟨⟨z, vs, c1, c2⟩, _⟩ := r.reg _ _ _ hi ha (by intro z; cases z)
  have e : upd H a (.lst vs) = H := by
    funext b
    by_cases hb : b = a
    · subst hb; rw [upd_same, c1]
    · rw [upd_ne hb]
  have := r.write (o' := .lat a xs) (u := .lst vs) hi ha (by intro z; cases z) (by intro z; cases z) ⟨rfl, z, vs, upd_same, c2⟩
  rw [e] at this; exact this
/-- a new list is called by its address -/
theorem rs_lat {f : DS} {E : XK} {es : List Ent} (h : RS w f E es S fun e S1 => ∃ i xs, e = .own i ∧ S1[i]? = some (.lst xs) ∧ ∀ g, k (.d (.cls g)) (S1.set i (.lat g xs))) : RS w f E es S k := fun R H as vs Q rl ev c =>
  h R H as vs Q rl ev fun v e S' R' H' as' r s p ok ⟨i, xs, he, hi, hk⟩ => by
    subst he
    obtain ⟨a, ha, rfl⟩ := ok
    exact c _ (.d (.cls a)) _ R' H' as' (r.toLat hi ha) s p (Den.cls a) (hk a)
theorem le_lat {t : TE} (h : LE w t Γ S fun e S1 => ∃ i xs, e = .own i ∧ S1[i]? = some (.lst xs) ∧ ∀ g, k (.d (.cls g)) (S1.set i (.lat g xs))) : LE w t Γ S k := fun σ R H as Q rl st c =>
  h σ R H as Q rl st fun v e S' R' H' as' r s p ok ⟨i, xs, he, hi, hk⟩ => by
    subst he
    obtain ⟨a, ha, rfl⟩ := ok
    exact c _ (.d (.cls a)) _ R' H' as' (r.toLat hi ha) s p (Den.cls a) (hk a)
theorem Rel.frzEnd {S0 : List Own} {xs : List D} {v : V} (rl : Rel w R H as (S0 ++ [.lst xs])) (ok : EntOk w.K R as v (.own S0.length)) (hw : w.as0.length ≤ S0.length) (as1 : List Addr) (hp : Pre as1 as) (h1 : as1.length ≤ S0.length) :
    ∃ R' as', Rel w R' H as' S0 ∧ Sub R R' ∧ Pre as1 as' ∧ Den w.K R' v (.lst xs) := by
  obtain ⟨a, hD, rfl⟩ := ok
  have hg : (S0 ++ [Own.lst xs])[S0.length]? = some (.lst xs) := List.getElem?_concat_length
  obtain ⟨⟨z, vs, c1, c2⟩, _⟩ := rl.reg _ _ _ hg hD (by intro z; cases z)
  obtain ⟨rl2, s2⟩ := rl.freeze hg hD (by intro z; cases z) c1
  have es : (S0 ++ [Own.lst xs]).set S0.length .gone = S0 ++ [.gone] := by
    rw [List.set_append_right _ _ (Nat.le_refl _), Nat.sub_self]; rfl
  rw [es] at rl2
  refine ⟨_, _, rl2.pop hw, s2, fun i b hb => ?_, .lst upd_same (c2.mono s2)⟩
  have := (List.getElem?_eq_some_iff.mp hb).1
  rw [List.getElem?_take, if_pos (by omega)]
  exact hp i b hb
/-- a new list becomes data -/
theorem rs_frz {f : DS} {E : XK} {es : List Ent} (h : RS w f E es S fun e S1 => ∃ xs S0, e = .own S0.length ∧ S1 = S0 ++ [.lst xs] ∧ S.length ≤ S0.length ∧ k (.d (.lst xs)) S0) : RS w f E es S k := fun R H as vs Q rl ev c =>
  h R H as vs Q rl ev fun v e S' R' H' as' r s p ok ⟨xs, S0, he, hS, hl, hk⟩ => by
    subst he hS
    obtain ⟨R2, as2, r2, s2, p2, d2⟩ := r.frzEnd ok (Nat.le_trans rl.as0_le hl) as p (by rw [rl.len]; exact hl)
    exact c v (.d (.lst xs)) S0 R2 H' as2 r2 (s.trans s2) p2 d2 hk
/-- a list that was called by its address is returned; all else is forgotten -/
theorem ls_retLat {t : TE} (hw : w.as0 = []) (h : LE w t Γ S fun e S1 => ∃ (g : Addr) (i : Nat) (xs : List D), e = Ent.d (D.cls g) ∧ S1[i]? = some (Own.lat g xs) ∧ G.rt (.own 0) [Own.lst xs]) : LS w (tRet t) Γ S G := fun D σ R H as rl s e =>
  h σ R H as _ rl s fun v x S1 R1 H1 as1 rl1 s1 p1 e1 ⟨g, i, xs, h1, h2, h3⟩ => by
    subst h1
    obtain ⟨a, ha⟩ := rl1.own h2
    obtain ⟨⟨q1, q2, vs, q3, q4⟩, q5⟩ := rl1.reg _ _ _ h2 ha (by intro z; cases z)
    subst q1
    have r2 : Rel w R1 H1 [a] [.lst xs] := by
      refine ⟨rl1.r0, rl1.sub, rl1.keep, rl1.there, fun i b hb => ?_, rl1.orig, rfl, fun j o b hj hb n => ?_, fun j l b o u hj hl n1 n2 a1 a2 => ?_⟩
      · rw [hw] at hb; simp at hb
      · match j, hj, hb with
        | 0, hj, hb => cases hj; cases hb; exact ⟨⟨q2, vs, q3, q4⟩, q5⟩
        | j + 1, hj, _ => simp at hj
      · have h1 := (List.getElem?_eq_some_iff.mp hj).1
        have h2 := (List.getElem?_eq_some_iff.mp hl).1
        simp at h1 h2; omega
    cases e1
    exact e.rt _ (.own 0) [.lst xs] R1 H1 [a] s1 r2 ⟨a, rfl, rfl⟩ h3
end
end Gm
/-! a list of lists, each called by its address -/
namespace Gm
open PySem PySem.Spec PyProof.Rows L2
section
variable {w : Wd} {Γ : Env} {S : List Own} {k : KE} {G : GE}
def nest (gs : List Addr) : List Own := .lst (gs.map .cls) :: gs.map fun g => .lat g []
def LcN (w : Wd) (R1 : Hp) (as1 : List Addr) (S1 : List Own) (Dl : Addr) (i : Nat) (H : Hp) : Prop :=
  ∃ (gs : List Addr) (R' : Hp) (as' : List Addr), Rel w R' H as' (S1 ++ nest gs) ∧ Sub R1 R' ∧ Pre as1 as' ∧ as'[S1.length]? = some Dl ∧ gs.length = i
/-- [[] for g in l] -/
theorem le_lcNest {tl : TE} {g : TG} {vs : List Nat} (h : LE w tl Γ S fun e S1 => ∃ ds, e = .d (.lst ds) ∧ ds.length ≤ sizeLine ∧ (∀ d ∈ ds, ∃ up, TgOk w g vs d up) ∧ ∀ gs : List Addr, gs.length = ds.length → k (.own S1.length) (S1 ++ nest gs)) :
    LE w (tLc (iList w.K tl) g tYes (tLst tNil) vs) Γ S k := fun σ R H as Q rl s c => by
  refine h σ R H as _ rl s fun vl el S1 R1 H1 as1 rl1 s1 p1 e1 ⟨ds, h1, hz, hu, iE⟩ => ?_
  subst h1
  cases e1 with
  | lst ha hd =>
    rename_i a xs
    refine ⟨a, rfl, ⟨xs, SqL.of (rl1.sub _ _ ha)⟩, fun Dl hD => ?_⟩
    refine lc_list (xs := xs) (fun i H => LcN w R1 as1 S1 Dl i H) ?_ (fun i H2 hi p => ?_) (fun i x H2 hx p => ?_) fun H2 p => ?_
    · exact ⟨[], R1, as1 ++ [Dl], rl1.allocO hD _ (o := .lst []) ⟨(rl1.fresh hD).1, [], upd_same, .nil⟩, Sub.refl _, Pre.app _ _, by rw [← rl1.len]; exact List.getElem?_concat_length, rfl⟩
    · obtain ⟨gs, R2, as2, rl2, sb, pr, ha2, hl⟩ := p
      exact SqL.of (rl2.sub _ _ (sb _ _ ha))
    · obtain ⟨gs, R2, as2, rl2, sb, pr, ha2, hl⟩ := p
      obtain ⟨d, hd1, hd2⟩ := hd.get2 hx
      have hil := (List.getElem?_eq_some_iff.mp hd1).1
      obtain ⟨up, hu⟩ := hu d (List.mem_of_getElem? hd1)
      refine hu σ Γ R2 H2 as2 _ x _ rl2 ((s.mono s1 p1).mono sb pr) (hd2.mono sb) fun σ2 st2 hw => ⟨hw, ?_⟩
      show (fun (b : Bool) (H4 : Hp) => if b = true then (tLst tNil : TE) σ2 H4 (fun y H5 => ∃ acc, H5 Dl = some (.lst acc) ∧ acc.length < sizeLine ∧ LcN w R1 as1 S1 Dl (i + 1) (upd H5 Dl (.lst (acc ++ [y])))) else LcN w R1 as1 S1 Dl (i + 1) H4) true H2
      dsimp only
      rw [if_pos rfl]
      refine ⟨Nat.zero_le _, fun p hp => ?_⟩
      have hat : (S1 ++ nest gs)[S1.length]? = some (.lst (gs.map .cls)) := by
        rw [List.getElem?_append_right (Nat.le_refl _), Nat.sub_self]; rfl
      obtain ⟨⟨z, ws, c1, c2⟩, _⟩ := rl2.reg _ _ _ hat ha2 (by intro z; cases z)
      have hne : Dl ≠ p := fun e => by rw [e, hp] at c1; cases c1
      have hwl : ws.length = gs.length := by rw [c2.len, List.length_map]
      have rl3 := rl2.allocO hp (.lst []) (o := .lat p []) ⟨rfl, (rl2.fresh hp).1, [], upd_same, .nil⟩
      have hat3 : ((S1 ++ nest gs) ++ [Own.lat p []])[S1.length]? = some (.lst (gs.map .cls)) := by
        rw [List.getElem?_append_left (by rw [List.length_append]; simp [nest])]; exact hat
      have ha3 : (as2 ++ [p])[S1.length]? = some Dl := Pre.app _ _ _ _ ha2
      have rl4 := rl3.write (o' := .lst ((gs ++ [p]).map .cls)) (u := .lst (ws ++ [.ref p])) hat3 ha3 (by intro z; cases z) (by intro z; cases z) ⟨z, _, upd_same, by rw [List.map_append]; exact c2.append (.cons (.cls p) .nil)⟩
      refine ⟨ws, by rw [upd_ne hne]; exact c1, by omega, gs ++ [p], R2, as2 ++ [p], ?_, sb, pr.trans (Pre.app _ _), ha3, by rw [List.length_append, hl]; rfl⟩
      have es : ((S1 ++ nest gs) ++ [Own.lat p []]).set S1.length (.lst ((gs ++ [p]).map .cls)) = S1 ++ nest (gs ++ [p]) := by
        rw [List.append_assoc, List.set_append_right _ _ (Nat.le_refl _), Nat.sub_self]
        unfold nest
        simp
      rw [es] at rl4
      exact rl4
    · rw [hd.len] at p
      obtain ⟨gs, R2, as2, rl2, sb, pr, ha2, hl⟩ := p
      exact c _ (.own S1.length) _ R2 _ as2 rl2 (s1.trans sb) (p1.trans pr) (show EntOk w.K R2 as2 (.ref Dl) (.own S1.length) from ⟨Dl, ha2, rfl⟩) (iE gs hl)
/-- what a list called by its address is, among the owned -/
theorem Rel.toLst {R H : Hp} {as : List Addr} (r : Rel w R H as S) {i : Nat} {g : Addr} {xs : List D} (hi : S[i]? = some (.lat g xs)) : as[i]? = some g ∧ Rel w R H as (S.set i (.lst xs)) := by
  obtain ⟨a, ha⟩ := r.own hi
  obtain ⟨⟨e, z, vs, c1, c2⟩, _⟩ := r.reg _ _ _ hi ha (by intro z; cases z)
  subst e
  have e : upd H a (.lst vs) = H := by
    funext b
    by_cases hb : b = a
    · subst hb; rw [upd_same, c1]
    · rw [upd_ne hb]
  have := r.write (o' := .lst xs) (u := .lst vs) hi ha (by intro z; cases z) (by intro z; cases z) ⟨z, vs, upd_same, c2⟩
  rw [e] at this
  exact ⟨ha, this⟩
/-- a method asked of a list that is called by its address -/
theorem rm_lat {r : V → List V → Hp → VK → Prop} {i : Nat} {g : Addr} {xs : List D} {es : List Ent} (hi : S[i]? = some (.lat g xs)) (h : RM w r (.own i) es (S.set i (.lst xs)) fun e S1 => ∃ ys, S1[i]? = some (.lst ys) ∧ k e (S1.set i (.lat g ys))) : RM w r (.d (.cls g)) es S k := fun R H as u us Q rl hu hus c => by
  cases hu
  obtain ⟨ha, r2⟩ := rl.toLst hi
  refine h R H as _ us Q r2 ⟨g, ha, rfl⟩ hus fun v e S' R' H' as' r' s p ok ⟨ys, hy, hk⟩ => ?_
  exact c v e _ R' H' as' (r'.toLat hy (p _ _ ha)) s p ok hk
/-- a call that takes a list that is called by its address -/
theorem rs_arg {f : DS} {E : XK} {i : Nat} {g : Addr} {xs : List D} {es : List Ent} (hi : S[i]? = some (.lat g xs)) (h : RS w f E (.own i :: es) (S.set i (.lst xs)) fun e S1 => ∃ ys, S1[i]? = some (.lst ys) ∧ k e (S1.set i (.lat g ys))) : RS w f E (.d (.cls g) :: es) S k := fun R H as vs Q rl ev c => by
  obtain ⟨ha, r2⟩ := rl.toLst hi
  refine h R H as vs Q r2 ?_ fun v e S' R' H' as' r' s p ok ⟨ys, hy, hk⟩ => ?_
  · match vs, ev with
    | v :: vs, ⟨h1, h2⟩ => cases h1; exact ⟨⟨g, ha, rfl⟩, h2⟩
  · exact c v e _ R' H' as' (r'.toLat hy (p _ _ ha)) s p ok hk
end
end Gm
set_option maxHeartbeats 4000000
/-! comprehensions whose list stays own -/
namespace Gm
open PySem PySem.Spec PyProof.Rows L2
section
variable {w : Wd} {Γ : Env} {S : List Own} {k : KE} {te : TE}
/-- [.. for v in range(..) if ..]: a list of its own -/
theorem le_lcRO {wi : TI} {v : Nat} {tt : TT} (h : LR w wi Γ S fun lo n S1 => ∃ I : Nat → List D → List Own → Prop, I 0 [] S1 ∧
    (∀ i acc S2, i < n → S2.length = S1.length → I i acc S2 → LcT w Γ v tt te (.int (lo + i)) acc S2 (I (i + 1))) ∧ (∀ acc S2, S2.length = S1.length → I n acc S2 → k (.own S2.length) (S2 ++ [.lst acc]))) : LE w (tLc wi (gName v) tt te [v]) Γ S k := fun σ R H as Q rl s c => by
  refine h σ R H as _ rl s fun lo n S1 R1 H1 as1 rl1 s1 p1 ⟨I, i0, is, iE⟩ Dl hD => ?_
  refine lc_range (fun i H => LcP w R1 as1 S1.length Dl (I i) H) (lc_begin rl1 hD i0) (fun i H2 hi p => ?_) fun H2 p => ?_
  · obtain ⟨S2, R2, as2, acc, rl2, sb, pr, ha, hl, hi2⟩ := p
    have := lc_turn (Dl := Dl) (s.mono s1 p1) rl2 sb pr ha (Den.int (lo + i)) (is i acc S2 hi hl hi2)
    rw [hl] at this
    exact this
  · obtain ⟨S2, R2, as2, acc, rl2, sb, pr, ha2, hl, hi2⟩ := p
    exact c _ (.own S2.length) _ R2 _ as2 rl2 (s1.trans sb) (p1.trans pr) (show EntOk w.K R2 as2 (.ref Dl) (.own S2.length) from ⟨Dl, ha2, rfl⟩) (iE acc S2 hl hi2)
end
end Gm
/-! sorted(set(..)) by how many unlike numbers there are; lists called by their address, read -/
namespace Gm
open PySem PySem.Spec PyProof.Rows L2
theorem set_update_intsD {P : Program} {w : World} {A : Around} {I : Addr} {fp wr : List Addr} {G : Array GenState → Array GenState → Prop} {n : Nat} {Pv : Nat → Value → Prop} {St : Nat → Shared → Prop} {R : Result → Shared → Prop}
    (W : WalksS P w A.in1 I fp wr G n Pv St) (S : Addr) (hSf : S ∉ fp) (ns : List Int) (hn : n = ns.length) (hb : ∀ ys : List Int, ys.Nodup → (∀ j ∈ ys, j ∈ ns) → ys.length + 1 < scanBound) (hval : ∀ i v, Pv i v → ∃ k t, ns[i]? = some k ∧ v = .int k t) :
    ∀ (k i : Nat) (s : Shared), n - i = k → i ≤ n → St i s → (∃ (ys : List Int) (c : Nat), ys.Nodup ∧ (∀ j, j ∈ ys ↔ j ∈ ns.take i) ∧ c = ys.length ∧ SetR w s.heap S (fun j => decide (j ∈ ns.take i)) c) →
      (∀ s' c, Moved (S :: wr) G s s' → c + 1 < scanBound → SetR w s'.heap S (fun j => decide (j ∈ ns)) c → R (.ok (.ret .none)) s') →
      codeAny (model P w) A (.builtin "set.update.loop" ⟨[.ref S, .ref I], []⟩) R s := by
  have hSw : S ∉ wr := fun h => hSf (W.sub _ h)
  have hsub : ∀ b ∈ wr, b ∈ S :: wr := fun b hb => List.mem_cons_of_mem _ hb
  intro k
  induction k with
  | zero =>
    intro i s hk' hi hst ⟨ys, c, hy1, hy2, hc, hS⟩ hR
    have hin : i = n := by omega
    subst hin
    refine codeAny_builtin F.entry_set_update_loop ?_
    rw [Around.under_plainId F.plain_set_update_loop _]
    show wpAny _ A.in1 (pyNext (.ref I) >>= _) _ _ s
    refine wpAny_bind (W.done s _ _ hst fun s' hm => ?_)
    show wpAny _ A.in1 (ret Value.none) _ _ s'
    have e : ns.take i = ns := List.take_of_length_le (by omega)
    rw [e] at hS
    rw [e] at hy2
    have := hb ys hy1 fun j hj => (hy2 j).mp hj
    exact wpAny_pure (hR s' c (hm.mono hsub) (by omega) (hS.at fun o e => hm.heap S o hSw e))
  | succ k ih =>
    intro i s hk' hi hst ⟨ys, c, hy1, hy2, hc, hS⟩ hR
    have hlt : i < n := by omega
    refine codeAny_builtin F.entry_set_update_loop ?_
    rw [Around.under_plainId F.plain_set_update_loop _]
    show wpAny _ A.in1 (pyNext (.ref I) >>= _) _ _ s
    refine wpAny_bind (W.item i s _ _ hlt hst fun v s' hP hst' hm => ?_)
    obtain ⟨z, t, hz, rfl⟩ := hval i v hP
    have hS' : SetR w s'.heap S (fun j => decide (j ∈ ns.take i)) c := hS.at fun o e => hm.heap S o hSw e
    have hroom := hb ys hy1 fun j hj => List.mem_of_mem_take ((hy2 j).mp hj)
    show wpAny _ A.in1 (holding [Value.int z t] (setAdd S (.int z t)) >>= _) _ _ s'
    refine wpAny_bind (wpAny_holding ?_)
    unfold setAdd
    refine wpAny_holding ?_
    refine wpAny_bind ((intKind P w).pyHash (k := z) (intKind_is _ _ _ _) ?_)
    refine setR_add_hashed (s := { s' with toks := s'.toks + 1 }) hS' (by omega) fun h' hsb hS2 => ?_
    have et : ns.take (i + 1) = ns.take i ++ [z] := by rw [List.take_add_one, hz]; rfl
    have hS3 : SetR w h' S (fun j => decide (j ∈ ns.take (i + 1))) (if decide (z ∈ ns.take i) = true then c else c + 1) := hS2.congr fun j => by
      rw [et]
      simp [List.mem_append]
    have hnew : ∃ ys' : List Int, ys'.Nodup ∧ (∀ j, j ∈ ys' ↔ j ∈ ns.take (i + 1)) ∧ (if decide (z ∈ ns.take i) = true then c else c + 1) = ys'.length := by
      by_cases hm : z ∈ ns.take i
      · refine ⟨ys, hy1, fun j => ?_, by rw [decide_eq_true hm, if_pos rfl]; exact hc⟩
        rw [et, List.mem_append, hy2, List.mem_singleton]
        exact ⟨.inl, fun q => q.elim id fun q => by subst q; exact hm⟩
      · refine ⟨ys ++ [z], List.nodup_append.mpr ⟨hy1, List.pairwise_singleton .., fun a ha b hb => ?_⟩, fun j => ?_, by rw [decide_eq_false hm, if_neg Bool.false_ne_true, List.length_append]; simp; exact hc⟩
        · have : b = z := by simpa using hb
          subst this
          intro q; subst q; exact hm ((hy2 _).mp ha)
        · rw [et, List.mem_append, List.mem_append, hy2]
    obtain ⟨ys', q1, q2, q3⟩ := hnew
    refine wpAny_pure ⟨plainId_quiet F.plain_set_update_loop _, ih (i + 1) _ (by omega) hlt (W.frame _ s' _ _ hst' (Nat.le_succ _) fun b hb o e => ?_) ⟨ys', _, q1, q2, q3, hS3⟩ fun s'' c2 hm'' hc'' hS'' => ?_⟩
    · rw [hsb.2 b (fun h : b = S => hSf (by rw [← h]; exact hb))]; exact e
    · refine hR s'' c2 (Moved.trans W.gtrans ((hm.mono hsub).then_heap (Nat.le_succ _) fun b o hb e => ?_) hm'') hc'' hS''
      rw [hsb.2 b (fun h : b = S => hb (by rw [h]; exact List.mem_cons_self))]; exact e
theorem call_set_listD {P : Program} {w : World} {A : Around} {E : Value → Shared → Prop} {s : Shared} {l : Addr} {items : Array Value} (ns : List Int) {Q : Value → Shared → Prop} (hh : A.handled = none) (hl : s.heap.IsList l items) (hit : IntsAre items.toList ns) (hb : ∀ ys : List Int, ys.Nodup → (∀ j ∈ ys, j ∈ ns) → ys.length + 1 < scanBound)
    (h : ∀ (h' : Heap) (tk c : Nat), SetR w h' s.heap.objs.size (fun j => decide (j ∈ ns)) c → c + 1 < scanBound → (∀ (b : Addr) (o : Obj), s.heap.get? b = some o → h'.get? b = some o) → Q (.ref s.heap.objs.size) { heap := h', gens := s.gens, drawn := s.drawn, toks := tk, os := s.os }) :
    wpAny (model P w) A (call (.type "set") [.ref l]) Q E s := by
  have hisz : items.size = ns.length := by rw [← hit.length, Array.length_toList]
  obtain ⟨c, tl, hmro⟩ := F.called_set.mro
  have hmade := F.called_set.made
  have hsub := F.called_set.sub
  refine wpAny_call (codeAny_of_tree ?_)
  refine wpAny_pure ⟨Code.quiet_builtin _ (by decide +kernel), codeAny_builtin F.entry_type_call ?_⟩
  rw [Around.under_plain (weight_type_call_type "set" [.ref l] []) rfl]
  have h1 := F.called_set.notType
  have h2 := F.called_set.canCreate
  have hct := F.typeCall_set_1 (.ref l)
  unfold Builtin.«type.__call__»
  refine wpAny_ite_false rfl ?_
  refine wpAny_ite_false rfl ?_
  refine wpAny_bind (wpAny_of_eq hct ?_)
  refine wpAny_bind (wpAny_of_eq hmro ?_)
  refine wpAny_ite_false rfl ?_
  refine wpAny_bind (wpAny_of_eq hmade ?_)
  refine wpAny_bind (wpAny_pure ?_)
  refine wpAny_bind (wpAny_holding (wpAny_call ?_))
  refine codeAny_mono (code_set_led1 (P := P) (w := w) (A := A.in1) (E := fun _ _ => False) (s := s) (.ref l) (Q₁ := fun v s1 => v = .ref s.heap.objs.size ∧ s1 = { heap := s.heap.push { cls := Value.type "set", data := Data.set #[] 0 (SetTable.fresh 0 0 !w.params.followText "set-order") }, gens := s.gens, drawn := s.drawn, toks := s.toks, os := s.os }) ⟨rfl, rfl⟩) fun r s₁ hr => ?_
  match r, hr with
  | .ok (.ret v), hr =>
    obtain ⟨rfl, rfl⟩ := hr
    dsimp only
    have hnew : (s.heap.push { cls := Value.type "set", data := Data.set #[] 0 (SetTable.fresh 0 0 !w.params.followText "set-order") }).get? s.heap.objs.size = some { cls := Value.type "set", data := Data.set #[] 0 (SetTable.fresh 0 0 !w.params.followText "set-order") } := Heap.get?_push_size _ rfl
    have hsd : (Data.set #[] 0 (SetTable.fresh 0 0 !w.params.followText "set-order")) = Data.set #[] 0 (SetTable.fresh 0 0 !w.params.followText "set-order") := rfl
    generalize hO : ({ cls := Value.type "set", data := Data.set #[] 0 (SetTable.fresh 0 0 !w.params.followText "set-order") } : Obj) = O at *
    have hty : (Shared.mk (s.heap.push O) s.gens s.drawn s.toks s.os).TypeIs (.ref s.heap.objs.size) "set" := by
      exact ⟨_, hnew, by rw [← hO]⟩
    have hOd : O.data = Data.set #[] 0 (SetTable.fresh 0 0 !w.params.followText "set-order") := by rw [← hO]
    have hOc : O.cls = .type "set" := by rw [← hO]
    refine wpAny_bind (wpAny_isInstance hty hsub ?_)
    refine wpAny_ite_false rfl ?_
    refine wpAny_bind (wpAny_holding ?_)
    unfold callSpecial?
    refine wpAny_bind (wpAny_specialOf hty F.called_set.init.lookup ?_)
    dsimp only
    refine wpAny_holding (wpAny_bind (wpAny_of_eq (F.called_set.init.bind ..) ?_))
    refine wpAny_bind (wpAny_call ?_)
    refine codeAny_mono (R := fun r s' => r = .ok (.ret .none) ∧ ∃ (h' : Heap) (tk c : Nat), s' = { heap := h', gens := s.gens, drawn := s.drawn, toks := tk, os := s.os } ∧ SetR w h' s.heap.objs.size (fun j => decide (j ∈ ns)) c ∧ c + 1 < scanBound ∧ (∀ (b : Addr) (o : Obj), s.heap.get? b = some o → h'.get? b = some o)) ?_ fun r s₁ hr => ?_
    · refine codeAny_call_builtin F.called_set.init.plain F.entry_set_init (check_set_init_1 hty ?_)
      unfold Builtin.«set.__init__»
      refine wpAny_bind (wpAny_ite_true rfl (wpAny_pure ?_))
      simp only [List.cons_append, List.nil_append]
      refine wpAny_bind ?_
      unfold typeNameOfCut
      refine wpAny_bind ?_
      unfold shownTypeOf
      refine wpAny_bind (wpAny_typeOf hty ?_)
      refine wpAny_ite_false rfl ?_
      refine wpAny_pure ?_
      refine wpAny_pure ?_
      refine wpAny_bind ?_
      unfold checkCount
      refine wpAny_ite_false rfl ?_
      refine wpAny_ite_false rfl ?_
      refine wpAny_ite_false rfl ?_
      refine wpAny_pure ?_
      refine wpAny_bind ?_
      unfold Builtin.Frozenset.addrOf
      refine wpAny_pure ?_
      refine wpAny_bind ?_
      unfold setUsed
      refine wpAny_bind ?_
      unfold setState
      refine wpAny_bind (wpAny_load' hnew ?_)
      rw [hOd]
      dsimp only
      refine wpAny_ite_false rfl ?_
      refine wpAny_pure ?_
      refine wpAny_pure ?_
      refine wpAny_ite_false rfl ?_
      refine wpAny_bind ?_
      unfold Builtin.Frozenset.updateFrom
      obtain ⟨o, ho, hocls, no, hodata⟩ := hl
      have hl1 : (s.heap.push O).get? l = some o := Heap.get?_push_of_some _ ho
      have hlty : (Shared.mk (s.heap.push O) s.gens s.drawn s.toks s.os).TypeIs (.ref l) "list" := ⟨o, hl1, hocls⟩
      refine wpAny_bind ?_
      unfold Builtin.Frozenset.isAnySet
      refine wpAny_bind (wpAny_isInstance hlty F.sub_list_set ?_)
      show wpAny _ _ (isInstance (.ref l) (.type "frozenset")) _ _ _
      refine wpAny_isInstance hlty F.sub_list_frozenset ?_
      refine wpAny_ite_false rfl ?_
      refine wpAny_bind (wpAny_typeOf hlty ?_)
      refine wpAny_ite_false rfl ?_
      have hIL : (s.heap.push O).IsList l items := ⟨o, hl1, hocls, no, hodata⟩
      refine wpAny_bind (wpAny_pyIter_list hIL ?_)
      refine wpAny_bind (wpAny_runValue ?_)
      have hl0 : l < s.heap.objs.size := Heap.lt_size ho
      have hsz : (s.heap.push O).objs.size = s.heap.objs.size + 1 := Heap.size_push ..
      have hne : l ≠ (s.heap.push O).objs.size := by
        rw [hsz]
        exact Nat.ne_of_lt (Nat.lt_succ_of_lt hl0)
      refine set_update_intsD (Walks.toS (Walks.list (A := A.in1.in1.in1) hh (s.heap.push O).objs.size l hne items)) s.heap.objs.size ?_ ns hisz hb ?_ _ 0 _ rfl (Nat.zero_le _) ?_ ⟨[], 0, List.nodup_nil, (fun j => by simp), rfl, setR_new_at ?_⟩ fun s' c' hm hc hs => ?_
      · intro hm
        rcases List.mem_cons.mp hm with e | hm
        · rw [hsz] at e
          exact Nat.ne_of_lt (Nat.lt_succ_self _) e
        · exact Nat.ne_of_gt hl0 (List.mem_singleton.mp hm)
      · intro i v hv
        exact ints_get hit (by rw [Array.getElem?_toList]; exact hv)
      · exact ⟨⟨_, Heap.get?_push_size _ rfl, rfl, rfl⟩, hIL.push _⟩
      · exact (Heap.get?_push_of_some _ hnew).trans (by rw [← hO])
      · refine wpAny_pure (wpAny_pure ⟨rfl, s'.heap, s'.toks, c', ?_, hs, hc, fun b o' hb' => ?_⟩)
        · have e1 := hm.gens
          have e2 := hm.drawn
          have e3 := hm.os
          cases s'
          dsimp only at e1 e2 e3
          subst e1; subst e2; subst e3
          rfl
        · refine hm.heap b o' (fun hm2 => ?_) (Heap.get?_push_of_some _ (Heap.get?_push_of_some _ hb'))
          have hb0 : b < s.heap.objs.size := Heap.lt_size hb'
          rcases List.mem_cons.mp hm2 with e | hm2
          · exact Nat.ne_of_lt hb0 e
          · have e := List.mem_singleton.mp hm2
            rw [hsz] at e
            exact Nat.ne_of_lt (Nat.lt_succ_of_lt hb0) e
    · obtain ⟨rfl, h', tk, c', rfl, hs, hc, hk⟩ := hr
      refine wpAny_pure ?_
      refine wpAny_ite_false rfl ?_
      exact wpAny_pure (h h' tk c' hs hc hk)


def rSetD (K : PySem.W.Frag) (W : World) : List V → Hp → VK → Prop := fun xs H Q => ∃ (l : Addr) (ns : List Int), xs = [.ref l] ∧ SqL K H l (ns.map V.int) ∧ (∀ ys : List Int, ys.Nodup → (∀ j ∈ ys, j ∈ ns) → ys.length + 1 < scanBound) ∧ ∀ (p : Addr) (c : Nat), H p = none → c + 1 < scanBound → Q (.ref p) (upd H p (SetO W p (fun j => decide (j ∈ ns)) c))
theorem c_setD {X : Cx} (hc : X.A.handled = none) : CallR X (.type "set") (rSetD X.K X.w) := by
  intro pins s σ H xs us Q I r h
  obtain ⟨l, ns, rfl, sq, hb, q⟩ := h
  obtain ⟨u, rfl, ru⟩ := r.one
  obtain rfl : u = Value.ref l := ru
  obtain ⟨its, hv, hp, _⟩ := I.list sq
  refine call_set_listD ns hc (items := its.toArray) ?_ (by exact vals_ints hv) hb fun h' tk c hs hcn hk => ?_
  · obtain ⟨o, n, h1, h2, _, h3⟩ := hp
    exact ⟨o, h1, h2, n, h3⟩
  · exact ⟨.ref s.heap.objs.size, _, I.laid hk (Nat.le_refl _) (setO_new hs), rfl, q _ c I.fresh hcn⟩
section
variable {w : Wd} {R H : Hp} {as : List Addr} {Γ : Env} {S : List Own} {k : KE} {G : GE}
/-- a list, also one that is called by its address -/
def IsLat (x : Ent) (S : List Own) (ds : List D) : Prop := IsLst x S ds ∨ ∃ (g : Addr) (i : Nat), x = Ent.d (.cls g) ∧ S[i]? = some (Own.lat g ds)
theorem isLat_at {v : V} {x : Ent} {ds : List D} (o : IsLat x S ds) (r : Rel w R H as S) (e : EntOk w.K R as v x) : ∃ a vs, v = .ref a ∧ H a = some (.lst vs) ∧ Dens w.K R vs ds := by
  rcases o with h | ⟨g, i, rfl, hi⟩
  · exact isLst_at h r e
  · cases e
    obtain ⟨a, ha⟩ := r.own hi
    obtain ⟨⟨rfl, z, vs, c1, c2⟩, _⟩ := r.reg _ _ _ hi ha (by intro z; cases z)
    exact ⟨_, vs, rfl, c1, c2⟩
theorem lat_ints {x : Ent} {s : List Int} {v : V} (hx : IsLat x S (s.map D.int)) (rl : Rel w R H as S) (e : EntOk w.K R as v x) : ∃ a, v = .ref a ∧ SqL w.K H a (s.map V.int) := by
  obtain ⟨a, vs, rfl, h1, h2⟩ := isLat_at hx rl e
  rw [Dens.ints h2] at h1
  exact ⟨a, rfl, SqL.of h1⟩
theorem le_sortSetD {W : World} {te : TE} (h : LE w te Γ S fun e S1 => ∃ s : List Int, IsLat e S1 (s.map D.int) ∧ (∀ ys : List Int, ys.Nodup → (∀ j ∈ ys, j ∈ s) → ys.length ≤ 4000) ∧ ∀ out : List Int, out.Pairwise (· < ·) → (∀ x, x ∈ out ↔ x ∈ s) → k (.d (.lst (out.map D.int))) S1) :
    LE w (tCB (rSortedSetB W) (tCons (tCB (rSetD w.K W) (tCons te tNil)) tNil)) Γ S k := fun σ R H as Q rl s c => by
  refine h σ R H as _ rl s fun v e S1 R1 H1 as1 rl1 s1 p1 e1 ⟨ns, hx, hl, q⟩ => ?_
  obtain ⟨a, ha⟩ := lat_ints hx rl1 e1
  refine ⟨a, ns, by rw [ha.1], ha.2, fun ys y1 y2 => Nat.lt_of_lt_of_le (show ys.length + 1 < 4003 by have := hl ys y1 y2; omega) (by decide +kernel), fun p n hp hn => ?_⟩
  obtain ⟨rl2, s2⟩ := rl1.alloc hp (SetO W p (fun j => decide (j ∈ ns)) n)
  have hsb : scanBound = 4096 := rfl
  refine ⟨p, _, n, rfl, upd_same, by unfold sizeLine; omega, fun out p2 h1 h2 h3 hp2 => ?_⟩
  obtain ⟨rl3, s3⟩ := rl2.alloc hp2 (.lst (out.map V.int))
  exact c _ (.d (.lst (out.map D.int))) S1 _ _ as1 rl3 ((s1.trans s2).trans s3) p1 (ok_d (Den.lst upd_same ((Dens.of_ints out).mono s3))) (q out h1 fun x => by rw [h2]; simp)
end
section
variable {w : Wd} {Γ : Env} {S : List Own} {k : KE} {te : TE}
theorem Dens.clss {K : PySem.W.Frag} {R : Hp} : ∀ {gs : List Addr} {vs : List V}, Dens K R vs (gs.map D.cls) → vs = gs.map V.ref
  | [], _, .nil => rfl
  | g :: gs, _, .cons h r => by
    cases h
    rw [Dens.clss r]; rfl
/-- [.. for l in a list of lists] -/
theorem le_lcRows {tl : TE} {v : Nat} {tt : TT} (h : LE w tl Γ S fun e S1 => ∃ (i0 : Nat) (gs : List Addr), e = .own i0 ∧ S1[i0]? = some (.lst (gs.map D.cls)) ∧ ∃ I : Nat → List D → List Own → Prop, I 0 [] S1 ∧ (∀ i acc S2, I i acc S2 → S2[i0]? = some (.lst (gs.map D.cls))) ∧
    (∀ i g acc S2, gs[i]? = some g → S2.length = S1.length → I i acc S2 → LcT w Γ v tt te (.cls g) acc S2 (I (i + 1))) ∧ (∀ acc S2, S2.length = S1.length → I gs.length acc S2 → k (.d (.lst acc)) S2)) : LE w (tLc (iList w.K tl) (gName v) tt te [v]) Γ S k := fun σ R H as Q rl s c => by
  refine h σ R H as _ rl s fun vl el S1 R1 H1 as1 rl1 s1 p1 e1 ⟨i0, gs, h1, hS, I, i0', ik, is, iE⟩ => ?_
  subst h1
  obtain ⟨a, ha, rfl⟩ := e1
  have at_ : ∀ {R' H' : Hp} {as' : List Addr} {S' : List Own}, Rel w R' H' as' S' → Pre as1 as' → S'[i0]? = some (.lst (gs.map D.cls)) → H' a = some (.lst (gs.map V.ref)) := fun r p hs => by
    obtain ⟨⟨z, vs, c1, c2⟩, _⟩ := r.reg _ _ _ hs (p _ _ ha) (by intro z; cases z)
    rw [← Dens.clss c2]; exact c1
  have h0 := at_ rl1 (Pre.refl _) hS
  refine ⟨a, rfl, ⟨gs.map V.ref, SqL.of h0⟩, fun Dl hD => ?_⟩
  have old : ∀ {S2 : List Own} {acc : List D}, S2[i0]? = some (Own.lst (gs.map D.cls)) → (S2 ++ [Own.lst acc])[i0]? = some (Own.lst (gs.map D.cls)) := fun {S2 acc} hs => by
    rw [List.getElem?_append_left (List.getElem?_eq_some_iff.mp hs).1]; exact hs
  refine lc_list (xs := gs.map V.ref) (fun i H => LcP w R1 as1 S1.length Dl (I i) H) (lc_begin rl1 hD i0') (fun i H2 hi p => ?_) (fun i x H2 hx p => ?_) fun H2 p => ?_
  · obtain ⟨S2, R2, as2, acc, rl2, sb, pr, ha2, hl, hi2⟩ := p
    exact SqL.of (at_ rl2 pr (old (ik _ _ _ hi2)))
  · obtain ⟨S2, R2, as2, acc, rl2, sb, pr, ha2, hl, hi2⟩ := p
    rw [List.getElem?_map, Option.map_eq_some_iff] at hx
    obtain ⟨g, hg, rfl⟩ := hx
    have := lc_turn (Dl := Dl) (s.mono s1 p1) rl2 sb pr ha2 (Den.cls g) (is i g acc S2 hg hl hi2)
    rw [hl] at this
    exact this
  · rw [List.length_map] at p
    obtain ⟨S2, R2, as2, acc, rl2, sb, pr, hD2, hl, hi⟩ := p
    have hg : (S2 ++ [Own.lst acc])[S2.length]? = some (.lst acc) := List.getElem?_concat_length
    obtain ⟨⟨z, vs, c1, c2⟩, _⟩ := rl2.reg _ _ _ hg hD2 (by intro z; cases z)
    obtain ⟨rl3, s3⟩ := rl2.freeze hg hD2 (by intro z; cases z) c1
    have es : (S2 ++ [Own.lst acc]).set S2.length .gone = S2 ++ [.gone] := by
      rw [List.set_append_right _ _ (Nat.le_refl _), Nat.sub_self]; rfl
    rw [es] at rl3
    refine c _ _ S2 _ _ _ (rl3.pop (by rw [hl]; exact rl1.as0_le)) (s1.trans (sb.trans s3)) (p1.trans fun i b hb => ?_) (ok_d (.lst upd_same (c2.mono s3))) (iE acc S2 hl hi)
    have hil := (List.getElem?_eq_some_iff.mp hb).1
    rw [List.getElem?_take, if_pos (by rw [hl, ← rl1.len]; exact hil)]
    exact pr i b hb
end
section
variable {X : Cx} {e : Expr} {p pos p2 pos2 : Pos} {te : TE}
theorem b_sortSetD (hm : X.mg "sorted" = none) (hm2 : X.mg "set" = none) (he : PE X e te) (hc : X.calm = true := by rfl) (hh : X.A.handled = none := by rfl) (hg : Gl X "sorted" := by rfl) (hg2 : Gl X "set" := by rfl)
    (hs : starEach [e] X.env = (false, eval e X.env) :: starEach [] X.env := by rfl)
    (hs2 : starEach [.Call (.Name "set" p2) [e] [] pos2] X.env = (false, eval (.Call (.Name "set" p2) [e] [] pos2) X.env) :: starEach [] X.env := by rfl) :
    PE X (.Call (.Name "sorted" p) [.Call (.Name "set" p2) [e] [] pos2] [] pos) (tCB (rSortedSetB X.w) (tCons (tCB (rSetD X.K X.w) (tCons te tNil)) tNil)) :=
  pe_callB (cr_sortedSetB hc) hg hm (by decide +kernel) (pa_cons (pe_callTy (c_setD hh) hg2 hm2 (by decide +kernel) (pa_cons he pa_nil hs) (he := hs)) pa_nil hs2) (he := hs2)
theorem b_sortSetDB (K : PySem.W.Frag) (W : World) (hm : X.mg "sorted" = none) (hm2 : X.mg "set" = none) (he : PE X e te) (hh : X.A.handled = none) (hK : X.K = K := by rfl) (hW : X.w = W := by rfl) (hc : X.calm = true := by rfl) (hg : Gl X "sorted" := by rfl) (hg2 : Gl X "set" := by rfl)
    (hs : starEach [e] X.env = (false, eval e X.env) :: starEach [] X.env := by rfl)
    (hs2 : starEach [.Call (.Name "set" p2) [e] [] pos2] X.env = (false, eval (.Call (.Name "set" p2) [e] [] pos2) X.env) :: starEach [] X.env := by rfl) :
    PE X (.Call (.Name "sorted" p) [.Call (.Name "set" p2) [e] [] pos2] [] pos) (tCB (rSortedSetB W) (tCons (tCB (rSetD K W) (tCons te tNil)) tNil)) := by
  subst hK; subst hW
  exact b_sortSetD hm hm2 he hc hh hg hg2 hs hs2
theorem b_sortIB (K : PySem.W.Frag) (hm : X.mg "sorted" = none) (he : PE X e te) (hK : X.K = K := by rfl) (hg : Gl X "sorted" := by rfl) (hs : starEach [e] X.env = (false, eval e X.env) :: starEach [] X.env := by rfl) : PE X (.Call (.Name "sorted" p) [e] [] pos) (tCB (rSortedI K) (tCons te tNil)) := by
  subst hK
  exact b_sortI hm he hg hs
end
end Gm
set_option maxHeartbeats 4000000
/-! lists of ints that are called by their address: loops, membership, sorted -/
namespace Gm
open PySem PySem.Spec PyProof.Rows L2
section
variable {w : Wd} {R H : Hp} {as : List Addr} {Γ : Env} {S : List Own} {k : KE} {G : GE} {t1 : TS}
theorem rr_niD {y : Ent} {n : Int} {s : List Int} (hy : IsLat y S (s.map D.int)) (q : k (.d (.bl (!decide (n ∈ s)))) S) : RR w (rIn w.K true) (.d (.int n)) y S k := fun R H as u v Q rl hu hv c => by
  obtain ⟨a, rfl, h⟩ := lat_ints hy rl hv
  cases (show Den w.K R u (.int n) from hu)
  refine ⟨a, _, rfl, .inl h, rfl, by simp [List.all_map, flatV], ?_⟩
  rw [if_pos rfl, inV_ints]
  exact c _ _ S R H as rl (Sub.refl _) (Pre.refl _) (ok_d (Den.bl _)) q
theorem rc_sortID {x : Ent} {s : List Int} (hx : IsLat x S (s.map D.int)) (q : ∀ out : List Int, out.Perm s → out.Pairwise (· ≤ ·) → k (.d (.lst (out.map D.int))) S) : RC w (rSortedI w.K) [x] S k := fun R H as us Q rl hu c => by
  obtain ⟨v, rfl, hv⟩ := one_ent hu
  obtain ⟨a, ha⟩ := lat_ints hx rl hv
  refine ⟨a, s, by rw [ha.1], ha.2, fun out p h1 h2 hp => ?_⟩
  obtain ⟨rl2, s2⟩ := rl.alloc hp (.lst (out.map V.int))
  exact c _ _ S _ _ as rl2 s2 (Pre.refl _) (ok_d (Den.lst upd_same ((Dens.of_ints out).mono s2))) (q out h1 h2)
/-- for x in a list of ints that is called by its address -/
theorem ls_forLat {tl : TE} {g : TG} (h : LE w tl Γ S fun e S1 => ∃ (ga : Addr) (i0 : Nat) (ns : List Int), e = .d (.cls ga) ∧ S1[i0]? = some (Own.lat ga (ns.map D.int)) ∧ ∃ I : Nat → Env → List Own → Prop, I 0 Γ S1 ∧ (∀ i Γ1 S2, I i Γ1 S2 → S2[i0]? = some (Own.lat ga (ns.map D.int))) ∧
    (∀ i n Γ1 S2, ns[i]? = some n → I i Γ1 S2 → LG w g (.d (.int n)) Γ1 S2 fun Γ2 S3 => LS w t1 Γ2 S3 { G with nx := I (i + 1), ct := I (i + 1), bk := G.nx }) ∧ (∀ Γ1 S2, I ns.length Γ1 S2 → G.nx Γ1 S2)) : LS w (tFor (iList w.K tl) g t1) Γ S G := fun EE σ R H as rl s e => by
  refine h σ R H as _ rl s fun v x S1 R1 H1 as1 rl1 s1 p1 e1 ⟨ga, j0, ns, h1, hS, I, i0, ik, is, iE⟩ => ?_
  subst h1
  cases e1
  have at_ : ∀ {R' H' : Hp} {as' : List Addr} {S' : List Own}, Rel w R' H' as' S' → S'[j0]? = some (Own.lat ga (ns.map D.int)) → SqL w.K H' ga (ns.map V.int) := fun r hs => by
    obtain ⟨a, ha⟩ := r.own hs
    obtain ⟨⟨rfl, z, vs, c1, c2⟩, _⟩ := r.reg _ _ _ hs ha (by intro z; cases z)
    rw [← Dens.ints c2]; exact SqL.of c1
  refine ⟨ga, rfl, ⟨ns.map V.int, at_ rl1 hS⟩, ?_⟩
  refine for_list (xs := ns.map V.int) (fun i σ' H' => ∃ Γ' S' R' as', Sub R1 R' ∧ Rel w R' H' as' S' ∧ Sts w.K R' as' σ' Γ' ∧ I i Γ' S') ⟨Γ, S1, R1, as1, Sub.refl _, rl1, s.mono s1 p1, i0⟩ ?_ ?_ ?_
  · rintro i σ2 H2 hi ⟨Γ2, S2, R2, as2, u2, rl2, st2, i2⟩
    exact at_ rl2 (ik _ _ _ i2)
  · rintro i x σ2 H2 hx ⟨Γ2, S2, R2, as2, u2, rl2, st2, i2⟩
    rw [List.getElem?_map, Option.map_eq_some_iff] at hx
    obtain ⟨n, hn, rfl⟩ := hx
    refine is i n Γ2 S2 hn i2 _ σ2 R2 H2 as2 _ rl2 st2 (Den.int n) fun Γ3 S3 σ3 R3 H3 as3 rl3 s3 p3 st3 q => ?_
    have up := u2.trans s3
    have e2 := e.up (s1.trans up)
    exact q _ σ3 R3 H3 as3 rl3 st3 ⟨fun Γ' S' σ' R' H' as' u a b hi => ⟨Γ', S', R', as', up.trans u, a, b, hi⟩, e2.rt, e2.nx, fun Γ' S' σ' R' H' as' u a b hi => ⟨Γ', S', R', as', up.trans u, a, b, hi⟩⟩
  · rintro σ2 H2 ⟨Γ2, S2, R2, as2, u2, rl2, st2, i2⟩
    exact e.nx Γ2 S2 σ2 R2 H2 as2 (s1.trans u2) rl2 st2 (by rw [List.length_map] at i2; exact iE Γ2 S2 i2)
end
end Gm
set_option maxHeartbeats 2000000
/-! errors whose context is None; a caught error handed to a def -/
namespace Gm
open PySem PySem.Spec PyProof.Rows L2 HotX

/-! ### raising -/
section
variable {X : Cx} {e : Expr} {es : List Expr} {ta : TA} {p pos : Pos}
theorem mk_endN {pins : List (Addr × Obj)} {σ : L2.St} {H1 H2 : Hp} {Q : XK} {hp hp2 h2 : Heap} {g1 g2 : Array GenState} {d1 d2 : Drawn} {t1 t2 : Nat} {os1 os2 : OsState} {a C d : Addr} {fs : List (Str × V)} (T : Raises X (.ref C)) (I1 : Inv X pins σ H1 ⟨hp, g1, d1, t1, os1⟩)
    (ha : hp.objs.size ≤ a) (k : ∀ b o, hp.get? b = some o → hp2.get? b = some o) (un : Un (frs X.stack) [] (upd H1 a (exo a C none)) H2 hp2 h2) (hok : HOk X.prog X.w H2 h2) (ho : os2 = os1) (hb : AllBare g2)
    (ea : H2 a = some (exo a C (some d))) (ed : H2 d = some (exd d fs)) (hd1 : H1 d = none) (q : Q (.ref C) (some d) (upd (del H2 a) d (.xd fs))) : L2N.MkP X pins σ Q (.ref a) ⟨h2, g2, d2, t2, os2⟩ := by
  obtain ⟨t0, G, J, kG, ge, hoe, na⟩ := mk_end0 (d2 := d2) (t2 := t2) I1 ha k un hok ho hb ea ed hd1
  exact ⟨a, _, _, ⟨G, g2, d2, t2, os2⟩, _, .ref C, some d, rfl, J, kG, ge, hoe, ⟨rfl, rfl, fun vs e => by cases e; rfl⟩, rfl, rfl, na, rfl, hb, T, q⟩
theorem pmk_oexN {CX : CXT} {x : Str} {C fI : Addr} {k : Nat} {fd : FuncData} {ps : List Str} {sp : Sp} {ds : List Value} {dvs : List V} (T : OexC X.K C) (iC : PySem.W.findIn X.K (.ref C) "__init__" = some (some (.ref fI))) (tI : PySem.W.typeIn X.K (.ref fI) = some (.type "function"))
    (F1 : FnOk X.prog X.w X.K X.mg X.base CX k fI fd ps sp) (hr : Room (k + 1) X.A) (hb : Binds X.K fd ps ds) (hd : Vals dvs ds) (hx : Passes CX X (fun _ _ _ => False)) (hg : Gl X x) (hm : X.mg x = some (.ref C)) (ha : PA X (e :: es) ta)
    (hdb : (x == ("__debug__" : Str)) = false := by decide) (he : starEach (e :: es) X.env = (false, eval e X.env) :: starEach es X.env := by rfl) (hpl : (backTo pos (starEach es X.env)).any (·.1) = false := by rfl) :
    L2N.PMk X (.Call (.Name x p) (e :: es) [] pos) (tMkO C sp dvs ta) := by
  intro pins s σ H Q I h
  obtain ⟨nm, q, N, bs, bm, sn, sub, ab, col, dd, k0, k1, k2, k3, k5, hC, hbm⟩ := T.cls
  refine wpAny_Call_Name_kw (ld_glob I hg hm ?_ hdb)
  refine PySem.W.callWith_K (h₀ := X.base) I.ok.mod.kin T.kC (thn (ha.run pos pins s σ H _ I h) fun us s1 ⟨vs, H1, I1, r1, hz, q1⟩ => ⟨I1.kIn, ?_⟩) he hpl
  show wpAny _ _ (call (.ref C) us) _ _ _
  obtain ⟨hp, g, dr, tk, os⟩ := s1
  have hsz : hp.objs.size ≤ hp.objs.size + 1 := Nat.le_succ _
  have hn : H1 (hp.objs.size + 1) = none := I1.hok.fresh hsz
  have hq := q1 (hp.objs.size + 1) hn
  have kk : ∀ b o, hp.get? b = some o → ((hp.push (PySem.W.kdv_tup us)).push (PySem.HandSPX.excO C hp.objs.size)).get? b = some o := fun b o e => Heap.get?_push_of_some _ (Heap.get?_push_of_some _ e)
  have hget : ((hp.push (PySem.W.kdv_tup us)).push (PySem.HandSPX.excO C hp.objs.size)).get? (hp.objs.size + 1) = some (PySem.HandSPX.excO C hp.objs.size) := by heap_get
  have I2 : Inv X pins σ (upd H1 (hp.objs.size + 1) (exo (hp.objs.size + 1) C none)) ⟨(hp.push (PySem.W.kdv_tup us)).push (PySem.HandSPX.excO C hp.objs.size), g, dr, tk, os⟩ :=
    I1.laid (t' := tk) (a := hp.objs.size + 1) (o := exo (hp.objs.size + 1) C none) (h' := (hp.push (PySem.W.kdv_tup us)).push (PySem.HandSPX.excO C hp.objs.size)) kk hsz (exo_ok hget)
  have r2 : Vals (V.ref (hp.objs.size + 1) :: (vs ++ dvs)) (Value.ref (hp.objs.size + 1) :: (us ++ ds)) := .cons rfl (r1.append hd)
  have hl : (Value.ref (hp.objs.size + 1) :: us ++ ds).length = ps.length := by
    have e := r2.length
    rw [F1.len _ _ _ _ hq] at e
    exact e.symm
  have hus : us.length ≤ sizeLine := by
    rw [← Paired.length r1, sizeLine_eq]
    omega
  refine wpAny_call (PySem.HandSPX.call_own F.excBase_ValueError (fun Y => PySem.HandSPX.refsVE_contains Y bm hbm) (I1.kIn _ _ hC) (PySem.W.looks_findIn I1.kIn iC) (fun self => PySem.W.bind_fn I1.kIn self tI) hus
    (codeAny_mono (F1.run _ X.stack _ _ ⟨Value.ref (hp.objs.size + 1) :: us, []⟩ (Value.ref (hp.objs.size + 1) :: (us ++ ds)) _ _ (fun _ _ _ => False) (hr.make C us []) (I2.env0.make C us []) (hb _ (Value.ref (hp.objs.size + 1) :: us) I2.kIn hl) r2 hq) fun r s' hq' => ?_))
  cases r with
  | error er => exact hx pins σ _ _ er s' I2 hq'
  | ok fl =>
    cases fl with
    | ret u =>
      obtain ⟨v, H2, os2, bare2, un2, hok2, rv, ev, d, fs, ea, ed, hd1, q2⟩ := hq'
      subst ev
      obtain ⟨h2, g2, d2, t2, os'⟩ := s'
      exact ⟨rv, mk_endN (raises_own T.exC T.tyC) I1 hsz kk un2 hok2 os2 bare2 ea ed hd1 q2⟩
    | next => exact False.elim hq'
    | brk => exact False.elim hq'
    | cont => exact False.elim hq'
end
theorem ps_errN {X : Cx} {W : WX} {x : Str} {C : Addr} {k : Nat} {e : Expr} {es : List Expr} {ta : TA} {p pos pos' : Pos} (d : Xt X.prog X.w X.K X.mg X.base k x C) (hr : Room (k + 1) X.A) (hx : Passes CX0 X (fun _ _ _ => False)) (tk : L2N.Takes X W) (ha : PA X (e :: es) ta)
    (hc : X.calm = true := by rfl) (hg : Gl X x := by rfl) (hdb : (x == ("__debug__" : Str)) = false := by decide) (he : starEach (e :: es) X.env = (false, eval e X.env) :: starEach es X.env := by rfl) (hpl : (backTo pos (starEach es X.env)).any (·.1) = false := by rfl) :
    PS X (.Raise (some (.Call (.Name x p) (e :: es) [] pos)) none pos') (tErr X.K C ta W) := by
  obtain ⟨f, fd, h1, h2, F, hb⟩ := d.ex
  exact L2N.ps_raise hc tk (pmk_oexN d.cls h1 h2 F hr hb .nil hx hg d.gl ha hdb he hpl)
section
variable {P : Program} {w0 : World} {K : PySem.W.Frag} {mg : Str → Option Value} {base : Heap} {N : List Str} {qual : Str} {scope : Scope} {f : Addr} {cdv : Value} {A : Around} {outer : List PySem.Env} {s : Shared} {H : Hp} {E : XK}
theorem takesXN : L2N.Takes (cxOf (L2N.CX P w0) P w0 K mg base N qual scope f cdv A outer s H E) (fun c d _ H => E c d H) := L2N.takes_of rfl rfl rfl rfl
theorem passXN : Passes (L2N.CX P w0) (cxOf (L2N.CX P w0) P w0 K mg base N qual scope f cdv A outer s H E) E := L2N.passes_call takesXN fun _ _ _ _ h => h
end
theorem passTN {X : Cx} {W : WX} {n : Nat} (tk : L2N.Takes X W) (hn : X.N.length = n) : Passes (L2N.CX X.prog X.w) X (EW n W) := fun pins σ H s e s' I c =>
  tk e s' (L2N.XE.of_call I (fun c d H' h => h σ (I.len.trans hn)) c)
theorem passLN {X : Cx} : Passes (L2N.CX X.prog X.w) X E0 := fun _ _ _ _ _ _ _ h => by
  obtain ⟨_, _, _, _, _, _, _, _, _, _, _, _, z⟩ := h
  exact z.elim
theorem takes0N {X : Cx} : L2N.Takes X (fun _ _ _ _ => False) := fun _ _ x => by
  obtain ⟨_, _, _, _, _, _, _, _, _, _, _, _, _, _, _, _, z⟩ := x
  exact z.elim
section
variable {P : Program} {w0 : World} {K : PySem.W.Frag} {mg : Str → Option Value} {base : Heap}
/-- a def that may raise -/
theorem fnXN {x qual : Str} {st : Stmt} {f : Addr} {fd : FuncData} {N ps : List Str} {k : Nat} {ds : DS} (F : Fun K x qual st f fd) (Sc : FnScope N ps (defScope st)) (len : ∀ es S p e, ds es S p e → es.length = ps.length)
    (hbody : ∀ (cdv : Value) (A : Around) (outer : List PySem.Env) (s : Shared) (H : Hp) (E : XK), Room k (A.deeper (PyProof.Rows.envOfC qual (defScope st) s.heap.objs.size f cdv)) →
      ∀ (w : Wd) (es : List Ent) (S : List Own) (p : KE) (e : KX), w.K = K → w.as0.length = S.length → ExOk w E e → ds es S p e → ∃ t, PSs (cxOf (L2N.CX P w0) P w0 K mg base N qual (defScope st) f cdv A outer s H E) (defBody st) t ∧ LS w t (startG N es) S { nx := fun _ S' => p (.d .non) S', rt := p }) :
    FnOk P w0 K mg base (L2N.CX P w0) (k + 1) f fd ps (spD K ds) := by
  obtain ⟨oc, od, kV, doc, pm, an, cdv, ct, osl, rfl, lk, hcd⟩ := F.ex
  refine fn_of lk hcd Sc (fun vs H Q E ⟨R, as, S, es, p, e, h1, h2, h3, h4, h5⟩ => by rw [h1.len]; exact len es S p e h3) fun A outer s H vs Q E hr h => ?_
  obtain ⟨R, as, S, es, p, e, h1, h2, h3, h4, h5⟩ := h
  obtain ⟨t, ht, hL⟩ := hbody cdv A outer s H E hr ⟨K, R, H, as⟩ es S p e rfl h2.len h5 h3
  refine ⟨t, ht, ?_⟩
  refine hL _ _ R H as h2 (sts_start h1) ⟨fun Γ' S' σ' R' H' as' u a b c => ?_, fun v x S' R' H' as' u a b c => h4 v x S' R' H' as' a b c, fun _ _ _ _ _ _ _ _ _ c => c.elim, fun _ _ _ _ _ _ _ _ _ c => c.elim⟩
  exact h4 .non (.d .non) S' R' H' as' a Den.non c
end
theorem ps_tryN {X : Cx} {x n : Str} {c : Value} {i : Nat} {body suite : List Stmt} {b₀ : Stmt} {np pos pos' : Pos} {tb : WX → TS} {ts : Addr → Value → Option Addr → TS} (hN : X.N.Nodup) (hc : Names X x c)
    (hb : ∀ (W : WX) (pn : List (Addr × Obj)) (xe : Value → Shared → Prop), L2N.Takes (X.tr pn xe) W → PSs (X.tr pn xe) body (tb W))
    (hsu : ∀ (a : Addr) (oe : Obj) (cls : Value) (d : Option Addr) (pn : List (Addr × Obj)), L2N.Zn cls d oe → (∃ vs, oe.data = .fields vs) → PSs (X.suite a ((a, oe) :: pn)) (b₀ :: suite) (ts a cls d))
    (hs : X.stack = X.env :: X.outer := by rfl) (hf : X.env.frame = some X.env.locals := by rfl) (hi : X.N[i]? = some n := by rfl) (hln : X.env.kindOf n = some .local := by rfl) :
    PS X (.Try body [.ExceptHandler (some (.Name x np)) (some n) (b₀ :: suite) pos'] [] [] pos) (tTry X.K c i tb ts) :=
  L2N.ps_try_as hs hf hN hi hln hc (takes0N (X := X)) (fun W pn xe tk _ => hb W pn xe tk) hsu

/-! ### a def that is called with the caught error -/
/-- what a def promises that is called with the error that is handled: its class, its dict, its address -/
abbrev SpH := Value → Option Addr → Addr → Sp
structure FnHZ (P : Program) (w : World) (K : PySem.W.Frag) (mg : Str → Option Value) (base : Heap) (CX : CXT) (k : Nat) (f : Addr) (fd : FuncData) (ps : List Str) (sp : SpH) : Prop where
  len : ∀ c d a vs H Q E, sp c d a vs H Q E → vs.length = ps.length
  run : ∀ (A : Around) (outer : List PySem.Env) (s : Shared) (H : Hp) (args : Args) (us : List Value) (vs : List V) (Q : VK) (E : XK) (p : Addr × Obj) (c : Value) (d : Option Addr), L2H.RoomH k A → L2H.Hot1 A p → L2N.Zn c d p.2 → (∃ ws, p.2.data = .fields ws) → L2H.PinOk outer H s p → Env0 P w K mg base A outer s H → BindsTo s fd args (ps.zip us) → Vals vs us → sp c d p.1 vs H Q E →
    codeAny (model P w) A (.call (.ref f) args) (CR CX outer P w H s Q E) s
theorem fn_ofHZ {CX : CXT} {P : Program} {w : World} {K : PySem.W.Frag} {mg : Str → Option Value} {base : Heap} {k : Nat} {f : Addr} {name qual : Str} {params : Arguments} {body : List Stmt} {scope : Scope} {dV kV doc pm cdv ct oc : Value} {an od : Option Addr}
    {osl : Array (Option Value)} {N ps : List Str} {sp : SpH} (lk : K.lookup f = some ⟨oc, od, .func (PySem.W.fnOf name qual params body scope dV kV doc pm an cdv ct), osl⟩) (hcd : PySem.W.codeIn K cdv qual = true) (S : FnScope N ps scope)
    (len : ∀ c d a vs H Q E, sp c d a vs H Q E → vs.length = ps.length)
    (hbody : ∀ (A : Around) (outer : List PySem.Env) (s : Shared) (H : Hp) (vs : List V) (Q : VK) (E : XK) (p : Addr × Obj) (c : Value) (d : Option Addr), L2H.Hot1 (A.deeper (envOfC qual scope s.heap.objs.size f cdv)) p → L2N.Zn c d p.2 → (∃ ws, p.2.data = .fields ws) → L2H.RoomH k (A.deeper (envOfC qual scope s.heap.objs.size f cdv)) → sp c d p.1 vs H Q E →
      ∃ t, PSs (L2H.cxH CX P w K mg base N qual scope f cdv A outer s H E p) body t ∧ t { nx := fun _ H' => Q .non H', rt := Q } (L2.start N vs) H) :
    FnHZ P w K mg base CX (k + 1) f (PySem.W.fnOf name qual params body scope dV kV doc pm an cdv ct) ps sp := by
  refine ⟨len, fun A outer s H args us vs Q E p c d hr hot hz hf hpin e0 hb r hsp => ?_⟩
  have hl := len _ _ _ _ _ _ _ hsp
  have KX : K.In s.heap := e0.mod.kin.keeps fun b o e => (e0.bs b o e).1
  have lim : s.heap.NoLimit := e0.mod.nolimit.keeps fun b o e => (e0.bs b o e).1
  have hkind : ∀ y ∈ ps.zip us, scope.names.lookup y.1 = some .local ∨ (scope.names.lookup y.1 = some .cell ∧ ((cellsFrom (s.heap.objs.size + 1) scope.names []).lookup y.1).isSome = true) := fun ⟨n, v⟩ hy => by
    rcases S.par n (List.of_mem_zip hy).1 with q | q
    · exact .inl q
    · exact .inr ⟨q, PySem.W.cellsFrom_some _ _ _ (.inl q)⟩
  refine codeAny_call_function hr.depth (KX _ _ lk) rfl S.co S.gen rfl (PySem.W.codeRec_of KX hcd) (hb _ _ _ _ ?_)
  refine wpAny_newFunctionEnv_cells S.kind hkind fun env he s1 x => ?_
  subst he
  refine ⟨lim.keeps x.toInCall.keep, codeAny_func ?_⟩
  obtain ⟨t, ht, hq⟩ := hbody A outer s H vs Q E p c d hot hz hf (hr.deeper _) hsp
  have I : Inv (L2H.cxH CX P w K mg base N qual scope f cdv A outer s H E p) [] (L2.start N vs) H s1 := L2H.inv_startH S hpin e0 hl r x
  refine wpAny_mono (ht.run [] s1 (L2.start N vs) H _ I hq) (fun fl s' hs => ?_) fun e s' hs => hs
  have fin : ∀ {σ' : L2.St} {H' : Hp} {v : V} {u : Value}, Inv (L2H.cxH CX P w K mg base N qual scope f cdv A outer s H E p) [] σ' H' s' → RelV v u → Q v H' → CE outer P w H s Q u s' :=
    fun {σ' H' v u} J rv q => ⟨v, H', J.os, J.bare, J.base, J.hok, rv, q⟩
  cases fl with
  | ret u =>
    obtain ⟨v, σ', H', J, rv, q⟩ := hs
    exact fin J rv q
  | next =>
    obtain ⟨σ', H', J, q⟩ := hs
    exact fin (v := V.non) (u := Value.none) J rfl q
  | brk =>
    obtain ⟨_, _, _, q⟩ := hs
    exact False.elim q
  | cont =>
    obtain ⟨_, _, _, q⟩ := hs
    exact False.elim q
/-- over data: f tells the promise by the error's class, dict, address -/
def spDH (K : PySem.W.Frag) (f : Addr → Addr → Addr → DS) : SpH := fun c d a vs H Q E => ∃ C dd, c = .ref C ∧ d = some dd ∧ spD K (f C dd a) vs H Q E
section
variable {P : Program} {w0 : World} {K : PySem.W.Frag} {mg : Str → Option Value} {base : Heap}
theorem fn0H {x qual : Str} {st : Stmt} {f : Addr} {fd : FuncData} {N ps : List Str} {k : Nat} {ds : Addr → Addr → Addr → DS} (F : Fun K x qual st f fd) (Sc : FnScope N ps (defScope st)) (len : ∀ C dd a es S p e, ds C dd a es S p e → es.length = ps.length)
    (hbody : ∀ (cdv : Value) (A : Around) (outer : List PySem.Env) (s : Shared) (H : Hp) (E : XK) (a : Addr) (oe : Obj) (C dd : Addr), L2H.Hot1 (A.deeper (PyProof.Rows.envOfC qual (defScope st) s.heap.objs.size f cdv)) (a, oe) → L2N.Zn (.ref C) (some dd) oe → (∃ ws, oe.data = .fields ws) → L2H.RoomH k (A.deeper (PyProof.Rows.envOfC qual (defScope st) s.heap.objs.size f cdv)) →
      ∀ (w : Wd) (es : List Ent) (S : List Own) (p : KE) (e : KX), w.K = K → w.as0.length = S.length → ds C dd a es S p e → ∃ t, PSs (L2H.cxH CX0 P w0 K mg base N qual (defScope st) f cdv A outer s H E (a, oe)).nox (defBody st) t ∧ LS w t (startG N es) S { nx := fun _ S' => p (.d .non) S', rt := p }) :
    FnHZ P w0 K mg base CX0 (k + 1) f fd ps (spDH K ds) := by
  obtain ⟨oc, od, kV, doc, pm, an, cdv, ct, osl, rfl, lk, hcd⟩ := F.ex
  refine fn_ofHZ lk hcd Sc (fun c d a vs H Q E ⟨C, dd, _, _, R, as, S, es, p, e, h1, h2, h3, h4, h5⟩ => by rw [h1.len]; exact len _ _ _ es S p e h3) fun A outer s H vs Q E p c d hot hz hf hr h => ?_
  obtain ⟨a, oe⟩ := p
  obtain ⟨C, dd, rfl, rfl, R, as, S, es, p, e, h1, h2, h3, h4, h5⟩ := h
  obtain ⟨t, ht, hL⟩ := hbody cdv A outer s H E a oe C dd hot hz hf hr ⟨K, R, H, as⟩ es S p e rfl h2.len h3
  refine ⟨t, ht.nox, ?_⟩
  refine hL _ _ R H as h2 (sts_start h1) ⟨fun Γ' S' σ' R' H' as' u a b c => ?_, fun v x S' R' H' as' u a b c => h4 v x S' R' H' as' a b c, fun _ _ _ _ _ _ _ _ _ c => c.elim, fun _ _ _ _ _ _ _ _ _ c => c.elim⟩
  exact h4 .non (.d .non) S' R' H' as' a Den.non c
/-- a def of the program, as its callers have it in an except suite -/
structure DfH (P : Program) (w0 : World) (K : PySem.W.Frag) (mg : Str → Option Value) (base : Heap) (k : Nat) (x : Str) (n : Nat) (ds : Addr → Addr → Addr → DS) : Prop where
  ex : ∃ (f : Addr) (fd : FuncData) (ps : List Str), ps.length = n ∧ FnHZ P w0 K mg base CX0 k f fd ps (spDH K ds) ∧ mg x = some (.ref f) ∧ PySem.W.keepIn K (.ref f) = true ∧ Binds K fd ps []
end
def tCallZ (sp : Sp) (t : TA) : TE := fun σ H Q => t σ H fun vs H1 => sp vs H1 Q E0
theorem pe_dfH {X : Cx} {k n : Nat} {x : Str} {ds : Addr → Addr → Addr → DS} {p pos : Pos} {e : Expr} {es : List Expr} {t : TA} {a : Addr} {oe : Obj} {c : Value} {d : Option Addr} {pn : List (Addr × Obj)} (D : DfH X.prog X.w X.K X.mg X.base k x n ds) (hz : L2N.Zn c d oe) (hf : ∃ vs, oe.data = .fields vs) (hr : L2H.RoomH k (X.A.mark (some (.ref a)))) (ha : PA (X.suite a ((a, oe) :: pn)) (e :: es) t)
    (hg : Gl X x := by rfl) (hdb : (x == ("__debug__" : Str)) = false := by decide)
    (he : starEach (e :: es) X.env = (false, eval e X.env) :: starEach es X.env := by rfl) (hpl : (backTo pos (starEach es X.env)).any (·.1) = false := by rfl) :
    PE (X.suite a ((a, oe) :: pn)) (.Call (.Name x p) (e :: es) [] pos) (tCallZ (spDH X.K ds c d a) t) := by
  obtain ⟨f, fd, ps, _, F, hm, hk, hb⟩ := D.ex
  refine ⟨fun pins s σ H Q I h => ?_⟩
  refine wpAny_Call_Name_kw (ld_glob I hg hm ?_ hdb)
  refine PySem.W.callWith_K (h₀ := X.base) I.ok.mod.kin hk (thn (ha.run pos pins s σ H _ I h) fun us s1 ⟨vs, H1, I1, r, q⟩ => ⟨I1.kIn, ?_⟩) he hpl
  have hl : us.length = ps.length := by rw [← r.length]; exact F.len _ _ _ _ _ _ _ q
  have b := hb s1 us I1.kIn (by rw [List.append_nil]; exact hl)
  rw [List.append_nil] at b
  have P1 := I1.pin (a, oe) (List.mem_append_left _ List.mem_cons_self)
  have hpin : L2H.PinOk X.stack H1 s1 (a, oe) := ⟨P1.1, P1.2.1, fun hm => (List.mem_cons.mp (I1.stkSub a hm)).elim P1.2.2.1 P1.2.2.2.1, P1.2.2.2.2⟩
  have hot : L2H.Hot1 (X.A.mark (some (.ref a))) (a, oe) := by
    obtain ⟨vs, hv⟩ := hf
    exact ⟨rfl, vs, hv, hz.2.2 vs hv⟩
  refine wpAny_call (codeAny_mono (F.run _ X.stack s1 H1 ⟨us, []⟩ us vs Q E0 (a, oe) c d hr hot hz hf hpin I1.env0 b r q) fun r s' hq => ?_)
  cases r with
  | error e => exact hq.elim
  | ok fl =>
    cases fl with
    | ret u => exact I1.after hq
    | next => exact False.elim hq
    | brk => exact False.elim hq
    | cont => exact False.elim hq
section
variable {w : Wd} {Γ : Env} {S : List Own} {k : KE}
theorem le_callH {f : Addr → Addr → Addr → DS} {C dd a : Addr} {t : TA} (h : LA w t Γ S fun es S1 => RS w (f C dd a) E0 es S1 k) : LE w (tCallZ (spDH w.K f (.ref C) (some dd) a) t) Γ S k := fun σ R H as Q rl s c =>
  h σ R H as _ rl s fun vs es S1 R1 H1 as1 rl1 s1 p1 e1 h1 => ⟨C, dd, rfl, rfl, h1 R1 H1 as1 vs Q rl1 e1 fun v' e' S' R' H' as' a1 a2 a3 a4 a5 => c v' e' S' R' H' as' a1 (s1.trans a2) (p1.trans a3) a4 a5⟩
end
end Gm
set_option maxHeartbeats 2000000
/-! lists walked, tuples taken apart, while an exception is handled -/
namespace Gm
open PySem PySem.Spec PyProof.Rows L2 HotX
section
variable {prog : Program} {w : World} {A : Around} {E : Value → Shared → Prop} {s : Shared}
theorem ne_hot {h : Heap} {it x1 : Addr} {o o1 : Obj} {a b : Value} {vs1 : Array Value} (ho : h.get? it = some o) (hd : o.data = .fields #[a, b]) (h1 : h.get? x1 = some o1) (d1 : o1.data = .fields vs1) (c1 : vs1[2]? = some .none) : it ≠ x1 := by
  rintro rfl
  rw [ho] at h1
  cases h1
  rw [hd] at d1
  cases d1
  simp at c1
theorem next_list_end_hot {it l x1 : Addr} {i : Nat} {items : Array Value} {Q : Option Value → Shared → Prop} (hot : HotAt A x1 s.heap)
    (hit : s.heap.IsListIter it l i) (hl : s.heap.IsList l items) (hx : items[i]? = none)
    (hQ : ∀ h', Heap.ExtBut it s.heap h' → Q none { s with heap := h' }) : wpAny (model prog w) A (pyNext (.ref it)) Q E s := by
  obtain ⟨hh, o1, vs1, h1, d1, c1⟩ := hot
  obtain ⟨o, ho, hc, hd⟩ := id hit
  obtain ⟨ol, hol, _, nl, hdl⟩ := hl
  have hne := ne_hot ho hd h1 d1 c1
  unfold pyNext
  refine wpAny_bind (wpAny_attempt (wpAny_callSpecial?_slot (name := Str.ofString "__next__") hit.typeIs slot_listiter_next
    (wpAny_call_entry slot_listiter_next hit.typeIs entry_listiter_next ?_ (args_listiter_next _))))
  show wpAny _ _ (field (.ref it) 0 >>= _) _ _ s
  refine wpAny_bind (wpAny_field ho hd (x := .ref l) rfl ?_)
  show wpAny _ _ (if (Value.ref l == Value.none) = true then _ else _) _ _ s
  rw [if_neg (show ¬ ((Value.ref l == Value.none) = true) from Bool.false_ne_true)]
  show wpAny _ _ (field (.ref it) 1 >>= _) _ _ s
  refine wpAny_bind (wpAny_field ho hd (x := .int i 0) rfl ?_)
  show wpAny _ _ (seqItems? (.ref l) >>= _) _ _ s
  refine wpAny_bind (wpAny_seqItems hol hdl ?_)
  simp only [Int.toNat_natCast, hx]
  refine wpAny_bind (wpAny_rule (wpAny_bind (wpAny_setField ho hd (by simp) ?_)))
  have h1' : ∀ f : Obj → Obj, (s.heap.update it f).get? x1 = some o1 := fun f => by rw [Heap.get?_update_other _ _ hne]; exact h1
  show wpAny _ _ (newExc (.type "StopIteration") [] >>= _) _ _ _
  refine wpAny_bind ?_
  simp only [newExc, newTuple]
  refine wpAny_bind (wpAny_newObj_type ?_ (by size_fits))
  refine wpAny_bind (m := firstArgMember _ _) (wpAny_of_eq (a := Value.none) (by first | rfl | (simp only [firstArgMember]; rfl)) ?_)
  refine wpAny_newObj_type ?_ (by size_fits)
  refine raiseNew_hot ⟨hh, o1, vs1, Heap.get?_push_of_some _ (Heap.get?_push_of_some _ (h1' _)), d1, c1⟩ (Nat.ne_of_lt (Heap.lt_size (Heap.get?_push_of_some _ (h1' _)))) (Heap.get?_push_size _ rfl) rfl (by first | (simp; done) | (simp; omega) | (simp only [Array.size_append]; simp; omega)) ?_
  refine wpAny_bind (wpAny_isInstance (T := "StopIteration") (b := true) ⟨_, Heap.get?_update_self _ (Heap.get?_push_size _ rfl) rfl, rfl⟩ isSubtype_stop ?_)
  refine wpAny_pure (hQ _ fun b o hb e => ?_)
  have e' : ∀ f : Obj → Obj, (s.heap.update it f).get? b = some o := fun f => by rw [Heap.get?_update_other _ _ (Ne.symm hb)]; exact e
  rw [Heap.get?_update_other _ _ (Nat.ne_of_gt (Heap.lt_size (Heap.get?_push_of_some _ (e' _))))]
  exact Heap.get?_push_of_some _ (Heap.get?_push_of_some _ (e' _))
theorem next_tuple_end_hot {it t x1 : Addr} {i : Nat} {items : Array Value} {Q : Option Value → Shared → Prop} (hot : HotAt A x1 s.heap)
    (hit : IsTupIter s.heap it t i) (ht : IsTup s.heap t items) (hx : items[i]? = none)
    (hQ : ∀ h', Heap.ExtBut it s.heap h' → Q none { s with heap := h' }) : wpAny (model prog w) A (pyNext (.ref it)) Q E s := by
  obtain ⟨hh, o1, vs1, h1, d1, c1⟩ := hot
  obtain ⟨o, ho, hc, hd⟩ := id hit
  obtain ⟨ol, hol, _, nl, hdl⟩ := ht
  have hne := ne_hot ho hd h1 d1 c1
  unfold pyNext
  refine wpAny_bind (wpAny_attempt (wpAny_callSpecial?_slot (name := Str.ofString "__next__") hit.typeIs slot_tupleiter_next
    (wpAny_call_entry slot_tupleiter_next hit.typeIs entry_tupleiter_next ?_ (args_tupleiter_next _))))
  show wpAny _ _ (field (.ref it) 0 >>= _) _ _ s
  refine wpAny_bind (wpAny_field ho hd (x := .ref t) rfl ?_)
  show wpAny _ _ (if (Value.ref t == Value.none) = true then _ else _) _ _ s
  rw [if_neg (show ¬ ((Value.ref t == Value.none) = true) from Bool.false_ne_true)]
  show wpAny _ _ (field (.ref it) 1 >>= _) _ _ s
  refine wpAny_bind (wpAny_field ho hd (x := .int i 0) rfl ?_)
  show wpAny _ _ (seqItems? (.ref t) >>= _) _ _ s
  refine wpAny_bind (wpAny_seqItems hol hdl ?_)
  simp only [Int.toNat_natCast, hx]
  refine wpAny_bind (wpAny_rule (wpAny_bind (wpAny_setField ho hd (by simp) ?_)))
  have h1' : ∀ f : Obj → Obj, (s.heap.update it f).get? x1 = some o1 := fun f => by rw [Heap.get?_update_other _ _ hne]; exact h1
  show wpAny _ _ (newExc (.type "StopIteration") [] >>= _) _ _ _
  refine wpAny_bind ?_
  simp only [newExc, newTuple]
  refine wpAny_bind (wpAny_newObj_type ?_ (by size_fits))
  refine wpAny_bind (m := firstArgMember _ _) (wpAny_of_eq (a := Value.none) (by first | rfl | (simp only [firstArgMember]; rfl)) ?_)
  refine wpAny_newObj_type ?_ (by size_fits)
  refine raiseNew_hot ⟨hh, o1, vs1, Heap.get?_push_of_some _ (Heap.get?_push_of_some _ (h1' _)), d1, c1⟩ (Nat.ne_of_lt (Heap.lt_size (Heap.get?_push_of_some _ (h1' _)))) (Heap.get?_push_size _ rfl) rfl (by first | (simp; done) | (simp; omega) | (simp only [Array.size_append]; simp; omega)) ?_
  refine wpAny_bind (wpAny_isInstance (T := "StopIteration") (b := true) ⟨_, Heap.get?_update_self _ (Heap.get?_push_size _ rfl) rfl, rfl⟩ isSubtype_stop ?_)
  refine wpAny_pure (hQ _ fun b o hb e => ?_)
  have e' : ∀ f : Obj → Obj, (s.heap.update it f).get? b = some o := fun f => by rw [Heap.get?_update_other _ _ (Ne.symm hb)]; exact e
  rw [Heap.get?_update_other _ _ (Nat.ne_of_gt (Heap.lt_size (Heap.get?_push_of_some _ (e' _))))]
  exact Heap.get?_push_of_some _ (Heap.get?_push_of_some _ (e' _))
theorem HotAt.ext {h h' : Heap} {x1 : Addr} (hot : HotAt A x1 h) (k : ∀ o, h.get? x1 = some o → h'.get? x1 = some o) : HotAt A x1 h' := by
  obtain ⟨hh, o1, vs1, h1, d1, c1⟩ := hot
  exact ⟨hh, o1, vs1, k _ h1, d1, c1⟩
theorem unpackItems_hot {t x1 : Addr} {items : Array Value} {Q : List Value → Shared → Prop} (hot : HotAt A x1 s.heap) (ht : IsTup s.heap t items)
    (hQ : ∀ h', Heap.ExtBut s.heap.objs.size s.heap h' → Q items.toList { s with heap := h' }) : wpAny (model prog w) A (unpackItems (.ref t) items.size none) Q E s := by
  have hlt : t ≠ s.heap.objs.size := by obtain ⟨o, ho, _⟩ := ht; exact Nat.ne_of_lt (Heap.lt_size ho)
  have hx1 : x1 ≠ s.heap.objs.size := by obtain ⟨hh, o1, vs1, h1, d1, c1⟩ := hot; exact Nat.ne_of_lt (Heap.lt_size h1)
  unfold unpackItems
  refine wpAny_bind ?_
  · unfold notIterableAtAll
    refine wpAny_bind (wpAny_specialOf ht.typeIs slot_tuple_iter.lookup ?_)
    refine wpAny_pure ?_
    simp only [Bool.false_eq_true, if_false]
    refine wpAny_bind (wpAny_holding (iter_tuple ht ?_))
    refine wpAny_bind (wpAny_holding (draw_tuple hlt items.size 0 _ _ ⟨_, Heap.get?_push_size _ rfl, rfl, rfl⟩ (ht.push _) (by omega) fun h₁ hit₁ hs₁ => ?_))
    have hall : List.take items.size (List.drop 0 items.toList) = items.toList := by
      rw [List.drop_zero]; exact List.take_of_length_le (by simp)
    rw [hall]
    rw [if_neg (by simp)]
    have ht₁ : IsTup h₁ t items := (ht.push _).extBut hs₁.extBut hlt
    have hot₁ : HotAt A x1 h₁ := HotAt.ext hot fun o e => hs₁.extBut x1 o hx1 (Heap.get?_push_of_some _ e)
    refine wpAny_bind (wpAny_holding (next_tuple_end_hot hot₁ hit₁ ht₁ (by simp) fun h₂ he₂ => ?_))
    simp only [Option.isSome_none, Bool.false_eq_true, if_false]
    refine wpAny_pure (hQ h₂ fun b o hb e => he₂ b o hb (hs₁.extBut b o hb (Heap.get?_push_of_some _ e)))
theorem assign_Tuple_hot {env : PySem.Env} {elts : List Expr} {k : Nat} {pos : Pos} {t x1 : Addr} {items : Array Value} {Q : Unit → Shared → Prop} (hot : HotAt A x1 s.heap) (ht : IsTup s.heap t items)
    (hn : (assignEach elts env).length = items.size) (hstar : (assignEach elts env).findIdx? (·.1) = none)
    (h : ∀ h', Heap.ExtBut s.heap.objs.size s.heap h' → wpAny (model prog w) A (assignInOrder ((assignEach elts env).map (·.2)) items.toList) Q E { s with heap := h' }) :
    wpAny (model prog w) A (assign (.Tuple elts k pos) env (.ref t)) Q E s := by
  rw [assign_Tuple]
  refine wpAny_bind (wpAny_standAt ?_)
  unfold unpack
  rw [hn, hstar]
  exact wpAny_bind (wpAny_holding (unpackItems_hot hot ht h))
end
section
variable {X : Cx}
/-- (a, b, ..) = a tuple of that length -/
theorem pg_tupH {es : List Expr} {k : Nat} {t : TGs} {n : Nat} {pos : Pos} (hc : L2H.HotC X) (h : PGs X es t)
    (hn : (assignEach es X.env).length = n := by rfl) (hst : (assignEach es X.env).findIdx? (·.1) = none := by rfl) : PG X (.Tuple es k pos) (gTup X.K n t) := by
  refine ⟨fun pins s σ H v u Q I r hw => ?_⟩
  obtain ⟨a, xs, e1, hq, hl, hw⟩ := hw
  subst e1
  cases r
  obtain ⟨its, rv, ht, hz⟩ := I.tuple hq
  obtain ⟨x1, hot⟩ := hc.at I
  refine assign_Tuple_hot hot ht (by simp [hn, ← hl, rv.length]) hst fun h' hx => ?_
  have I1 : Inv X pins σ H { s with heap := h' } := I.kept (t' := s.toks) fun b o e => hx b o (Nat.ne_of_lt (Heap.lt_size e)) e
  exact h.run pins _ σ H xs _ Q I1 (by simpa using rv) hw
theorem turn_listH {P : Program} {w : World} {K : PySem.W.Frag} {tg : Expr} (a it : Addr) : L2H.TurnH P w K tg (Itl K a) [it] it (fun i h => h.IsListIter it a i) where
  mem := by simp
  obj := fun i h st b hb => by
    have e : b = it := by simpa using hb
    subst e
    obtain ⟨o, e, c, d⟩ := st
    exact ⟨o, e, fun v z => by rw [d] at z; cases z⟩
  keep := fun i h h' st k => st.at fun o e => k it (by simp) o e
  item := by
    intro X hP hw hK hc i pins s σ H E I hf st hg
    subst hP hw hK
    obtain ⟨xs, x, hq, hx⟩ := hg
    obtain ⟨its, rv, p, hz⟩ := I.list hq
    obtain ⟨u, hu, ru⟩ := rv.get hx
    obtain ⟨f0, f1, f2, f3, f4, f5⟩ := hf it (by simp)
    refine wpAny_pyNext_list_item st p.isList (x := u) (by simpa using hu) fun h' st' sb => ?_
    have I1 : Inv X pins σ H { s with heap := h' } := I.turned (t' := s.toks) (fun b o hb e => (sb.2 b hb).trans e) f0 f1 f3 f4 f5
    obtain ⟨o, e, c, d⟩ := id st'
    exact ⟨u, rfl, go_of (s := { s with heap := h' }) e c d (by decide) ⟨x, H, I1, ru, ⟨rfl, fun ys hy => by rw [I.list_inj hy hq]; exact hx⟩, st', fun b hb => (hf b hb).1⟩⟩
  done := by
    intro X hP hw hK hc i pins s σ H E I hf st hg
    subst hP hw hK
    obtain ⟨xs, hq, hx⟩ := hg
    obtain ⟨its, rv, p, hz⟩ := I.list hq
    obtain ⟨f0, f1, f2, f3, f4, f5⟩ := hf it (by simp)
    have hl := rv.length
    obtain ⟨x1, hot⟩ := hc.at I
    exact next_list_end_hot hot st p.isList (by simp; omega) fun h' eb => ⟨rfl, I.turned (t' := s.toks) (fun b o hb e => eb b o hb e) f0 f1 f3 f4 f5⟩
  self := fun _ _ _ _ _ st h => wpAny_pyIter_listiter st h
theorem pi_listH {tg l : Expr} {tl : TE} (hl : PE X l tl) : L2H.PIH X tg l (iList X.K tl) := by
  refine ⟨fun pins s σ H R I h => ?_⟩
  refine thn (hl.run pins s σ H _ I h) fun v s1 ⟨x, H1, I1, r1, q1⟩ => ?_
  obtain ⟨a, e, ⟨xs, hq⟩, q⟩ := q1
  subst e
  cases r1
  obtain ⟨its, rv, p, hz⟩ := I1.list hq
  refine wpAny_pyIter_list p.isList ?_
  refine ⟨s1.heap.objs.size, [s1.heap.objs.size], _, _, H1, rfl, I1.kept (t' := s1.toks) fun b o e => Heap.get?_push_of_some _ e, turn_listH a _, ⟨_, Heap.get?_push_size _ rfl, rfl, rfl⟩, fun b hb => ?_, q⟩
  have e : b = s1.heap.objs.size := by simpa using hb
  subst e
  exact I1.fpOk (Nat.le_refl _) (I1.hok.fresh (Nat.le_refl _))
/-! ### comprehensions -/
/-- a block's context, with the handled error among the pins -/
abbrev blkH (X : Cx) (s : Shared) (H : Hp) (scope : Scope) (cenv : PySem.Env) (fp : List Addr) (p : Addr × Obj) : Cx := (X.blk s H scope cenv fp).tr [p] fun _ _ => False
theorem lc_coreH {pins : List (Addr × Obj)} {s : Shared} {σ : L2.St} {H : Hp} {Q : VK} {elt tg iter : Expr} {ifs : List Expr} {scope : Scope} {own : List (Str × Nat)} {pos pos' : Pos} {wi : TI} {g : TG} {tt : TT} {te : TE} {use : Option (Value → Sem Unit)} {Qf : Value → Shared → Prop}
    {p : Addr × Obj} (hot : L2H.Hot1 X.A p) (hp : p ∈ X.pn) (hN : X.N.Nodup) (I : Inv X pins σ H s) (hi : L2H.PIH X tg iter wi) (ok : BlkOk X.N X.env.scope scope own)
    (hg : ∀ (s : Shared) (H : Hp) (C : Addr) (cl : List (Str × Addr)) (fp : List Addr), PG (blkH X s H scope (compEnvC scope cl C X.env) fp p) tg g) (ht : ∀ (s : Shared) (H : Hp) (C : Addr) (cl : List (Str × Addr)) (fp : List Addr), PTs (blkH X s H scope (compEnvC scope cl C X.env) fp p) ifs tt)
    (he : ∀ (s : Shared) (H : Hp) (C : Addr) (cl : List (Str × Addr)) (fp : List Addr), PE (blkH X s H scope (compEnvC scope cl C X.env) fp p) elt te) (hs : ∀ x, foldedSetIterable iter X.env x = pure x)
    (h : tLc wi g tt te (own.map (·.2)) σ H Q)
    (hRR : ∀ D C s' m H', Inv X pins σ H' s' → Q (.ref D) H' → s'.heap.Ns C m → FpOk X pins H' C → compPost (model X.prog X.w) X.A X.xe use Qf (.ref D) C (.ok .next) s') :
    wpAny (model X.prog X.w) X.A (comprehension (.ListComp elt [⟨tg, iter, ifs, 0⟩] scope pos) scope X.env pos' (newList []) false (eval iter X.env) use) Qf X.xe s := by
  have hfree : ∀ y ∈ scope.names, y.2 = .free → ∃ c, X.env.cells.lookup y.1 = some c := fun y hy e => by
    rcases ok.free y hy e with k | k
    · exact I.ok.has _ (.inl k)
    · exact I.ok.has _ (.inr k)
  refine wpAny_comprehension_free (use := use) rfl hs (closure_ok hfree) ok.kind (fun y hy e => by rw [ok.uniq y hy, e])
    (thn (hi.run pins s σ H _ I h) fun xv s1 hx => thn hx fun itv s2 h2 => ?_)
  obtain ⟨it, fp, tn, J, H2, e, I2, T, st2, f2, q⟩ := h2
  subst e
  refine wpAny_newObj_type (newEnv_comp ?_) (by show 0 ≤ sizeLine; decide)
  generalize hD : s2.heap.objs.size = D
  have hDn : H2 D = none := I2.hok.fresh (Nat.le_of_eq hD)
  obtain ⟨W, ⟨m0, w0⟩, turn⟩ := q D hDn
  generalize hs3 : ({ s2 with heap := s2.heap.push { cls := .type "list", data := .seq ([] : List Value).toArray } } : Shared) = s3
  have I3 : Inv X pins σ (upd H2 D (.lst [])) s3 := by
    rw [← hs3]
    refine I2.laid (t' := s2.toks) (fun b o e => Heap.get?_push_of_some _ e) (Nat.le_of_eq hD) ⟨Nat.zero_le _, [], 0, .nil, ?_⟩
    rw [← hD]
    exact Heap.get?_push_size _ rfl
  have h3 : s3.heap = s2.heap.push { cls := .type "list", data := .seq ([] : List Value).toArray } := by rw [← hs3]
  have sz : ∀ b ∈ fp, b < s2.heap.objs.size := fun b hb => by
    obtain ⟨o, e, _⟩ := T.obj _ _ st2 b hb
    exact Heap.lt_size e
  have f3 : ∀ b ∈ fp, FpOk X pins (upd H2 D (.lst [])) b ∧ b < s3.heap.objs.size := fun b hb => by
    have hlt := sz b hb
    refine ⟨⟨?_, (f2 b hb).2⟩, by rw [h3, Heap.size_push]; exact Nat.lt_succ_of_lt hlt⟩
    rw [upd_ne (by rw [← hD]; exact Nat.ne_of_lt hlt)]
    exact (f2 b hb).1
  have st3 : tn 0 s3.heap := T.keep _ _ _ st2 fun b _ o e => by rw [h3]; exact Heap.get?_push_of_some _ e
  have I4' := block_start I3 ok hN f3
  have P3 := I3.pin p (List.mem_append_left _ hp)
  have I4 : Inv (blkH X s3 (upd H2 D (.lst [])) scope (compEnvC scope (cellsFrom (s3.heap.objs.size + 1) scope.names (cloFrom X.env.cells scope.names [])) s3.heap.objs.size X.env) fp p) [] (wipe σ (own.map (·.2))) (upd H2 D (.lst [])) { s3 with heap := pushCells (s3.heap.push { cls := .type "dict", data := .dict #[] }) scope.names } := by
    refine ⟨I4'.ok.toTry _ _, I4'.os, I4'.bare, I4'.base, I4'.loc, I4'.cell, I4'.free, I4'.freeC, fun q hq => ?_, I4'.hok, I4'.len⟩
    have eq : q = p := by simpa using (show q ∈ [p] ++ ([] : List (Addr × Obj)) from hq)
    subst eq
    refine ⟨pushCells_keeps _ _ _ _ (Heap.get?_push_of_some _ P3.1), P3.2.1, ?_, fun hm => ?_, P3.2.2.2.2⟩
    · show q.1 ≠ s3.heap.objs.size
      exact Nat.ne_of_lt (Heap.lt_size P3.1)
    · exact (List.mem_cons.mp (I3.stkSub q.1 hm)).elim P3.2.2.1 P3.2.2.2.1
  have hc : ∀ (ce : PySem.Env), L2H.HotC (blkH X s3 (upd H2 D (.lst [])) scope ce fp p) := fun ce => ⟨p, hot, List.mem_singleton.mpr rfl⟩
  have pg := hg s3 (upd H2 D (.lst [])) s3.heap.objs.size (cellsFrom (s3.heap.objs.size + 1) scope.names (cloFrom X.env.cells scope.names [])) fp
  have pt := ht s3 (upd H2 D (.lst [])) s3.heap.objs.size (cellsFrom (s3.heap.objs.size + 1) scope.names (cloFrom X.env.cells scope.names [])) fp
  have pe := he s3 (upd H2 D (.lst [])) s3.heap.objs.size (cellsFrom (s3.heap.objs.size + 1) scope.names (cloFrom X.env.cells scope.names [])) fp
  show codeAny _ _ (.compStart (.ListComp elt [⟨tg, iter, ifs, 0⟩] scope pos) 0 (.ref it) (.ref D) (compEnvC scope (cellsFrom (s3.heap.objs.size + 1) scope.names (cloFrom X.env.cells scope.names [])) s3.heap.objs.size X.env)) (compPost (model X.prog X.w) X.A X.xe use Qf (.ref D) s3.heap.objs.size) { s3 with heap := pushCells (s3.heap.push { cls := .type "dict", data := .dict #[] }) scope.names }
  have nfp : ∀ b ∈ fp, (upd H2 D (.lst [])) b = none := fun b hb => (f3 b hb).1.1
  generalize hce : compEnvC scope (cellsFrom (s3.heap.objs.size + 1) scope.names (cloFrom X.env.cells scope.names [])) s3.heap.objs.size X.env = ce at I4 pg pt pe ⊢
  have cL : ce.locals = s3.heap.objs.size := by subst hce; rfl
  have hcc := hc ce
  generalize hH3 : upd H2 D (.lst []) = H3 at I3 I4 pg pt pe w0 nfp f3 hcc
  generalize hs4 : ({ s3 with heap := pushCells (s3.heap.push { cls := .type "dict", data := .dict #[] }) scope.names } : Shared) = s4 at I4 ⊢
  have st4 : tn 0 s4.heap := T.keep _ _ _ st3 fun b _ o e => by rw [← hs4]; exact pushCells_keeps _ _ _ _ (Heap.get?_push_of_some _ e)
  have pfp : ∀ b ∈ fp, p.1 ≠ b := fun b hb => (f3 b hb).1.2.2.2.2.2 p (List.mem_append_left _ hp)
  have stat : ∀ {σ' : L2.St} {H' : Hp} {s' : Shared}, Inv (blkH X s3 H3 scope ce fp p) [] σ' H' s' → (∀ b ∈ fp, H' b = none) → ∀ b ∈ fp, FpOk (blkH X s3 H3 scope ce fp p) [] H' b := fun {σ' H' s'} I' hn b hb =>
    ⟨hn b hb, (I'.ok.exf b hb).1, I'.ok.exfs b hb, .inl hb, fun x c e => (I'.ok.exf b hb).2 x c e, fun q hq => by
      have eq : q = p := by simpa using (show q ∈ [p] ++ ([] : List (Addr × Obj)) from hq)
      subst eq; exact pfp b hb⟩
  have loop : codeAny (model X.prog X.w) X.A (.compLoop (.ListComp elt [⟨tg, iter, ifs, 0⟩] scope pos) 0 (.ref it) (.ref D) ce) (compPost (model X.prog X.w) X.A X.xe use Qf (.ref D) s3.heap.objs.size) s4 := by
    refine compLoop_any (fun n s' => ∃ i H', Inv (blkH X s3 H3 scope ce fp p) [] (wipe σ (own.map (·.2))) H' s' ∧ tn i s'.heap ∧ (∀ b ∈ fp, H' b = none) ∧ W i n H') ?_ m0 ⟨0, H3, I4, st4, nfp, w0⟩
    rintro n s5 ⟨i, H5, I5, st5, n5, w5⟩
    rcases turn i n H5 w5 with ⟨stop, qq⟩ | ⟨go, Nx, hNx, step⟩
    · have td := T.done (blkH X s3 H3 scope ce fp p) rfl rfl rfl hcc i [] s5 _ H5 (fun _ _ => False) I5 (stat I5 n5) st5 stop
      refine thnF td fun r s6 ⟨hr, I6⟩ => ?_
      subst hr
      have I7 : Inv X pins σ H5 s6 := I3.call' (ch := fp) I6.os I6.base I6.hok I6.bare fun b hb => ⟨(f3 b hb).1.2.2.2.1, (f3 b hb).1.2.1, (f3 b hb).1.2.2.2.2.1, (f3 b hb).1.2.2.2.2.2⟩
      have nC : H5 s3.heap.objs.size = none := by
        have z : H5 ce.locals = none := I6.free
        rw [cL] at z
        exact z
      obtain ⟨m, hn, _⟩ := I6.loc
      have hn : s6.heap.Ns ce.locals m := hn
      rw [cL] at hn
      exact hRR D s3.heap.objs.size s6 m H5 I7 qq hn (I3.fpOk (Nat.le_refl _) nC)
    · have ti := T.item (blkH X s3 H3 scope ce fp p) rfl rfl rfl hcc i [] s5 _ H5 (fun _ _ => False) I5 (stat I5 n5) st5 go
      refine thnF ti fun r s6 ⟨u, hr, h6⟩ => ?_
      subst hr
      refine thnF h6 fun _ s7 ⟨x, H7, I7, r7, y7, st7, n7⟩ => ?_
      have I7' := I7.pinned (stat I7 n7) (T.obj _ _ st7)
      refine thnF (pg.run _ s7 _ H7 x u _ I7' r7 (step x H7 y7)) fun _ s8 ⟨σ8, H8, I8, hw8, q8⟩ => ?_
      refine thnF (pt.run _ s8 σ8 H8 _ I8 q8) fun b s9 ⟨H9, I9, q9⟩ => ?_
      have fin : ∀ {s' : Shared} {H' : Hp}, Inv (blkH X s3 H3 scope ce fp p) ([] ++ pinsAt fp s7.heap) σ8 H' s' → Nx H' → ∃ m, m < n ∧ ∃ i H', Inv (blkH X s3 H3 scope ce fp p) [] (wipe σ (own.map (·.2))) H' s' ∧ tn i s'.heap ∧ (∀ b ∈ fp, H' b = none) ∧ W i m H' := fun {s' H'} I' nx => by
        obtain ⟨m', hm, w'⟩ := hNx H' nx
        have pin' : ∀ b ∈ fp, ∀ o, s7.heap.get? b = some o → s'.heap.get? b = some o ∧ H' b = none := fun b hb o e =>
          let z := I'.pin (b, o) (List.mem_append_right _ (List.mem_append_right _ (mem_pinsAt hb e)))
          ⟨z.1, z.2.1⟩
        have hl : (wipe σ (own.map (·.2))).length = σ8.length := by rw [← hw8, wipe_length]
        refine ⟨m', hm, i + 1, H', (I'.unpinned (pins := [])).weak hl (fun j v e => ?_), T.keep _ _ _ st7 fun b hb o e => (pin' b hb o e).1, fun b hb => ?_, w'⟩
        · rw [← hw8] at e
          exact (wipe_some e).1
        · obtain ⟨o, e, _⟩ := T.obj _ _ st7 b hb
          exact (pin' b hb o e).2
      cases b with
      | false =>
        simp only [Bool.false_eq_true, if_false] at q9 ⊢
        exact fin I9 q9
      | true =>
        simp only [if_true] at q9 ⊢
        refine thnF (pe.run _ s9 σ8 H9 _ I9 q9) fun z s10 ⟨yv, H10, I10, r10, acc, hD10, hz10, nx⟩ => ?_
        exact app_ok (X := blkH X s3 H3 scope ce fp p) I10 hD10 hz10 r10 fun s11 I11 => fin I11 nx
  exact codeAny_compStart_list loop (T.self X.A 0 _ _ _ st4 loop)
/-- as a value -/
theorem pe_lcH {elt tg iter : Expr} {ifs : List Expr} {scope : Scope} {own : List (Str × Nat)} {pos : Pos} {wi : TI} {g : TG} {tt : TT} {te : TE} {p : Addr × Obj} (hot : L2H.Hot1 X.A p) (hp : p ∈ X.pn) (hN : X.N.Nodup) (hi : L2H.PIH X tg iter wi) (ok : BlkOk X.N X.env.scope scope own)
    (hg : ∀ (s : Shared) (H : Hp) (C : Addr) (cl : List (Str × Addr)) (fp : List Addr), PG (blkH X s H scope (compEnvC scope cl C X.env) fp p) tg g) (ht : ∀ (s : Shared) (H : Hp) (C : Addr) (cl : List (Str × Addr)) (fp : List Addr), PTs (blkH X s H scope (compEnvC scope cl C X.env) fp p) ifs tt)
    (he : ∀ (s : Shared) (H : Hp) (C : Addr) (cl : List (Str × Addr)) (fp : List Addr), PE (blkH X s H scope (compEnvC scope cl C X.env) fp p) elt te) (hs : ∀ x, foldedSetIterable iter X.env x = pure x := by intro _; rfl) :
    PE X (.ListComp elt [⟨tg, iter, ifs, 0⟩] scope pos) (tLc wi g tt te (own.map (·.2))) := by
  refine ⟨fun pins s σ H Q I h => ?_⟩
  rw [eval_ListComp]
  refine lc_coreH hot hp hN I hi ok hg ht he hs h fun D C s' m H' I' q hn f => ⟨m, hn, fun h'' sb => ?_⟩
  obtain ⟨f0, f1, f2, f3, f4, f5⟩ := f
  exact ⟨.ref D, H', I'.turned (t' := s'.toks) (fun b o hb e => (sb.2 b hb).trans e) f0 f1 f3 f4 f5, rfl, q⟩
end
end Gm
set_option maxHeartbeats 2000000
/-! asking the caught error in a def that it was handed to -/
namespace Gm
open PySem PySem.Spec PyProof.Rows L2 HotX
theorem inst_ofH {X : Cx} {a C dd : Addr} {oe : Obj} {pins : List (Addr × Obj)} {σ : L2.St} {H : Hp} {s : Shared} {fs : List (Str × V)} (hp : (a, oe) ∈ X.pn) (I : Inv X pins σ H s) (hz : Zc (.ref C) (some dd) oe) (hf : ∃ vs, oe.data = .fields vs) (hd : H dd = some (.xd fs)) :
    ∃ (od : Obj) (mA : Str → Option Value), PySem.W.InstAt s.heap a oe C (some od) ∧ (∀ nm, PySem.W.lookIn nm od = some (mA nm)) ∧ ∀ f, RelO (fs.lookup f) (mA f) := by
  obtain ⟨g, _⟩ := I.pin (a, oe) (List.mem_append_left _ hp)
  obtain ⟨vs, hv⟩ := hf
  obtain ⟨mA, hns, hr⟩ := (show ObjOk X.prog X.w H s.heap dd (.xd fs) from I.hok dd _ hd)
  obtain ⟨od, ho, hl⟩ := lookIn_ns hns
  exact ⟨od, mA, ⟨g, hz.1, by unfold PySem.W.notCls; rw [hv] <;> rfl, by rw [hz.2]; exact ho⟩, hl, hr⟩
theorem call_isXH {X : Cx} {a : Addr} {oe : Obj} {cls : Value} {d : Option Addr} (hp : (a, oe) ∈ X.pn) (hz : Zc cls d oe) (hf : ∃ vs, oe.data = .fields vs) : CallR X (.builtin "isinstance") (rIsX X.K a cls d) := by
  intro pins s σ H xs us Q I r h
  obtain ⟨C, dd, fs, b, rfl, rfl, hd, hC, hk, q⟩ := h
  obtain ⟨od, mA, J, _, _⟩ := inst_ofH hp I hz hf hd
  have hcl : (PySem.W.clsIn X.K C).isSome = true := by
    obtain ⟨cd, hc, _⟩ := PySem.W.any_some hC.hd
    rw [hc]; rfl
  have Z := PySem.W.kitx_exc (x := a) (ox := oe) (od := some od) hcl hC.hg hC.hk hC.hs hC.ha hC.hn hC.ht hC.hm
  rcases hk with ⟨c, cv, rfl, hc, e⟩ | ⟨tp, cs, ws, rfl, hT, hc, e⟩
  · obtain ⟨u1, u2, rfl, r1, r2⟩ := vals2 r
    cases (show u1 = Value.ref a from r1)
    have e2 := hc.eq r2
    subst e2
    exact PySem.W.kia_one Z I.kIn J e (fun z => nomatch z) fun tk => ⟨.bl b, H, I.kept (t' := tk) fun _ _ z => z, rfl, q⟩
  · obtain ⟨u1, u2, rfl, r1, r2⟩ := vals2 r
    cases (show u1 = Value.ref a from r1)
    cases (show u2 = Value.ref tp from r2)
    obtain ⟨_, its, rv, o, h1, h2, n, h3⟩ := (show ObjOk X.prog X.w H s.heap tp (.tup cs) from I.hok tp _ hT)
    have e3 := ClsV.all hc rv
    subst e3
    obtain ⟨oc, od, dt, sl⟩ := o
    simp only at h2 h3
    subst h2 h3
    exact PySem.W.kia_tup Z I.kIn J h1 e (fun z => nomatch z) fun tk => ⟨.bl b, H, I.kept (t' := tk) fun _ _ z => z, rfl, q⟩
theorem b_isXH {X : Cx} {a : Addr} {oe : Obj} {cls : Value} {d : Option Addr} {e1 e2 : Expr} {te1 te2 : TE} {p pos : Pos} (K : PySem.W.Frag) (hp : (a, oe) ∈ X.pn) (hz : Zc cls d oe) (hf : ∃ vs, oe.data = .fields vs) (hm : X.mg "isinstance" = none) (h1 : PE X e1 te1) (h2 : PE X e2 te2)
    (hg : Gl X "isinstance" := by rfl) (hs : starEach [e1, e2] X.env = (false, eval e1 X.env) :: starEach [e2] X.env := by rfl) (hs2 : starEach [e2] X.env = (false, eval e2 X.env) :: starEach [] X.env := by rfl) (hpl : (backTo pos (starEach [e2] X.env)).any (·.1) = false := by rfl) (hK : X.K = K := by rfl) :
    PE X (.Call (.Name "isinstance" p) [e1, e2] [] pos) (tCB (rIsX K a cls d) (tCons te1 (tCons te2 tNil))) := by
  subst hK
  exact pe_callB (call_isXH hp hz hf) hg hm (by decide +kernel) (pa_cons h1 (pa_cons h2 pa_nil hs2) hs) (he := hs) (hpl := hpl)
theorem pe_xvH {X : Cx} {a : Addr} {oe : Obj} {cls : Value} {d : Option Addr} {e : Expr} {te : TE} {pos : Pos} {n : Str} (K : PySem.W.Frag) (hp : (a, oe) ∈ X.pn) (hz : Zc cls d oe) (hf : ∃ vs, oe.data = .fields vs) (he : PE X e te)
    (hb : attributeBase e n X.env (eval e X.env) = eval e X.env := by rfl) (hK : X.K = K := by rfl) : PE X (.Attribute e n pos) (tXv K a cls d n te) := by
  subst hK
  refine ⟨fun pins s σ H Q I h => attr_of hb (thn (he.run pins s σ H _ I h) fun u s1 hh => ?_)⟩
  obtain ⟨x, H1, I1, rx, rfl, C, dd, fs, v, rfl, T, hno, rfl, ea, l, q⟩ := hh
  cases (show u = Value.ref a from rx)
  obtain ⟨od, mA, J, hl, hr⟩ := inst_ofH hp I1 hz hf ea
  obtain ⟨z, hu, ru⟩ := RelO.some_of (v := v) (o := mA n) (by rw [← l]; exact hr n)
  exact HandSPX.exc_get I1.kIn J T.ga T.gg T.exC (PySem.W.findObj_own T.hdC hno rfl (by rw [hl, hu])) (handed_of ru) ⟨v, H1, I1.tok _, ru, q⟩
/-- name = [..] on one line, the name a local -/
theorem ps_setLcH {X : Cx} {i : Nat} {y : Str} {py : Pos} {elt tg iter : Expr} {ifs : List Expr} {scope : Scope} {own : List (Str × Nat)} {pos spos : Pos} {wi : TI} {g : TG} {tt : TT} {te : TE} {p : Addr × Obj} (hot : L2H.Hot1 X.A p) (hp : p ∈ X.pn) (hN : X.N.Nodup) (hy : X.N[i]? = some y) (hyl : X.env.scope.names.lookup y = some .local)
    (hsw : swapsWith (.ListComp elt [⟨tg, iter, ifs, 0⟩] scope pos) (some (.Name y py)) spos.line X.env = pure true) (hi : L2H.PIH X tg iter wi) (ok : BlkOk X.N X.env.scope scope own)
    (hg : ∀ (s : Shared) (H : Hp) (C : Addr) (cl : List (Str × Addr)) (fp : List Addr), PG (blkH X s H scope (compEnvC scope cl C X.env) fp p) tg g) (ht : ∀ (s : Shared) (H : Hp) (C : Addr) (cl : List (Str × Addr)) (fp : List Addr), PTs (blkH X s H scope (compEnvC scope cl C X.env) fp p) ifs tt)
    (he : ∀ (s : Shared) (H : Hp) (C : Addr) (cl : List (Str × Addr)) (fp : List Addr), PE (blkH X s H scope (compEnvC scope cl C X.env) fp p) elt te) (hs : ∀ x, foldedSetIterable iter X.env x = pure x := by intro _; rfl) :
    PS X (.Assign [.Name y py] (.ListComp elt [⟨tg, iter, ifs, 0⟩] scope pos) spos) (tAsg (tLc wi g tt te (own.map (·.2))) (gName i)) := by
  refine ⟨fun pins s σ H D I h => ?_⟩
  rw [exec_Assign_Name_used _ _ _ _ hsw]
  refine wpAny_bind (wpAny_standAt (wpAny_bind ?_))
  show wpAny _ X.A (do let _ ← comprehension (.ListComp elt [⟨tg, iter, ifs, 0⟩] scope pos) scope X.env (firstIterPos [⟨tg, iter, ifs, 0⟩] pos) (newList []) false (eval iter X.env) (some (assign (.Name y py) X.env))) _ _ s
  have h : tLc wi g tt te (own.map (·.2)) σ H (fun x H1 => gName i x σ H1 D.nx) := h
  refine wpAny_bind (thn (lc_coreH (Qf := fun _ s' => SP X pins D .next s') hot hp hN I hi ok hg ht he hs h fun L C s' m H' I' q hn f => ?_) fun _ s' hq => wpAny_pure (wpAny_pure hq))
  show wpAny _ _ (assign (.Name y py) X.env (.ref L)) _ _ _
  refine wpAny_assign_Name (store_ok2 (v := V.ref L) I' hN hy (.inl hyl) rfl (fun s2 I2 ⟨a, sb, ha⟩ => ?_) (.inr hyl))
  obtain ⟨f0, f1, f2, f3, f4, f5⟩ := f
  have haC : C ≠ a := by
    rcases ha with z | z
    · rw [z]; exact f1
    · exact fun e => f4 y a z e.symm
  refine ⟨m, hn.sameBut sb haC, fun h3 sb3 => ?_⟩
  exact ⟨_, H', I2.turned (t' := s2.toks) (fun b o hb e => (sb3.2 b hb).trans e) f0 f1 f3 f4 f5, q⟩
end Gm
/-! texts: str of an int, two texts together, f-strings, join -/
namespace Gm
open PySem PySem.Spec L2
section
variable {X : Cx} {e : Expr} {te to : TE} {p pos : Pos}
def gStrI : List V → Hp → VK → Prop := fun xs H Q => ∃ i, xs = [.int i] ∧ i.natAbs.log2 < 1920 ∧ Q (.str (toString i)) H
theorem b_strI (hm : X.mg "str" = none) (he : PE X e te) (hg : Gl X "str" := by rfl) (hs : starEach [e] X.env = (false, eval e X.env) :: starEach [] X.env := by rfl) : PE X (.Call (.Name "str" p) [e] [] pos) (tCB gStrI (tCons te tNil)) :=
  pe_callTy call_str_int hg hm (by decide +kernel) (pa_cons he pa_nil hs) (he := hs)
def gAddS : V → V → Hp → VK → Prop := fun x y H Q => ∃ i j, x = .str i ∧ y = .str j ∧ i.length + j.length ≤ sizeLine ∧ Q (.str (i ++ j)) H
theorem op_addS : OpR X (binaryOp .Add) gAddS := op_add_str
def tFs (ts : List TE) : TE := fun σ H Q => tJs ts Str.empty σ H fun out H1 => Q (.str out) H1
theorem pe_fs {v1 v2 : Expr} {rest : List Expr} {ts : List TE} (h : PJ X (v1 :: v2 :: rest) ts) : PE X (.JoinedStr (v1 :: v2 :: rest) pos) (tFs ts) := pe_joined h
def gJoin (K : PySem.W.Frag) : V → List V → Hp → VK → Prop := fun x xs H Q => ∃ a p, ∃ ys : List Str, x = .str a ∧ xs = [.ref p] ∧ (SqL K H p (ys.map V.str) ∨ SqT K H p (ys.map V.str)) ∧
    (ys.map (·.length)).sum + ys.length * a.length ≤ 16777216 ∧ Q (.str (Txt.join a ys)) H
theorem pe_joinS {o : Expr} {apos : Pos} (K : PySem.W.Frag) (ho : PE X o to) (he : PE X e te) (hs : starEach [e] X.env = [(false, eval e X.env)] := by rfl) (hbase : attributeBase o "join" X.env (eval o X.env) = eval o X.env := by rfl) (hline : (apos.endLine == pos.line) = true := by rfl) (hK : X.K = K := by rfl) :
    PE X (.Call (.Attribute o "join" apos) [e] [] pos) (tM1 (gJoin K) to te) := by subst hK; exact pe_join ho he hs hbase hline
end
section
variable {w : Wd} {Γ : Env} {S : List Own} {k : KE} {t te to : TE} {ts : List TE}
theorem rc_strI {i : Int} (hi : i.natAbs < 2 ^ 1000) (q : k (.d (.str (toString i))) S) : RC w gStrI [.d (.int i)] S k := fun R H as us Q rl hu c => by
  obtain ⟨v, rfl, hv⟩ := one_ent hu
  cases hv
  refine ⟨i, rfl, ?_, c _ _ S R H as rl (Sub.refl _) (Pre.refl _) (ok_d (Den.str _)) q⟩
  by_cases h0 : i.natAbs = 0
  · rw [h0]; decide
  · exact Nat.lt_trans ((Nat.log2_lt h0).mpr hi) (by decide)
theorem rr_addT {a b : Str} (hl : a.length + b.length ≤ sizeLine) (q : k (.d (.str (a ++ b))) S) : RR w gAddS (.d (.str a)) (.d (.str b)) S k := fun R H as u v Q rl hu hv c => by
  cases hu; cases hv
  exact ⟨a, b, rfl, rfl, hl, c _ _ S R H as rl (Sub.refl _) (Pre.refl _) (ok_d (Den.str _)) q⟩
def LJ (w : Wd) (ts : List TE) (acc : Str) (Γ : Env) (S : List Own) (k : Str → List Own → Prop) : Prop :=
  ∀ (σ : St) (R H : Hp) (as : List Addr) (Q : Str → Hp → Prop), Rel w R H as S → Sts w.K R as σ Γ →
    (∀ out S' R' H' as', Rel w R' H' as' S' → Sub R R' → Pre as as' → k out S' → Q out H') → tJs ts acc σ H Q
theorem lj_nil {acc : Str} {k : Str → List Own → Prop} (q : k acc S) : LJ w [] acc Γ S k := fun σ R H as Q rl s c => c _ S R H as rl (Sub.refl _) (Pre.refl _) q
theorem lj_cons {acc : Str} {k : Str → List Own → Prop} (h : LE w t Γ S fun e S1 => ∃ y : Str, e = .d (.str y) ∧ (acc ++ y).length ≤ sizeLine ∧ LJ w ts (acc ++ y) Γ S1 k) : LJ w (t :: ts) acc Γ S k := fun σ R H as Q rl s c => by
  refine h σ R H as _ rl s fun v e S1 R1 H1 as1 rl1 s1 p1 e1 ⟨y, h1, hl, h2⟩ => ?_
  subst h1
  cases e1
  exact ⟨y, rfl, hl, h2 σ R1 H1 as1 _ rl1 (s.mono s1 p1) fun out S2 R2 H2 as2 rl2 s2 p2 q => c out S2 R2 H2 as2 rl2 (s1.trans s2) (p1.trans p2) q⟩
theorem le_fs (h : LJ w ts Str.empty Γ S fun out S1 => k (.d (.str out)) S1) : LE w (tFs ts) Γ S k := fun σ R H as Q rl s c =>
  h σ R H as _ rl s fun out S1 R1 H1 as1 rl1 s1 p1 q => c _ _ S1 R1 H1 as1 rl1 s1 p1 (ok_d (Den.str _)) q
theorem le_fmtI (h : LE w te Γ S fun e S1 => ∃ i : Int, e = .d (.int i) ∧ i.natAbs < 2 ^ 1000 ∧ k (.d (.str (toString i))) S1) : LE w (tFmt te) Γ S k := fun σ R H as Q rl s c => by
  refine h σ R H as _ rl s fun v e S1 R1 H1 as1 rl1 s1 p1 e1 ⟨i, h1, hi, q⟩ => ?_
  subst h1
  cases e1
  refine .inr ⟨i, rfl, ?_, c _ _ S1 R1 H1 as1 rl1 s1 p1 (ok_d (Den.str _)) q⟩
  by_cases h0 : i.natAbs = 0
  · rw [h0]; decide
  · exact Nat.lt_trans ((Nat.log2_lt h0).mpr hi) (by decide)
theorem le_join (h : LE w to Γ S fun x S1 => ∃ a : Str, x = .d (.str a) ∧ LE w te Γ S1 fun y S2 => ∃ ys : List Str, IsLst y S2 (ys.map D.str) ∧ (ys.map (·.length)).sum + ys.length * a.length ≤ 16777216 ∧ k (.d (.str (Txt.join a ys))) S2) : LE w (tM1 (gJoin w.K) to te) Γ S k := fun σ R H as Q rl s c => by
  refine h σ R H as _ rl s fun v x S1 R1 H1 as1 rl1 s1 p1 e1 ⟨a, h1, h2⟩ => ?_
  subst h1
  cases e1
  refine ⟨⟨a, rfl⟩, h2 σ R1 H1 as1 _ rl1 (s.mono s1 p1) fun u y S2 R2 H2 as2 rl2 s2 p2 e2 ⟨ys, hy, hl, q⟩ => ?_⟩
  obtain ⟨b, ws, rfl, q4, q5⟩ := isLst_at hy rl2 e2
  have := Dens.strs q5
  subst this
  exact ⟨a, b, ys, rfl, rfl, .inl (SqL.of q4), hl, c _ _ S2 R2 H2 as2 rl2 (s1.trans s2) (p1.trans p2) (ok_d (Den.str _)) q⟩
end
theorem strI_len {i : Int} (hi : i.natAbs < 2 ^ 200) : (Str.ofString (toString i)).length ≤ 201 := by
  have e := int_text_length_le (a := i) (k := 200) (by decide) (by
    by_cases h0 : i.natAbs = 0
    · rw [h0]; decide
    · exact (Nat.log2_lt h0).mpr hi)
  rw [ofString_length]; exact e
end Gm
/-! zip of a list and a tuple -/
namespace Gm
open PySem PySem.Spec PyProof.Rows L2
/-- the list at a and the tuple at b as they stand at each turn, the items in new pairs -/
def ItzM (K : PySem.W.Frag) (a b : Addr) : It :=
  ⟨fun i H => ∃ (xs ys : List V) (x y : V), SqL K H a xs ∧ SqT K H b ys ∧ xs[i]? = some x ∧ ys[i]? = some y,
    fun i H v H' => ∃ T x y, v = .ref T ∧ H T = none ∧ H' = upd H T (.tup [x, y]) ∧ (∀ xs, SqL K H a xs → xs[i]? = some x) ∧ ∀ ys, SqT K H b ys → ys[i]? = some y,
    fun i H => ∃ xs ys : List V, SqL K H a xs ∧ SqT K H b ys ∧ i ≤ xs.length ∧ i ≤ ys.length ∧ (i = xs.length ∨ i = ys.length)⟩
theorem five {α : Type} {c a1 a2 a3 a4 a5 : α} (h : c ∈ [a1, a2, a3, a4, a5]) : c = a1 ∨ c = a2 ∨ c = a3 ∨ c = a4 ∨ c = a5 := by simpa using h
theorem turn_zipM {P : Program} {w : World} {K : PySem.W.Frag} {elts : List Expr} {kk : Nat} {tpos : Pos} {a b z TI TO i1 i2 : Addr} (D : ZipSep2 z TI TO i1 i2 [i1, a] [i2, b]) :
    Turn P w K (.Tuple elts kk tpos) (ItzM K a b) [z, TI, TO, i1, i2] z (fun i h => IsZip h z TI TO .none ∧ IsTupOf2 h TI (.ref i1) (.ref i2) ∧ (∃ x y, IsTupOf2 h TO x y) ∧ h.IsListIter i1 a i ∧ h.IsTupleIter i2 b i) where
  mem := by simp
  obj := fun i h st c hc => by
    obtain ⟨hz, hTI, ⟨x, y, hTO⟩, ⟨o1, e1, _, d1⟩, ⟨o2, e2, _, d2⟩⟩ := st
    rcases five hc with q | q | q | q | q
    · rw [q]; exact ⟨_, hz, fun v q => nomatch q⟩
    · rw [q]; exact ⟨_, hTI, fun v q => nomatch q⟩
    · rw [q]; exact ⟨_, hTO, fun v q => nomatch q⟩
    · exact ⟨o1, by rw [q]; exact e1, fun v q => by rw [d1] at q; cases q⟩
    · exact ⟨o2, by rw [q]; exact e2, fun v q => by rw [d2] at q; cases q⟩
  keep := fun i h h' st k => by
    obtain ⟨hz, hTI, ⟨x, y, hTO⟩, h1, h2⟩ := st
    exact ⟨k z (by simp) _ hz, k TI (by simp) _ hTI, ⟨x, y, k TO (by simp) _ hTO⟩, h1.at fun o q => k i1 (by simp) o q, h2.at fun o q => k i2 (by simp) o q⟩
  item := by
    intro X hP hw hK hc i pins s σ H E I hf st hg
    subst hP hw hK
    obtain ⟨hz, hTI, ⟨x0, y0, hTO⟩, h1, h2⟩ := st
    obtain ⟨xs, ys, x, y, hqx, hqy, hx, hy⟩ := hg
    obtain ⟨its, rv, p, _⟩ := I.list hqx
    obtain ⟨its2, rv2, p2, _⟩ := I.tuple hqy
    obtain ⟨u, hu, ru⟩ := rv.get hx
    obtain ⟨u2, hu2, ru2⟩ := rv2.get hy
    have hh : X.A.in1.handled = none := I.ok.hd hc
    have hzl : z < s.heap.objs.size := Heap.lt_size hz
    have lt1 : i < its.toArray.size := by have := (List.getElem?_eq_some_iff.mp hu).1; simpa using this
    have lt2 : i < its2.toArray.size := by have := (List.getElem?_eq_some_iff.mp hu2).1; simpa using this
    have n1 : a ≠ i1 := fun e => by
      obtain ⟨o1, e1, c1, d1⟩ := h1
      obtain ⟨o, e2, c2, _⟩ := p.isList
      rw [e, e1] at e2; cases e2
      rw [c1] at c2; exact absurd c2 (by decide +kernel)
    have n2 : b ≠ i2 := fun e => by
      obtain ⟨o1, e1, c1, d1⟩ := h2
      obtain ⟨o, e2, c2, _⟩ := p2
      rw [e, e1] at e2; cases e2
      rw [c1] at c2; exact absurd c2 (by decide +kernel)
    refine wpAny_pyNext_zipD2_item D (Draws.list hh i1 a n1 its.toArray) (Draws.tuple hh i2 b n2 its2.toArray) hz hTI hTO ⟨h1, p.isList⟩ ⟨h2, p2⟩ lt1 lt2 fun v1 v2 h' tk y1 y2 z' TO' s1' s2' hT hsz hk => ?_
    have ev1 : v1 = u := by have y1 : its.toArray[i]? = some v1 := y1; rw [List.getElem?_toArray, hu] at y1; exact (Option.some.inj y1).symm
    have ev2 : v2 = u2 := by have y2 : its2.toArray[i]? = some v2 := y2; rw [List.getElem?_toArray, hu2] at y2; exact (Option.some.inj y2).symm
    subst ev1 ev2
    refine ⟨_, rfl, wpAny_letOwnedTupleGo_zip (s := { s with heap := h', toks := tk }) z' fun h'' z'' sb => ?_⟩
    have hT2 : h''.get? s.heap.objs.size = some { cls := .type "tuple", data := .seq #[v1, v2] } := (sb.2 _ (Nat.ne_of_gt hzl)).trans hT
    have new : ObjOk X.prog X.w (upd H s.heap.objs.size (.tup [x, y])) h'' s.heap.objs.size (.tup [x, y]) :=
      ⟨by show 2 ≤ sizeLine; decide, [v1, v2], .cons ru (.cons ru2 .nil), ⟨_, hT2, rfl, _, rfl⟩⟩
    have I1 : Inv X pins σ (upd H s.heap.objs.size (.tup [x, y])) { s with heap := h'', toks := tk } :=
      I.turnedNew (t' := tk) (ch := [z, TI, TO, i1, i2]) (fun c o hb q => (sb.2 c (fun q' => hb (by simp [q']))).trans (hk c o (fun q' => hb (by simp [q'])) (fun q' => hb (by simp [q'])) (fun q' => hb (by simp [q'])) (fun q' => hb (by simp [q'])) q)) hf (Nat.le_refl _) new
    refine ⟨.ref s.heap.objs.size, _, I1, rfl, ⟨_, x, y, rfl, I.hok.fresh (Nat.le_refl _), rfl, fun l hl => by rw [I.list_inj hl hqx]; exact hx, fun l hl => by rw [I.tuple_inj hl hqy]; exact hy⟩, ⟨z'', ?_, ⟨v1, v2, ?_⟩, ?_, ?_⟩, fun c hcm => ?_⟩
    · exact (sb.2 _ D.TIz).trans (hk _ _ D.TIz D.TITO D.TIi1 D.TIi2 hTI)
    · exact (sb.2 _ D.TOz).trans TO'
    · exact s1'.1.at fun o q => (sb.2 _ D.zi1.symm).trans q
    · exact s2'.1.at fun o q => (sb.2 _ D.zi2.symm).trans q
    · have hlt : c < s.heap.objs.size := by
        rcases five hcm with q | q | q | q | q
        · rw [q]; exact hzl
        · rw [q]; exact Heap.lt_size hTI
        · rw [q]; exact Heap.lt_size hTO
        · rw [q]; obtain ⟨_, e1, _⟩ := h1; exact Heap.lt_size e1
        · rw [q]; obtain ⟨_, e2, _⟩ := h2; exact Heap.lt_size e2
      rw [upd_ne (Nat.ne_of_lt hlt)]
      exact (hf c hcm).1
  done := by
    intro X hP hw hK hc i pins s σ H E I hf st hg
    subst hP hw hK
    obtain ⟨hz, hTI, ⟨x0, y0, hTO⟩, h1, h2⟩ := st
    obtain ⟨xs, ys, hqx, hqy, l1, l2, hend⟩ := hg
    obtain ⟨its, rv, p, _⟩ := I.list hqx
    obtain ⟨its2, rv2, p2, _⟩ := I.tuple hqy
    have hh : X.A.in1.handled = none := I.ok.hd hc
    have e1 : its.toArray.size = xs.length := by rw [List.size_toArray]; exact rv.length.symm
    have e2 : its2.toArray.size = ys.length := by rw [List.size_toArray]; exact rv2.length.symm
    have n1 : a ≠ i1 := fun e => by
      obtain ⟨o1, e1, c1, d1⟩ := h1
      obtain ⟨o, e2, c2, _⟩ := p.isList
      rw [e, e1] at e2; cases e2
      rw [c1] at c2; exact absurd c2 (by decide +kernel)
    have n2 : b ≠ i2 := fun e => by
      obtain ⟨o1, e1, c1, d1⟩ := h2
      obtain ⟨o, e2, c2, _⟩ := p2
      rw [e, e1] at e2; cases e2
      rw [c1] at c2; exact absurd c2 (by decide +kernel)
    exact wpAny_pyNext_zipD2_end D (Draws.list hh i1 a n1 its.toArray) (Draws.tuple hh i2 b n2 its2.toArray) hz hTI hTO ⟨h1, p.isList⟩ ⟨h2, p2⟩ (by rw [e1]; exact l1) (by rw [e2]; exact l2) (by rw [e1, e2]; exact hend) fun h' tk hk => ⟨rfl, I.turnedL (t' := tk) (ch := [z, TI, TO, i1, i2]) (fun c o hb q =>
      hk c o (fun q' => hb (by simp [q'])) (fun q' => hb (by simp [q'])) (fun q' => hb (by simp [q'])) (fun q' => hb (by simp [q'])) q) hf⟩
  self := fun A i s Q E st h => wpAny_pyIter_zip st.1 h
def iZipM (K : PySem.W.Frag) (ta : TA) : TI := fun σ H R => ta σ H fun vs H1 => ∃ a b xs ys, vs = [.ref a, .ref b] ∧ SqL K H1 a xs ∧ SqT K H1 b ys ∧ R (ItzM K a b) H1
theorem pi_zipM {X : Cx} {e e2 : Expr} {ta : TA} {p pos tpos : Pos} {elts : List Expr} {kk : Nat} (K : PySem.W.Frag) (hm : X.mg "zip" = none) (ha : PA X [e, e2] ta) (hg : Gl X "zip" := by rfl)
    (hs : starEach [e, e2] X.env = (false, eval e X.env) :: starEach [e2] X.env := by rfl) (hpl : (backTo pos (starEach [e2] X.env)).any (·.1) = false := by rfl) (hK : X.K = K := by rfl) :
    PI X (.Tuple elts kk tpos) (.Call (.Name "zip" p) [e, e2] [] pos) (iZipM K ta) := by
  subst hK
  refine ⟨fun pins s σ H R I h => ?_⟩
  refine Call_ (ld_blt I hg hm PyProof.Rows.boot_zip (PyProof.Rows.callWith_type1 (thn (ha.run pos pins s σ H _ I h) fun us s1 ⟨vs, H1, I1, r1, q1⟩ => ?_) hs hpl))
  obtain ⟨a, b, xs, ys, ex, hqx, hqy, q⟩ := q1
  subst ex
  obtain ⟨u1, u2, rfl, ru1, ru2⟩ : ∃ u1 u2, us = [u1, u2] ∧ RelV (.ref a) u1 ∧ RelV (.ref b) u2 := by
    cases r1 with
    | cons r rr => cases rr with
      | cons r' rr => cases rr; exact ⟨_, _, rfl, r, r'⟩
  obtain rfl : u1 = Value.ref a := ru1
  obtain rfl : u2 = Value.ref b := ru2
  obtain ⟨its, rv, p1, _⟩ := I1.list hqx
  obtain ⟨its2, rv2, p2, _⟩ := I1.tuple hqy
  have la : a < s1.heap.objs.size := p1.lt
  have lb : b < s1.heap.objs.size := by obtain ⟨o2, ho2, _⟩ := id p2; exact Heap.lt_size ho2
  have fresh5 : ∀ c, c ∈ [s1.heap.objs.size + 4, s1.heap.objs.size + 2, s1.heap.objs.size + 3, s1.heap.objs.size, s1.heap.objs.size + 1] → FpOk X pins H1 c := fun c hcm => by
    have hle : s1.heap.objs.size ≤ c := by
      rcases five hcm with z | z | z | z | z <;> rw [z]
      · exact Nat.le_add_right _ _
      · exact Nat.le_add_right _ _
      · exact Nat.le_add_right _ _
      · exact Nat.le_refl _
      · exact Nat.le_add_right _ _
    exact I1.fpOk hle (I1.hok.fresh hle)
  refine zip_begins2 (begins_list a its.toArray) (begins_tuple b its2.toArray) p1.isList p2 fun h' hz hTI hTO g1 g2 hsz hk => wpAny_pyIter_zip hz ?_
  have I2 : Inv X pins σ H1 { s1 with heap := h' } := I1.kept (t' := s1.toks) hk
  exact ⟨s1.heap.objs.size + 4, [s1.heap.objs.size + 4, s1.heap.objs.size + 2, s1.heap.objs.size + 3, s1.heap.objs.size, s1.heap.objs.size + 1], _, _, H1, rfl, I2,
    turn_zipM (zip_sep2 (fun c hc => by rw [List.mem_singleton.mp hc]; exact la) (fun c hc => by rw [List.mem_singleton.mp hc]; exact lb)), ⟨hz, hTI, ⟨_, _, hTO⟩, ⟨_, g1, rfl, rfl⟩, ⟨_, g2, rfl, rfl⟩⟩, fresh5, q⟩
/-- a loop over zip of a list and a tuple of one length -/
theorem for_zipM {K : PySem.W.Frag} {a b : Addr} {n : Nat} {g : TG} {tb : TS} {D : Ends} {σ : L2.St} {H : Hp} (Pv : Nat → L2.St → Hp → Prop) (h0 : Pv 0 σ H) (hq : ∀ i σ H, Pv i σ H → ∃ xs ys, SqL K H a xs ∧ SqT K H b ys ∧ xs.length = n ∧ ys.length = n)
    (hs : ∀ (i : Nat) (x y : V) (T : Addr) (σ : L2.St) (H : Hp), i < n → (∀ xs, SqL K H a xs → xs[i]? = some x) → (∀ ys, SqT K H b ys → ys[i]? = some y) → Pv i σ H → H T = none → g (.ref T) σ (upd H T (.tup [x, y])) fun σ2 H2 => tb { D with nx := Pv (i + 1), ct := Pv (i + 1), bk := D.nx } σ2 H2) (hd : ∀ σ H, Pv n σ H → D.nx σ H) :
    ∃ W : Nat → Nat → L2.St → Hp → Prop, (∃ m, W 0 m σ H) ∧ ∀ i m σ H, W i m σ H →
      ((ItzM K a b).stop i H ∧ D.nx σ H) ∨ ((ItzM K a b).go i H ∧ ∃ N : L2.St → Hp → Prop, (∀ σ' H', N σ' H' → ∃ m', m' < m ∧ W (i + 1) m' σ' H') ∧ ∀ v H', (ItzM K a b).yld i H v H' → g v σ H' fun σ2 H2 => tb { D with nx := N, ct := N, bk := D.nx } σ2 H2) := by
  refine ⟨fun i m σ H => m = n - i ∧ i ≤ n ∧ Pv i σ H, ⟨n, rfl, Nat.zero_le _, h0⟩, ?_⟩
  rintro i m σ H ⟨rfl, hi, p⟩
  obtain ⟨xs, ys, qx, qy, ex, ey⟩ := hq i σ H p
  by_cases hlt : i < n
  · have hx : xs[i]? = some (xs[i]'(by omega)) := List.getElem?_eq_getElem (by omega)
    have hy : ys[i]? = some (ys[i]'(by omega)) := List.getElem?_eq_getElem (by omega)
    refine .inr ⟨⟨xs, ys, _, _, qx, qy, hx, hy⟩, Pv (i + 1), fun σ' H' p' => ⟨n - (i + 1), by omega, rfl, hlt, p'⟩, fun v H' y => ?_⟩
    obtain ⟨T, x', y', rfl, hT, rfl, f1, f2⟩ := y
    exact hs i x' y' T σ H hlt f1 f2 p hT
  · have e : i = n := by omega
    exact .inl ⟨⟨xs, ys, qx, qy, by omega, by omega, by omega⟩, hd σ H (e ▸ p)⟩
section
variable {w : Wd} {Γ : Env} {S : List Own} {G : GE} {t1 : TS}
theorem ls_forZip {t : TA} {g : TG} (h : LA w t Γ S fun es S1 => ∃ ds1 ds2, es = [.d (.lst ds1), .d (.tup ds2)] ∧ ds1.length = ds2.length ∧ ∃ I : Nat → Env → List Own → Prop, I 0 Γ S1 ∧
    (∀ i d1 d2 Γ1 S2, ds1[i]? = some d1 → ds2[i]? = some d2 → I i Γ1 S2 → LG w g (.d (.tup [d1, d2])) Γ1 S2 fun Γ2 S3 => LS w t1 Γ2 S3 { G with nx := I (i + 1), ct := I (i + 1), bk := G.nx }) ∧ (∀ Γ1 S2, I ds1.length Γ1 S2 → G.nx Γ1 S2)) : LS w (tFor (iZipM w.K t) g t1) Γ S G := fun D σ R H as rl s e => by
  refine h σ R H as _ rl s fun vs es S1 R1 H1 as1 rl1 s1 p1 e1 ⟨ds1, ds2, h1, hl, I, i0, is, iE⟩ => ?_
  subst h1
  obtain ⟨v, v2, rfl, hv, hv2⟩ := two_ent e1
  cases hv with
  | lst ha hda =>
    cases hv2 with
    | tup hb hdb =>
      rename_i a us b us2
      refine ⟨a, b, us, us2, rfl, SqL.of (rl1.sub _ _ ha), SqT.of (rl1.sub _ _ hb), ?_⟩
      refine for_zipM (n := ds1.length) (fun i σ' H' => ∃ Γ' S' R' as', Sub R1 R' ∧ Rel w R' H' as' S' ∧ Sts w.K R' as' σ' Γ' ∧ I i Γ' S') ⟨Γ, S1, R1, as1, Sub.refl _, rl1, s.mono s1 p1, i0⟩ ?_ ?_ ?_
      · rintro i σ2 H2 ⟨Γ2, S2, R2, as2, u2, rl2, st2, i2⟩
        exact ⟨us, us2, SqL.of (rl2.sub _ _ (u2 _ _ ha)), SqT.of (rl2.sub _ _ (u2 _ _ hb)), hda.len, by rw [hdb.len, hl]⟩
      · rintro i x y T σ2 H2 hi f1 f2 ⟨Γ2, S2, R2, as2, u2, rl2, st2, i2⟩ hT
        obtain ⟨d1, hd1, hd2⟩ := (hda.mono u2).get2 (f1 us (SqL.of (rl2.sub _ _ (u2 _ _ ha))))
        obtain ⟨d2, he1, he2⟩ := (hdb.mono u2).get2 (f2 us2 (SqT.of (rl2.sub _ _ (u2 _ _ hb))))
        obtain ⟨rl3, s3⟩ := rl2.alloc hT (.tup [x, y])
        refine is i d1 d2 Γ2 S2 hd1 he1 i2 _ σ2 _ _ as2 _ rl3 (st2.mono s3 (Pre.refl _)) (ok_d (Den.tup upd_same (.cons (hd2.mono s3) (.cons (he2.mono s3) .nil)))) fun Γ3 S3 σ3 R3 H3 as3 rl4 s4 p4 st4 q => ?_
        have up := (u2.trans s3).trans s4
        have e2 := e.up (s1.trans up)
        exact q _ σ3 R3 H3 as3 rl4 st4 ⟨fun Γ' S' σ' R' H' as' u a b hi => ⟨Γ', S', R', as', up.trans u, a, b, hi⟩, e2.rt, e2.nx, fun Γ' S' σ' R' H' as' u a b hi => ⟨Γ', S', R', as', up.trans u, a, b, hi⟩⟩
      · rintro σ2 H2 ⟨Γ2, S2, R2, as2, u2, rl2, st2, i2⟩
        exact e.nx Γ2 S2 σ2 R2 H2 as2 (s1.trans u2) rl2 st2 (iE Γ2 S2 i2)
end
/-! comprehensions over zip and enumerate -/
theorem lc_zipM {K : PySem.W.Frag} {a b : Addr} {n : Nat} {g : TG} {tt : TT} {te : TE} {vs : List Nat} {σ : L2.St} {H1 : Hp} {Dl : Addr} {Qd : Hp → Prop} (Pv : Nat → Hp → Prop) (h0 : Pv 0 (upd H1 Dl (.lst [])))
    (hq : ∀ i H, Pv i H → ∃ xs ys, SqL K H a xs ∧ SqT K H b ys ∧ xs.length = n ∧ ys.length = n)
    (hs : ∀ (i : Nat) (x y : V) (T : Addr) (H : Hp), i < n → (∀ xs, SqL K H a xs → xs[i]? = some x) → (∀ ys, SqT K H b ys → ys[i]? = some y) → Pv i H → H T = none → g (.ref T) (wipe σ vs) (upd H T (.tup [x, y])) fun σ2 H2 => wipe σ2 vs = wipe σ vs ∧ tt σ2 H2 fun c H3 =>
      if c = true then te σ2 H3 fun y H4 => ∃ acc, H4 Dl = some (.lst acc) ∧ acc.length < sizeLine ∧ Pv (i + 1) (upd H4 Dl (.lst (acc ++ [y]))) else Pv (i + 1) H3) (hd : ∀ H, Pv n H → Qd H) :
    ∃ W : Nat → Nat → Hp → Prop, (∃ m, W 0 m (upd H1 Dl (.lst []))) ∧ ∀ i m H, W i m H →
      ((ItzM K a b).stop i H ∧ Qd H) ∨ ((ItzM K a b).go i H ∧ ∃ Nx : Hp → Prop, (∀ H', Nx H' → ∃ m', m' < m ∧ W (i + 1) m' H') ∧ ∀ x H', (ItzM K a b).yld i H x H' → g x (wipe σ vs) H' fun σ2 H2 => wipe σ2 vs = wipe σ vs ∧ tt σ2 H2 fun c H3 =>
        if c = true then te σ2 H3 fun y H4 => ∃ acc, H4 Dl = some (.lst acc) ∧ acc.length < sizeLine ∧ Nx (upd H4 Dl (.lst (acc ++ [y]))) else Nx H3) := by
  refine ⟨fun i m H => m = n - i ∧ i ≤ n ∧ Pv i H, ⟨n, rfl, Nat.zero_le _, h0⟩, ?_⟩
  rintro i m H ⟨rfl, hi, p⟩
  obtain ⟨xs, ys, qx, qy, ex, ey⟩ := hq i H p
  by_cases hlt : i < n
  · have hx : xs[i]? = some (xs[i]'(by omega)) := List.getElem?_eq_getElem (by omega)
    have hy : ys[i]? = some (ys[i]'(by omega)) := List.getElem?_eq_getElem (by omega)
    refine .inr ⟨⟨xs, ys, _, _, qx, qy, hx, hy⟩, Pv (i + 1), fun H' p' => ⟨n - (i + 1), by omega, rfl, hlt, p'⟩, fun v H' y => ?_⟩
    obtain ⟨T, x', y', rfl, hT, rfl, f1, f2⟩ := y
    exact hs i x' y' T H hlt f1 f2 p hT
  · have e : i = n := by omega
    exact .inl ⟨⟨xs, ys, qx, qy, by omega, by omega, by omega⟩, hd H (e ▸ p)⟩
theorem lc_enum {K : PySem.W.Frag} {a : Addr} {n : Nat} {g : TG} {tt : TT} {te : TE} {vs : List Nat} {σ : L2.St} {H1 : Hp} {Dl : Addr} {Qd : Hp → Prop} (Pv : Nat → Hp → Prop) (h0 : Pv 0 (upd H1 Dl (.lst [])))
    (hq : ∀ i H, Pv i H → ∃ xs, SqL K H a xs ∧ xs.length = n)
    (hs : ∀ (i : Nat) (x : V) (T : Addr) (H : Hp), i < n → (∀ xs, SqL K H a xs → xs[i]? = some x) → Pv i H → H T = none → g (.ref T) (wipe σ vs) (upd H T (.tup [.int (i : Nat), x])) fun σ2 H2 => wipe σ2 vs = wipe σ vs ∧ tt σ2 H2 fun c H3 =>
      if c = true then te σ2 H3 fun y H4 => ∃ acc, H4 Dl = some (.lst acc) ∧ acc.length < sizeLine ∧ Pv (i + 1) (upd H4 Dl (.lst (acc ++ [y]))) else Pv (i + 1) H3) (hd : ∀ H, Pv n H → Qd H) :
    ∃ W : Nat → Nat → Hp → Prop, (∃ m, W 0 m (upd H1 Dl (.lst []))) ∧ ∀ i m H, W i m H →
      ((Ite K a).stop i H ∧ Qd H) ∨ ((Ite K a).go i H ∧ ∃ Nx : Hp → Prop, (∀ H', Nx H' → ∃ m', m' < m ∧ W (i + 1) m' H') ∧ ∀ x H', (Ite K a).yld i H x H' → g x (wipe σ vs) H' fun σ2 H2 => wipe σ2 vs = wipe σ vs ∧ tt σ2 H2 fun c H3 =>
        if c = true then te σ2 H3 fun y H4 => ∃ acc, H4 Dl = some (.lst acc) ∧ acc.length < sizeLine ∧ Nx (upd H4 Dl (.lst (acc ++ [y]))) else Nx H3) := by
  refine ⟨fun i m H => m = n - i ∧ i ≤ n ∧ Pv i H, ⟨n, rfl, Nat.zero_le _, h0⟩, ?_⟩
  rintro i m H ⟨rfl, hi, p⟩
  obtain ⟨xs, qx, ex⟩ := hq i H p
  by_cases hlt : i < n
  · have hx : xs[i]? = some (xs[i]'(by omega)) := List.getElem?_eq_getElem (by omega)
    refine .inr ⟨⟨xs, _, qx, hx⟩, Pv (i + 1), fun H' p' => ⟨n - (i + 1), by omega, rfl, hlt, p'⟩, fun v H' y => ?_⟩
    obtain ⟨T, y', rfl, hT, rfl, f1⟩ := y
    exact hs i y' T H hlt f1 p hT
  · have e : i = n := by omega
    exact .inl ⟨⟨xs, qx, by omega⟩, hd H (e ▸ p)⟩
section
variable {w : Wd} {Γ : Env} {S : List Own} {k : KE}
theorem le_lcZip {t : TA} {te : TE} {g : TG} {tt : TT} {vs : List Nat} (h : LA w t Γ S fun es S1 => ∃ ds1 ds2, es = [.d (.lst ds1), .d (.tup ds2)] ∧ ds1.length = ds2.length ∧ ∃ I : Nat → List D → List Own → Prop, I 0 [] S1 ∧
    (∀ i d1 d2 acc S2, ds1[i]? = some d1 → ds2[i]? = some d2 → S2.length = S1.length → I i acc S2 → ∃ up, TgOk w g vs (.tup [d1, d2]) up ∧ LcG w (up (wipeG Γ vs)) tt te acc S2 (I (i + 1))) ∧ (∀ acc S2, I ds1.length acc S2 → k (.d (.lst acc)) S2)) : LE w (tLc (iZipM w.K t) g tt te vs) Γ S k := fun σ R H as Q rl s c => by
  refine h σ R H as _ rl s fun vl el S1 R1 H1 as1 rl1 s1 p1 e1 ⟨ds1, ds2, h1, hlen, I, i0, is, iE⟩ => ?_
  subst h1
  obtain ⟨v, v2, rfl, hv, hv2⟩ := two_ent e1
  cases hv with
  | lst ha hda =>
    cases hv2 with
    | tup hb hdb =>
      rename_i a us b us2
      refine ⟨a, b, us, us2, rfl, SqL.of (rl1.sub _ _ ha), SqT.of (rl1.sub _ _ hb), fun Dl hD => ?_⟩
      refine lc_zipM (n := ds1.length) (fun i H => LcP w R1 as1 S1.length Dl (I i) H) (lc_begin rl1 hD i0) (fun i H2 p => ?_) (fun i x y T H2 hi f1 f2 p hT => ?_) fun H2 p => ?_
      · obtain ⟨S2, R2, as2, acc, rl2, sb, pr, ha2, hl, hi2⟩ := p
        exact ⟨us, us2, SqL.of (rl2.sub _ _ (sb _ _ ha)), SqT.of (rl2.sub _ _ (sb _ _ hb)), hda.len, by rw [hdb.len, hlen]⟩
      · obtain ⟨S2, R2, as2, acc, rl2, sb, pr, ha2, hl, hi2⟩ := p
        obtain ⟨d1, hd1, hd2⟩ := (hda.mono sb).get2 (f1 us (SqL.of (rl2.sub _ _ (sb _ _ ha))))
        obtain ⟨d2, he1, he2⟩ := (hdb.mono sb).get2 (f2 us2 (SqT.of (rl2.sub _ _ (sb _ _ hb))))
        obtain ⟨rl3, s3⟩ := rl2.alloc hT (.tup [x, y])
        obtain ⟨up, hu, hg⟩ := is i d1 d2 acc S2 hd1 he1 hl hi2
        refine hu σ Γ _ _ as2 _ _ _ rl3 (((s.mono s1 p1).mono sb pr).mono s3 (Pre.refl _)) (Den.tup upd_same (.cons (hd2.mono s3) (.cons (he2.mono s3) .nil))) fun σ2 st2 hw => ⟨hw, ?_⟩
        have := lc_turnG (Dl := Dl) st2 rl3 (sb.trans s3) pr ha2 hg
        rw [hl] at this
        exact this
      · obtain ⟨acc, S', R', as', q1, q2, q3, q4, q5⟩ := lc_end rl1.len rl1.as0_le p
        exact c _ _ S' R' _ as' q1 (s1.trans q2) (p1.trans q3) (ok_d q4) (iE acc S' q5)
theorem le_lcEnum {t : TA} {te : TE} {g : TG} {tt : TT} {vs : List Nat} (h : LA w t Γ S fun es S1 => ∃ ds1, es = [.d (.lst ds1)] ∧ ∃ I : Nat → List D → List Own → Prop, I 0 [] S1 ∧
    (∀ i d1 acc S2, ds1[i]? = some d1 → S2.length = S1.length → I i acc S2 → ∃ up, TgOk w g vs (.tup [.int (i : Nat), d1]) up ∧ LcG w (up (wipeG Γ vs)) tt te acc S2 (I (i + 1))) ∧ (∀ acc S2, I ds1.length acc S2 → k (.d (.lst acc)) S2)) : LE w (tLc (iEnum w.K t) g tt te vs) Γ S k := fun σ R H as Q rl s c => by
  refine h σ R H as _ rl s fun vl el S1 R1 H1 as1 rl1 s1 p1 e1 ⟨ds1, h1, I, i0, is, iE⟩ => ?_
  subst h1
  obtain ⟨v, rfl, hv⟩ := one_ent e1
  cases hv with
  | lst ha hda =>
    rename_i a us
    refine ⟨a, us, rfl, SqL.of (rl1.sub _ _ ha), fun Dl hD => ?_⟩
    refine lc_enum (n := ds1.length) (fun i H => LcP w R1 as1 S1.length Dl (I i) H) (lc_begin rl1 hD i0) (fun i H2 p => ?_) (fun i x T H2 hi f1 p hT => ?_) fun H2 p => ?_
    · obtain ⟨S2, R2, as2, acc, rl2, sb, pr, ha2, hl, hi2⟩ := p
      exact ⟨us, SqL.of (rl2.sub _ _ (sb _ _ ha)), hda.len⟩
    · obtain ⟨S2, R2, as2, acc, rl2, sb, pr, ha2, hl, hi2⟩ := p
      obtain ⟨d1, hd1, hd2⟩ := (hda.mono sb).get2 (f1 us (SqL.of (rl2.sub _ _ (sb _ _ ha))))
      obtain ⟨rl3, s3⟩ := rl2.alloc hT (.tup [.int (i : Nat), x])
      obtain ⟨up, hu, hg⟩ := is i d1 acc S2 hd1 hl hi2
      refine hu σ Γ _ _ as2 _ _ _ rl3 (((s.mono s1 p1).mono sb pr).mono s3 (Pre.refl _)) (Den.tup upd_same (.cons (.int _) (.cons (hd2.mono s3) .nil))) fun σ2 st2 hw => ⟨hw, ?_⟩
      have := lc_turnG (Dl := Dl) st2 rl3 (sb.trans s3) pr ha2 hg
      rw [hl] at this
      exact this
    · obtain ⟨acc, S', R', as', q1, q2, q3, q4, q5⟩ := lc_end rl1.len rl1.as0_le p
      exact c _ _ S' R' _ as' q1 (s1.trans q2) (p1.trans q3) (ok_d q4) (iE acc S' q5)
end
end Gm
/-! sorted of pairs (int, tuple of ints); sums of tuples, the left one empty, too -/
namespace SrtQ
open PySem PyProof.Rows Srt SrtO
/-- by the number, then by the tuple -/
def ltQ (p q : Int × List Int) : Bool := if p.1 = q.1 then HT.lexLt p.2 q.2 else decide (p.1 < q.1)
theorem lexLt_irr : ∀ ns : List Int, HT.lexLt ns ns = false
  | [] => rfl
  | n :: ns => by rw [HT.lexLt_cons, if_pos rfl]; exact lexLt_irr ns
theorem lexLt_asym : ∀ ns ms : List Int, HT.lexLt ns ms = true → HT.lexLt ms ns = false
  | [], [], h => rfl
  | [], _ :: _, h => rfl
  | _ :: _, [], h => by cases h
  | n :: ns, m :: ms, h => by
    rw [HT.lexLt_cons] at h ⊢
    by_cases e : n = m
    · subst e; rw [if_pos rfl] at h ⊢; exact lexLt_asym ns ms h
    · rw [if_neg e] at h; rw [if_neg (Ne.symm e)]
      have := of_decide_eq_true h
      exact decide_eq_false (by omega)
theorem lexLt_tr : ∀ x y z : List Int, HT.lexLt y x = false → HT.lexLt z y = false → HT.lexLt z x = false
  | [], [], [], _, _ => rfl
  | [], [], _ :: _, _, h => rfl
  | [], _ :: _, [], h, _ => rfl
  | [], _ :: _, _ :: _, _, _ => rfl
  | _ :: _, [], _, h, _ => by cases h
  | _ :: _, _ :: _, [], _, h => by cases h
  | a :: x, b :: y, c :: z, h1, h2 => by
    rw [HT.lexLt_cons] at h1 h2 ⊢
    by_cases e1 : b = a
    · subst e1
      rw [if_pos rfl] at h1
      by_cases e2 : c = b
      · subst e2; rw [if_pos rfl] at h2 ⊢; exact lexLt_tr x y z h1 h2
      · rw [if_neg e2] at h2 ⊢; exact h2
    · rw [if_neg e1] at h1
      have g1 := of_decide_eq_false h1
      by_cases e2 : c = b
      · subst e2; rw [if_neg e1]; exact h1
      · rw [if_neg e2] at h2
        have g2 := of_decide_eq_false h2
        rw [if_neg (by omega)]
        exact decide_eq_false (by omega)
theorem swo_ltQ {α : Type} (k : α → Int × List Int) : Swo fun v u => ltQ (k v) (k u) := by
  refine ⟨fun x y h => ?_, fun x y z h1 h2 => ?_⟩
  · generalize k x = p at h ⊢
    generalize k y = q at h ⊢
    unfold ltQ at h ⊢
    by_cases e : p.1 = q.1
    · rw [if_pos e] at h; rw [if_pos e.symm]; exact lexLt_asym _ _ h
    · rw [if_neg e] at h; rw [if_neg (Ne.symm e)]
      have := of_decide_eq_true h
      exact decide_eq_false (by omega)
  · generalize k x = p at h1 h2 ⊢
    generalize k y = q at h1 h2 ⊢
    generalize k z = r at h1 h2 ⊢
    unfold ltQ at h1 h2 ⊢
    by_cases e1 : q.1 = p.1
    · rw [if_pos e1] at h1
      by_cases e2 : r.1 = q.1
      · rw [if_pos e2] at h2; rw [if_pos (e2.trans e1)]; exact lexLt_tr _ _ _ h1 h2
      · rw [if_neg e2] at h2; rw [if_neg (by omega)]
        have := of_decide_eq_false h2
        exact decide_eq_false (by omega)
    · rw [if_neg e1] at h1
      have g1 := of_decide_eq_false h1
      by_cases e2 : r.1 = q.1
      · rw [if_neg (by omega)]; exact decide_eq_false (by omega)
      · rw [if_neg e2] at h2
        have g2 := of_decide_eq_false h2
        rw [if_neg (by omega)]; exact decide_eq_false (by omega)
/-- v is a pair of this number and a tuple of these numbers -/
def IsQ (h : Heap) (v : Value) (x : Int) (ns : List Int) : Prop := ∃ a o t u n its, v = .ref a ∧ h.get? a = some o ∧ o.cls = .type "tuple" ∧ o.data = .seq #[.int x t, .ref u] n ∧ IsTup h u its ∧ IntsAre its.toList ns
theorem IsQ.keeps {h h' : Heap} {v : Value} {x : Int} {ns : List Int} (p : IsQ h v x ns) (k : ∀ b o, h.get? b = some o → o.cls = .type "tuple" → h'.get? b = some o) : IsQ h' v x ns := by
  obtain ⟨a, o, t, u, n, its, e, ho, hc, hd, ⟨o2, g1, g2, g3⟩, hi⟩ := p
  exact ⟨a, o, t, u, n, its, e, k _ _ ho hc, hc, hd, ⟨o2, k _ _ g1 g2, g2, g3⟩, hi⟩
theorem firsts_Q {h : Heap} : ∀ {vs : List Value}, (∀ v ∈ vs, ∃ x ns, IsQ h v x ns) → ∃ fs : List Value, PySem.W.KatTups h vs fs ∧ fs.length = vs.length ∧ ∀ f ∈ fs, ∃ x t, f = Value.int x t
  | [], _ => ⟨[], PySem.W.KatTups.nil, rfl, fun f hf => by simp at hf⟩
  | v :: vs, p => by
    obtain ⟨fs, k, hl, hi⟩ := firsts_Q fun u hu => p u (List.mem_cons_of_mem _ hu)
    obtain ⟨x, ns, a, o, t, u, n, its, rfl, ho, hc, hd, _⟩ := p v (List.mem_cons_self ..)
    refine ⟨Value.int x t :: fs, PySem.W.KatTups.cons ho hc hd rfl k, by simp [hl], fun f hf => ?_⟩
    rcases List.mem_cons.mp hf with rfl | hf
    · exact ⟨x, t, rfl⟩
    · exact hi f hf
section
variable {A : Around} {s : Shared}
theorem ints_get : ∀ {vs : List Value} {ns : List Int}, IntsAre vs ns → ∀ (j : Nat) (h : j < vs.length), ∃ t, vs[j] = .int (ns.getD j 0) t
  | _, _, .nil, j, h => absurd h (Nat.not_lt_zero _)
  | _, _, .cons a t r, 0, h => ⟨t, rfl⟩
  | _, _, .cons a t r, j + 1, h => by
    obtain ⟨t', e⟩ := ints_get r j (by simpa using h)
    exact ⟨t', by simpa using e⟩
theorem all_eq_iff : ∀ (ns ms : List Int), ((List.range (min ns.length ms.length)).all (fun j => ns.getD j 0 == ms.getD j 0) && ns.length == ms.length) = decide (ns = ms)
  | ns, ms => by
    by_cases e : ns = ms
    · subst e; simp
    · rw [decide_eq_false e]
      by_cases hl : ns.length = ms.length
      · have : ¬ (List.range (min ns.length ms.length)).all (fun j => ns.getD j 0 == ms.getD j 0) = true := fun h => e (List.ext_getElem hl fun i h1 h2 => by
          have := List.all_eq_true.mp h i (List.mem_range.mpr (by omega))
          have := beq_iff_eq.mp this
          rw [List.getD_eq_getElem?_getD, List.getD_eq_getElem?_getD, List.getElem?_eq_getElem h1, List.getElem?_eq_getElem h2] at this
          exact this)
        simp only [Bool.not_eq_true] at this
        rw [this]; rfl
      · rw [show (ns.length == ms.length) = false from beq_eq_false_iff_ne.mpr hl, Bool.and_false]
theorem eq_tups {l b : Addr} {items items2 : Array Value} {ns ms : List Int} (hl : IsTup s.heap l items) (hb : IsTup s.heap b items2) (hi : IntsAre items.toList ns) (hj : IntsAre items2.toList ms) (hu : A.units < cLine) :
    SeqAt.EqAt A s (.ref l) (.ref b) (decide (ns = ms)) := by
  by_cases e : l = b
  · subst e
    obtain ⟨o, h1, h2, n, h3⟩ := hl
    obtain ⟨o', g1, g2, n', g3⟩ := hb
    rw [h1] at g1; cases g1
    rw [h3] at g3; cases g3
    have : ns = ms := by
      have : ∀ {vs : List Value} {ns ms : List Int}, IntsAre vs ns → IntsAre vs ms → ns = ms := by
        intro vs ns ms a
        induction a generalizing ms with
        | nil => intro b; cases b; rfl
        | cons x t r ih => intro b; cases b with | cons _ _ r' => rw [ih r']
      exact this hi hj
    rw [decide_eq_true this]
    exact SeqAt.EqAt.same _
  · refine SeqAt.EqAt.of_refs e ?_
    have h := SeqAt.RcAt.tuples (A := A) (e := fun j => ns.getD j 0 == ms.getD j 0) hl hb hu fun j h1 h2 => by
      obtain ⟨t, e1⟩ := ints_get hi j (by simpa using h1)
      obtain ⟨u, e2⟩ := ints_get hj j (by simpa using h2)
      have e1' : items[j] = .int (ns.getD j 0) t := by simpa using e1
      have e2' : items2[j] = .int (ms.getD j 0) u := by simpa using e2
      rw [e1', e2']
      exact SeqAt.EqAt.int_int _ _ _ _
    have l1 : items.size = ns.length := by rw [← Array.length_toList]; exact hi.length
    have l2 : items2.size = ms.length := by rw [← Array.length_toList]; exact hj.length
    rw [l1, l2, all_eq_iff] at h
    exact h
end
section
variable {prog : Program} {w : World} {A : Around} {s : Shared}
theorem q_cmp {vs : List Value} {k : Value → Int × List Int} (hu : A.units < cLine) (hp : ∀ v ∈ vs, IsQ s.heap v (k v).1 (k v).2) : Cmp prog w A s (tuples' true) (fun p => p.1 ∈ vs) (lt2 fun v u => ltQ (k v) (k u)) := by
  intro p q hm hm'
  have h1 := hp _ hm
  have h2 := hp _ hm'
  show wpAny (model prog w) A (keyLt' (tuples' true) p.1 q.1) (fun r s' => s' = s ∧ r = ltQ (k p.1) (k q.1)) (fun _ _ => False) s
  unfold ltQ
  generalize (k p.1).1 = x at h1 ⊢
  generalize (k p.1).2 = y at h1 ⊢
  generalize (k q.1).1 = x' at h2 ⊢
  generalize (k q.1).2 = y' at h2 ⊢
  obtain ⟨a, o, t, u, n, its, e, ho, hc, hd, ht, hi⟩ := h1
  obtain ⟨a', o', t', u', n', its', e', ho', hc', hd', ht', hi'⟩ := h2
  rw [e, e']
  refine PySem.W.kat_lt ho hd ho' hd' ?_
  show PySem.W.KatLex prog w A true (decide (2 < 2)) _ [(.int x t, .int x' t'), (.ref u, .ref u')] 0 s
  refine PySem.W.kat_cons (SeqAt.EqAt.int_int x t x' t' prog w _ _ ?_)
  refine PySem.W.kat_go (fun e1 => ?_) (fun e1 => ?_)
  · have ex : x = x' := by simpa using e1
    refine PySem.W.kat_yes (PySem.W.kat_cons (eq_tups ht ht' hi hi' hu prog w _ _ ?_))
    refine PySem.W.kat_go (fun e2 => ?_) (fun e2 => ?_)
    · have ey : y = y' := by simpa using e2
      have e3 : (if x = x' then HT.lexLt y y' else decide (x < x')) = false := by
        rw [if_pos ex, ey]
        exact lexLt_irr _
      exact PySem.W.kat_yes (PySem.W.kat_nil ⟨rfl, e3.symm⟩)
    · have e3 : (if x = x' then HT.lexLt y y' else decide (x < x')) = HT.lexLt y y' := if_pos ex
      refine PySem.W.kat_no (PySem.W.kat_one _ _ (HT.lt_tupInts ht ht' hi hi' hu ?_))
      exact (show s = s ∧ HT.lexLt y y' = (if x = x' then HT.lexLt y y' else decide (x < x')) from ⟨rfl, e3.symm⟩)
  · have ex : ¬ x = x' := by simpa using e1
    have e3 : (if x = x' then HT.lexLt y y' else decide (x < x')) = decide (x < x') := if_neg ex
    exact PySem.W.kat_no (oneLt_int ⟨rfl, e3.symm⟩)
theorem q_sortableO {a : Addr} {vs : List Value} {k : Value → Int × List Int} (hu : A.units < cLine) (h0 : 0 < vs.length) (hp : ∀ v ∈ vs, IsQ s.heap v (k v).1 (k v).2) (ha : ∀ o, s.heap.get? a = some o → o.cls ≠ .type "tuple") : SortableO prog w A s a vs fun v u => ltQ (k v) (k u) := by
  intro h' keep
  have hp' : ∀ v ∈ vs, IsQ h' v (k v).1 (k v).2 := fun v hm => (hp v hm).keeps fun b o e c => keep b o (fun z => by subst z; exact ha o e c) e
  obtain ⟨fs, h1, h2, h3⟩ := firsts_Q fun v hm => ⟨_, _, hp' v hm⟩
  refine ⟨tuples' true, fun Q E hq => ?_, q_cmp hu hp'⟩
  refine PySem.W.kat_kind (T := .type "int") h1 (by omega) (fun f hm => ?_) (by rfl) ?_
  · obtain ⟨x, t, rfl⟩ := h3 f hm
    exact PySem.W.Looks.now
  · have e : (Value.type "int" != Value.type "tuple") = true := by first | decide +kernel | rfl | decide
    rw [e]
    exact hq
theorem sorted_Q {l : Addr} {vs : List Value} {k : Value → Int × List Int} {E Q : Value → Shared → Prop} (hu : A.units + 64 < cLine) (hl : s.heap.IsList l vs.toArray) (hz : vs.length ≤ sizeLine) (hp : ∀ v ∈ vs, IsQ s.heap v (k v).1 (k v).2)
    (h : ∀ (h' : Heap) (d : Addr) (out : List Value), Srtd (fun v u => ltQ (k v) (k u)) out → Stb (fun v u => ltQ (k v) (k u)) out vs → (∀ b o, s.heap.get? b = some o → h'.get? b = some o) → s.heap.objs.size ≤ d → (∃ n, h'.get? d = some (seqObj "list" out.toArray n)) → Q (.ref d) { s with heap := h' }) :
    wpAny (model prog w) A (call (.builtin "sorted") [.ref l]) Q E s := by
  refine sorted_ord (swo_ltQ k) hl hz (fun h2 h₁ a ha kk => ?_) fun out hs hb => ?_
  · refine q_sortableO (s := { s with heap := h₁ }) (by show A.units + 1 + 1 < cLine; omega) (by omega) (fun v hm => (hp v hm).keeps fun b o e _ => (kk b o e).2) fun o e => ?_
    have e' : some o = some (seqObj "list" vs.toArray 0) := e.symm.trans ha
    cases e'
    intro c
    exact absurd (Value.type.inj c) (by decide)
  · exact h _ _ out hs hb (fun b o e => sortedAll_old e) (Nat.le_succ _) (sortedAll_at s.heap vs out.toArray)
end
end SrtQ
namespace L2
open PySem PySem.Spec PyProof.Rows
/-- sorted(xs), xs a list of pairs (int, tuple of ints) -/
def rSortedQ (K : PySem.W.Frag) : List V → Hp → VK → Prop := fun vs H Q => ∃ (a : Addr) (xs : List V) (k : V → Int × List Int), vs = [V.ref a] ∧ SqL K H a xs ∧ (∀ x ∈ xs, ∃ t u, x = V.ref t ∧ H t = some (.tup [.int (k x).1, .ref u]) ∧ H u = some (.tup ((k x).2.map V.int))) ∧
  ∀ ys p, SrtO.Srtd (fun x y => SrtQ.ltQ (k x) (k y)) ys → SrtO.Stb (fun x y => SrtQ.ltQ (k x) (k y)) ys xs → H p = none → Q (.ref p) (upd H p (.lst ys))
section
variable {X : Cx}
theorem cr_sortedQ (hu : X.A.units + 64 < cLine) : CallR X (.builtin "sorted") (rSortedQ X.K) := by
  intro pins s σ H vs us Q I r h
  obtain ⟨a, xs, k, rfl, hs, hx, q⟩ := h
  obtain ⟨its, rv, hl, hz⟩ := I.list hs
  obtain ⟨u, rfl, ru⟩ := vals1 r
  obtain rfl : u = Value.ref a := ru
  obtain ⟨e1, e2⟩ := refs_back rv fun x m => by
    obtain ⟨t, u, e, _⟩ := hx x m
    exact ⟨t, e⟩
  refine SrtQ.sorted_Q (k := fun u => k (backV u)) hu hl.isList (by rw [← rv.length]; exact hz) (fun v hv => ?_) fun h' d out h1 h2 kp hd hn => ?_
  · obtain ⟨t, rfl⟩ := e2 v hv
    have hm : V.ref t ∈ xs := by rw [e1]; exact List.mem_map.mpr ⟨_, hv, rfl⟩
    obtain ⟨t', u, e, ht, hn⟩ := hx _ hm
    cases e
    obtain ⟨_, its2, r2, o, ho, hc, n, hd⟩ := I.hok _ _ ht
    obtain ⟨u1, u2, rfl, ri, rj⟩ := vals2 r2
    obtain ⟨t1, rfl⟩ := ri
    obtain rfl : u2 = Value.ref u := rj
    obtain ⟨_, its3, r3, p3⟩ := I.hok _ _ hn
    exact ⟨t, o, t1, u, n, its3.toArray, rfl, ho, hc, hd, p3, r3.ints⟩
  · have h3 : ∀ u ∈ out, ∃ a, u = Value.ref a := fun u hu => e2 u (h2.perm.mem_iff.mp hu)
    obtain ⟨n, hn⟩ := hn
    have hb : SrtO.Stb (fun x y => SrtQ.ltQ (k x) (k y)) (out.map backV) xs := by
      rw [e1]
      exact SrtO.Stb.map (SrtQ.swo_ltQ k) backV h2
    refine ⟨.ref d, upd H d (.lst (out.map backV)), I.laid (t' := s.toks) kp hd ⟨?_, out, n, vals_back h3, hn⟩, rfl, q _ d (SrtO.srtd_map h1) hb (I.hok.fresh hd)⟩
    rw [hb.len]
    exact hz
end
end L2
namespace Gm
open PySem PySem.Spec PyProof.Rows L2
abbrev pDT (p : Int × List Int) : D := .tup [.int p.1, .tup (p.2.map D.int)]
def intsV : List V → List Int
  | .int i :: vs => i :: intsV vs
  | _ => []
def pkT (R : Hp) (x : V) : Int × List Int := match x with
  | .ref t => (match R t with
    | some (.tup [.int i, .ref u]) => (match R u with
      | some (.tup vs) => (i, intsV vs)
      | _ => (0, []))
    | _ => (0, []))
  | _ => (0, [])
theorem intsV_map : ∀ ns : List Int, intsV (ns.map V.int) = ns
  | [] => rfl
  | n :: ns => by show n :: intsV (ns.map V.int) = _; rw [intsV_map ns]
theorem densI {K : PySem.W.Frag} {R : Hp} : ∀ {vs : List V} {ns : List Int}, Dens K R vs (ns.map D.int) → vs = ns.map V.int
  | [], [], _ => rfl
  | v :: vs, n :: ns, .cons h t => by
    cases h
    rw [densI t]; rfl
  | [], _ :: _, h => nomatch h
  | _ :: _, [], h => nomatch h
theorem den_pT {K : PySem.W.Frag} {R : Hp} {x : V} {p : Int × List Int} (h : Den K R x (pDT p)) : (∃ t u, x = .ref t ∧ R t = some (.tup [.int p.1, .ref u]) ∧ R u = some (.tup (p.2.map V.int))) ∧ pkT R x = p := by
  cases h with
  | tup h1 h2 =>
    rename_i a vs
    cases h2 with
    | cons g1 g2 =>
      cases g1
      cases g2 with
      | cons g3 g4 =>
        cases g4
        cases g3 with
        | tup k1 k2 =>
          rename_i u ws
          have e := densI k2
          subst e
          refine ⟨⟨a, u, rfl, h1, k1⟩, ?_⟩
          unfold pkT
          dsimp only
          rw [h1]
          dsimp only
          rw [k1]
          dsimp only
          rw [intsV_map]
theorem dens_pTs {K : PySem.W.Frag} {R : Hp} : ∀ {xs : List V} {ps : List (Int × List Int)}, Dens K R xs (ps.map pDT) → (∀ x ∈ xs, (∃ t u, x = .ref t ∧ R t = some (.tup [.int (pkT R x).1, .ref u]) ∧ R u = some (.tup ((pkT R x).2.map V.int))) ∧ Den K R x (pDT (pkT R x))) ∧ xs.map (pkT R) = ps
  | [], [], _ => ⟨fun x hx => (List.not_mem_nil hx).elim, rfl⟩
  | x :: xs, p :: ps, .cons h t => by
    obtain ⟨t1, t2⟩ := dens_pTs t
    obtain ⟨h1, h2⟩ := den_pT h
    refine ⟨fun y hy => ?_, by rw [List.map_cons, h2, t2]⟩
    rcases List.mem_cons.mp hy with rfl | hy
    · rw [h2]; exact ⟨h1, h⟩
    · exact t1 y hy
  | [], _ :: _, h => nomatch h
  | _ :: _, [], h => nomatch h
section
variable {w : Wd} {S : List Own} {k : KE}
theorem rc_sortQ {x : Ent} {ps : List (Int × List Int)} (hx : IsLst x S (ps.map pDT)) (q : ∀ qs : List (Int × List Int), qs.Perm ps → qs.Pairwise (fun a b => SrtQ.ltQ b a = false) → k (.d (.lst (qs.map pDT))) S) : RC w (rSortedQ w.K) [x] S k := fun R H as us Q rl hu c => by
  obtain ⟨v, rfl, hv⟩ := one_ent hu
  obtain ⟨a, xs, rfl, ha, hd⟩ := isLst_at hx rl hv
  obtain ⟨h1, h2⟩ := dens_pTs hd
  refine ⟨a, xs, pkT R, rfl, SqL.of ha, fun x hx => ?_, fun ys p so st hp => ?_⟩
  · obtain ⟨⟨t, u, e1, e2, e3⟩, _⟩ := h1 x hx
    exact ⟨t, u, e1, rl.sub _ _ e2, rl.sub _ _ e3⟩
  · obtain ⟨rl2, s2⟩ := rl.alloc hp (.lst ys)
    have hperm := st.perm
    have hd2 : Dens w.K R ys (ys.map fun y => pDT (pkT R y)) := dens_of (f := fun y => pDT (pkT R y)) fun y hy => (h1 y (hperm.mem_iff.mp hy)).2
    have e : (ys.map fun y => pDT (pkT R y)) = (ys.map (pkT R)).map pDT := by rw [List.map_map]; rfl
    rw [e] at hd2
    exact c _ _ S _ _ as rl2 s2 (Pre.refl _) (ok_d (Den.lst upd_same (hd2.mono s2))) (q _ (by rw [← h2]; exact hperm.map _) (List.pairwise_map.mpr (so.imp fun {x y} hxy => hxy)))
end
section
variable {X : Cx} {e : Expr} {p pos : Pos} {te : TE}
theorem b_sortQ (hu : X.A.units + 64 < cLine) (hm : X.mg "sorted" = none) (he : PE X e te) (hg : Gl X "sorted" := by rfl) (hs : starEach [e] X.env = (false, eval e X.env) :: starEach [] X.env := by rfl) : PE X (.Call (.Name "sorted" p) [e] [] pos) (tCB (rSortedQ X.K) (tCons te tNil)) :=
  pe_callB (cr_sortedQ hu) hg hm (by decide +kernel) (pa_cons he pa_nil hs) (he := hs)
end
end Gm
namespace L2
open PySem PySem.Spec PyProof.Rows
/-- t + u: t empty gives u, u empty gives t -/
def rCatTE (K : PySem.W.Frag) : R2 := fun x y H Q => ∃ a b xs ys, x = .ref a ∧ y = .ref b ∧ SqT K H a xs ∧ SqT K H b ys ∧ xs.length + ys.length ≤ sizeLine ∧
  (xs = [] → Q (.ref b) H) ∧ (xs ≠ [] → ys = [] → Q (.ref a) H) ∧ (xs ≠ [] → ys ≠ [] → ∀ p, H p = none → Q (.ref p) (upd H p (.tup (xs ++ ys))))
section
variable {prog : Program} {w : World} {A : Around} {E : Value → Shared → Prop} {s : Shared}
theorem cat_tup0 {t b : Addr} {vs ws : List Value} {Q : Value → Shared → Prop} (ht : IsTup s.heap t vs.toArray) (hb : IsTup s.heap b ws.toArray) (hv : vs = []) (h1 : Q (.ref b) s) : wpAny (model prog w) A (binaryOp .Add (.ref t) (.ref b)) Q E s := by
  obtain ⟨⟨cls, dd, data, sl⟩, ho, hc, n, hd⟩ := id ht
  obtain ⟨⟨cls2, dd2, data2, sl2⟩, ho2, hc2, n2, hd2⟩ := id hb
  simp only at hc hd hc2 hd2
  subst hc hd hc2 hd2
  exact concat_meets ⟨_, ho, rfl⟩ ⟨_, ho2, rfl⟩ noFill_tuple_add seq_tuple_add PySem.F.slot_tuple_add PySem.F.entry_tuple_add (PySem.F.args_tuple_add_2 _ _)
      (tuple_addW0 t b vs.toArray ws.toArray n n2 dd dd2 sl sl2 (by simp [hv])) ⟨ho, ho2, h1⟩
end
section
variable {X : Cx}
theorem op_catTE : OpR X (binaryOp .Add) (rCatTE X.K) := by
  intro pins s σ H x y v u Q I rx ry h
  obtain ⟨a, b, xs, ys, rfl, rfl, ha, hb, hz, q0, q1, q2⟩ := h
  by_cases hx : xs = []
  · cases rx
    cases ry
    obtain ⟨its, r1, p1, _⟩ := I.tuple ha
    obtain ⟨its2, r2, p2, _⟩ := I.tuple hb
    exact cat_tup0 p1 p2 (r1.nil_iff.mpr hx) ⟨.ref b, H, I, rfl, q0 hx⟩
  · exact op_catT pins s σ H _ _ v u Q I rx ry ⟨a, b, xs, ys, rfl, rfl, ha, hb, hx, hz, q1 hx, q2 hx⟩
theorem op_catTEB (K : PySem.W.Frag) (hK : X.K = K := by rfl) : OpR X (binaryOp .Add) (rCatTE K) := by
  subst hK; exact op_catTE
end
end L2
namespace Gm
open PySem PySem.Spec PyProof.Rows L2
section
variable {w : Wd} {Γ : Env} {S : List Own} {k : KE}
theorem rr_catTE {xs ys : List D} (hl : xs.length + ys.length ≤ sizeLine) (q : k (.d (.tup (xs ++ ys))) S) : RR w (rCatTE w.K) (.d (.tup xs)) (.d (.tup ys)) S k := fun R H as u v Q rl hu hv c => by
  cases hu with
  | tup h1 h2 =>
    cases hv with
    | tup h3 h4 =>
      rename_i a vs b ws
      refine ⟨a, b, vs, ws, rfl, rfl, SqT.of (rl.sub _ _ h1), SqT.of (rl.sub _ _ h3), by rw [h2.len, h4.len]; exact hl, fun z => ?_, fun _ z => ?_, fun _ z p hp => ?_⟩
      · subst z; cases h2
        rw [List.nil_append] at q
        exact c _ _ S R H as rl (Sub.refl _) (Pre.refl _) (ok_d (Den.tup h3 h4)) q
      · subst z; cases h4
        rw [List.append_nil] at q
        exact c _ _ S R H as rl (Sub.refl _) (Pre.refl _) (ok_d (Den.tup h1 h2)) q
      · obtain ⟨rl2, s2⟩ := rl.alloc hp (.tup (vs ++ ws))
        exact c _ _ S _ _ as rl2 s2 (Pre.refl _) (ok_d (Den.tup upd_same ((h2.append h4).mono s2))) q
/-- [.. for g in l for g1 in range(..)]: the store stays -/
theorem le_lc2R {tl te : TE} {wi : TI} {g g1 : TG} {vs vs1 : List Nat} (h : LE w tl Γ S fun e S1 => ∃ ds, e = .d (.lst ds) ∧ ∃ I : Nat → List D → Prop, I 0 [] ∧
    (∀ i d acc, ds[i]? = some d → I i acc → ∃ up, TgOk w g vs d up ∧ LR w wi (up (wipeG Γ vs)) (S1 ++ [.lst acc]) fun lo n S2 => S2 = S1 ++ [.lst acc] ∧ ∃ J : Nat → List D → Prop, J 0 acc ∧
      (∀ q acc', q < n → J q acc' → ∃ up1, TgOk w g1 vs1 (.int (lo + q)) up1 ∧ LE w te (up1 (wipeG (up (wipeG Γ vs)) vs1)) (S1 ++ [.lst acc']) fun y S3 => S3 = S1 ++ [.lst acc'] ∧ ∃ z, y = .d z ∧ acc'.length < sizeLine ∧ J (q + 1) (acc' ++ [z])) ∧
      (∀ acc', J n acc' → I (i + 1) acc')) ∧ (∀ acc, I ds.length acc → k (.d (.lst acc)) S1)) : LE w (tLc2 (iList w.K tl) g tYes wi g1 tYes te vs vs1) Γ S k := fun σ R H as Q rl s c => by
  refine h σ R H as _ rl s fun vl el S1 R1 H1 as1 rl1 s1 p1 e1 ⟨ds, h1, I, i0, is, iE⟩ => ?_
  subst h1
  cases e1 with
  | lst ha hd =>
    rename_i a xs
    refine ⟨a, rfl, ⟨xs, SqL.of (rl1.sub _ _ ha)⟩, fun Dl hD => ?_⟩
    refine ⟨fun i m H => m = xs.length - i ∧ i ≤ xs.length ∧ LcP w R1 as1 S1.length Dl (fun acc S' => S' = S1 ∧ I i acc) H, ⟨_, rfl, Nat.zero_le _, lc_begin rl1 hD ⟨rfl, i0⟩⟩, ?_⟩
    rintro i m H2 ⟨rfl, hi, p⟩
    obtain ⟨S2, R2, as2, acc, rl2, sb, pr, ha2, hl, rfl, hi2⟩ := p
    have sq : SqL w.K H2 a xs := SqL.of (rl2.sub _ _ (sb _ _ ha))
    by_cases hx : i < xs.length
    · have hx1 : xs[i]? = some xs[i] := List.getElem?_eq_getElem hx
      refine .inr ⟨⟨xs, _, sq, hx1⟩, fun H' => LcP w R1 as1 S2.length Dl (fun acc S' => S' = S2 ∧ I (i + 1) acc) H', fun H' hp => ⟨xs.length - (i + 1), by omega, rfl, hx, hp⟩, ?_⟩
      rintro x _ ⟨rfl, hy⟩
      have hxx := hy xs sq
      obtain ⟨d, hd1, hd2⟩ := hd.get2 hxx
      obtain ⟨up, hu, hg⟩ := is i d acc hd1 hi2
      refine hu σ Γ R2 _ as2 _ x _ rl2 ((s.mono s1 p1).mono sb pr) (hd2.mono sb) fun σ2 st2 hw => ⟨hw, ?_⟩
      unfold tYes
      dsimp only
      rw [if_pos rfl]
      refine hg σ2 R2 _ as2 _ rl2 st2 fun lo n S3 R3 H3 as3 rl3 s3 p3 ⟨q1, J, j0, js, jE⟩ => ?_
      subst q1
      have hD3 := p3 _ _ ha2
      refine ⟨fun q m H => m = n - q ∧ q ≤ n ∧ LcP w R3 as3 S2.length Dl (fun acc' S' => S' = S2 ∧ J q acc') H, ⟨_, rfl, Nat.zero_le _, S2, R3, as3, acc, rl3, Sub.refl _, Pre.refl _, hD3, rfl, rfl, j0⟩, ?_⟩
      rintro q m H4 ⟨rfl, hq, p⟩
      obtain ⟨S4, R4, as4, acc', rl4, sb4, pr4, ha4, hl4, rfl, hj⟩ := p
      by_cases hy2 : q < n
      · refine .inr ⟨hy2, fun H' => LcP w R3 as3 S4.length Dl (fun acc' S' => S' = S4 ∧ J (q + 1) acc') H', fun H' hp => ⟨n - (q + 1), by omega, rfl, hy2, hp⟩, ?_⟩
        intro x' H' hy'
        obtain ⟨eH, eX⟩ := hy'
        subst eH eX
        obtain ⟨up1, hu1, hg1⟩ := js q acc' hy2 hj
        refine hu1 σ2 _ R4 _ as4 _ _ _ rl4 ((st2.mono s3 p3).mono sb4 pr4) (Den.int _) fun σ3 st3 hw3 => ⟨hw3, ?_⟩
        try unfold tYes
        dsimp only
        rw [if_pos rfl]
        refine hg1 σ3 R4 _ as4 _ rl4 st3 fun y ey S5 R5 H5 as5 rl5 s5 p5 e5 ⟨q5, z, q6, hz, hn⟩ => ?_
        subst q5
        subst q6
        have hi5 : (S4 ++ [Own.lst acc'])[S4.length]? = some (.lst acc') := List.getElem?_concat_length
        have ha5 : as5[S4.length]? = some Dl := p5 _ _ ha4
        obtain ⟨⟨zz, vs5, c1, c2⟩, _⟩ := rl5.reg _ _ _ hi5 ha5 (by intro z; cases z)
        refine ⟨vs5, c1, by rw [c2.len]; exact hz, S4, R5, as5, acc' ++ [z], ?_, sb4.trans s5, pr4.trans p5, ha5, rfl, rfl, hn⟩
        have rl6 := rl5.write (o' := .lst (acc' ++ [z])) (u := .lst (vs5 ++ [y])) hi5 ha5 (by intro z; cases z) (by intro z; cases z) ⟨zz, _, upd_same, c2.append (.cons e5 .nil)⟩
        have es : (S4 ++ [Own.lst acc']).set S4.length (.lst (acc' ++ [z])) = S4 ++ [.lst (acc' ++ [z])] := by
          rw [List.set_append_right _ _ (Nat.le_refl _), Nat.sub_self]; rfl
        rw [es] at rl6
        exact rl6
      · have e : q = n := by omega
        subst e
        refine .inl ⟨Nat.le_refl _, ?_⟩
        exact ⟨S4, R4, as4, acc', rl4, (sb.trans s3).trans sb4, (pr.trans p3).trans pr4, ha4, rfl, rfl, jE acc' hj⟩
    · have e : i = xs.length := by omega
      subst e
      refine .inl ⟨⟨xs, sq, Nat.le_refl _⟩, ?_⟩
      rw [hd.len] at hi2
      obtain ⟨acc', S', R', as', q1, q2, q3, q4, q5, q6⟩ := lc_end rl1.len rl1.as0_le (I := fun acc S' => S' = S2 ∧ I ds.length acc) ⟨S2, R2, as2, acc, rl2, sb, pr, ha2, rfl, rfl, hi2⟩
      subst q5
      exact c _ _ S' R' _ as' q1 (s1.trans q2) (p1.trans q3) (ok_d q4) (iE acc' q6)
end
end Gm
namespace Gm
open PySem PySem.Spec PyProof.Rows L2
section
variable {X : Cx}
theorem g_int {x : Str} {i : Int} {t : Tok} {pos : Pos} (hm : X.mg x = some (.int i t)) (hg : Gl X x := by rfl) (hd : (x == ("__debug__" : Str)) = false := by decide) : PE X (.Name x pos) (tC (.int i)) := pe_glob hg hm ⟨t, rfl⟩ hd
theorem b_sumB (K : PySem.W.Frag) {e : Expr} {te : TE} {p pos : Pos} (hm : X.mg "sum" = none) (he : PE X e te) (hK : X.K = K := by rfl) (hc : X.calm = true := by rfl) (hg : Gl X "sum" := by rfl) (hs : starEach [e] X.env = (false, eval e X.env) :: starEach [] X.env := by rfl) : PE X (.Call (.Name "sum" p) [e] [] pos) (tCB (rSum K) (tCons te tNil)) := by
  subst hK
  exact pe_callB (cr_sum hc) hg hm (by decide +kernel) (pa_cons he pa_nil hs) (he := hs)
theorem pi_tupB (K : PySem.W.Frag) {tg l : Expr} {tl : TE} (hl : PE X l tl) (hK : X.K = K := by rfl) : PI X tg l (iTup K tl) := by
  subst hK; exact pi_tup hl
end
theorem rc_sumI {w : Wd} {S : List Own} {k : KE} {x : Ent} {s : List Int} (hx : IsLst x S (s.map D.int)) (q : k (.d (.int s.sum)) S) : RC w (rSum w.K) [x] S k := fun R H as us Q rl hu c => by
  obtain ⟨v, rfl, hv⟩ := one_ent hu
  obtain ⟨a, rfl, h⟩ := lst_ints (K := w.K) hx rl hv
  exact ⟨a, s, rfl, h, c _ _ S R H as rl (Sub.refl _) (Pre.refl _) (ok_d (Den.int _)) q⟩
end Gm
namespace Gm
open PySem PySem.Spec PyProof.Rows L2
/-- repr of None, too -/
def gReprN (K : PySem.W.Frag) : List V → Hp → VK → Prop := fun xs H Q => (xs = [.non] ∧ Q (.str "None") H) ∨ gRepr K xs H Q
theorem c_reprN {X : Cx} (hg : X.A.guards = some []) (hu : X.A.units + 64 < cLine) : CallR X (.builtin "repr") (gReprN X.K) := by
  intro pins s σ H xs us Q I r h
  rcases h with ⟨rfl, q⟩ | h
  · obtain ⟨u, rfl, ru⟩ := r.one
    cases ru
    exact PySem.P.repr_of_none ⟨.str "None", H, I.tok _, ⟨_, rfl⟩, q⟩
  · exact c_repr hg hu pins s σ H xs us Q I r h
theorem b_reprN {X : Cx} {e : Expr} {te : TE} {p pos : Pos} (hgu : X.A.guards = some []) (hu : X.A.units + 64 < cLine) (hm : X.mg "repr" = none) (h1 : PE X e te) (hK : X.calm = true := by rfl)
    (hg : Gl X "repr" := by rfl) (hs : starEach [e] X.env = (false, eval e X.env) :: starEach [] X.env := by rfl) (hpl : (backTo pos (starEach [] X.env)).any (·.1) = false := by rfl) :
    PE X (.Call (.Name "repr" p) [e] [] pos) (tCB (gReprN X.K) (tCons te tNil)) :=
  pe_callB (c_reprN hgu hu) hg hm (by decide +kernel) (pa_cons h1 pa_nil hs) (he := hs) (hpl := hpl)
section
variable {w : Wd} {Γ : Env} {S : List Own} {k : KE}
theorem rc_reprNo (q : k (.d (.str "None")) S) : RC w (gReprN w.K) [.d .non] S k := fun R H as us Q rl hu c => by
  obtain ⟨v, rfl, hv⟩ := one_ent hu
  have hv' : Den w.K R v .non := hv
  cases hv'
  exact .inl ⟨rfl, c _ _ S R H as rl (Sub.refl _) (Pre.refl _) (ok_d (Den.str _)) q⟩
theorem rc_reprNd {x : Ent} (h : RC w (gRepr w.K) [x] S k) : RC w (gReprN w.K) [x] S k := fun R H as us Q rl hu c => .inr (h R H as us Q rl hu c)
end
end Gm
namespace Gm
open PySem PySem.Spec PyProof.Rows L2
theorem blkOk_any {N : List Str} {sc scope : Scope} {own : List (Str × Nat)} (h : blkC N scope scope own = true) (hf : (scope.names.all fun y => match y.2 with | .free => false | _ => true) = true) : BlkOk N sc scope own := by
  obtain ⟨h1, h2, h3, h4, h5⟩ := blkOk_by h
  refine ⟨h1, h2, h3, fun y hy e => ?_, h5⟩
  have := List.all_eq_true.mp hf y hy
  rw [e] at this; cases this
end Gm
namespace L2
open PySem PySem.Spec PyProof.Rows
/-- t * k, k once, too -/
def rRepTE (K : PySem.W.Frag) : R2 := fun x y H Q => ∃ l k xs, x = .ref l ∧ y = .int k ∧ SqT K H l xs ∧ xs ≠ [] ∧ 1 ≤ k ∧ k ≤ 1000 ∧ xs.length ≤ 1000 ∧ (k = 1 → Q (.ref l) H) ∧ (2 ≤ k → ∀ p, H p = none → Q (.ref p) (upd H p (.tup (List.replicate k.toNat xs).flatten)))
theorem tuple_mulW1 (l : Addr) (items : Array Value) (n : Nat) (dd : Option Addr) (sl : Array (Option Value)) (x : Int) (u : Tok) (c0 : (decide (x < -(2 ^ 63)) || decide (x ≥ 2 ^ 63)) = false) (c1 : (items.isEmpty || x == 1) = true) :
    Meets (Builtin.«tuple.__mul__» ⟨[.ref l, .int x u], []⟩) (fun _ R s => s.heap.get? l = some { cls := .type "tuple", dict := dd, data := .seq items n, slots := sl } ∧ R (.ok (.ret (Value.ref l))) { s with heap := s.heap, toks := s.toks }) :=
  .of_wp fun prog w A R s h => by
    obtain ⟨hp, g, d, tk, os⟩ := s
    obtain ⟨hl, h⟩ := h
    have f1 := AutoSeq1.idx_int
    have f2 := AutoSeq1.sub_tuple_tuple
    wp_walk using wpAny_loadPart' hl
    repeat (first
      | (refine wpAny_ite_false (decide_eq_false (by rw [c0]; exact Bool.false_ne_true)) ?_; wp_walk using wpAny_loadPart' hl)
      | (refine wpAny_ite_true (decide_eq_true (by rw [c1])) ?_; wp_walk using wpAny_loadPart' hl))
    exact ⟨_, rfl, h⟩
section
variable {X : Cx}
theorem op_repTE : OpR X (binaryOp .Mult) (rRepTE X.K) := by
  intro pins s σ H x y v u Q I rx ry h
  obtain ⟨l, k, xs, rfl, rfl, hT, hne, h1, h2, hz, q1, q2⟩ := h
  by_cases hk : k = 1
  · subst hk
    cases rx
    obtain ⟨t, rfl⟩ := ry
    obtain ⟨its, r, ⟨⟨cls, dd, data, sl⟩, ho, hc, n, hd⟩, hs⟩ := I.tuple hT
    simp only at hc hd
    subst hc hd
    have c0 : (decide ((1 : Int) < -(2 ^ 63)) || decide ((1 : Int) ≥ 2 ^ 63)) = false := by decide
    have c1 : (its.toArray.isEmpty || (1 : Int) == 1) = true := by simp
    exact wpAny_binaryOp_repeat_ref (T := "tuple") (U := "int") (by decide) ⟨_, ho, rfl⟩ (fun s' => typeIs_int s' 1 t) noFill_tuple_mul F.fills_int_mul F.slot_int_rmul repeat_tuple F.slot_int_index.lookup
      (call_meets F.slot_int_rmul (typeIs_int s 1 t) F.entry_int_rmul (F.args_int_rmul_2 _ _) (int_rmul_tuple 1 t l its.toArray n dd sl)
        ⟨ho, rfl, ⟨_, ho, rfl⟩, call_meets F.slot_tuple_mul ⟨_, ho, rfl⟩ F.entry_tuple_mul (F.args_tuple_mul_2 _ _) (tuple_mulW1 l its.toArray n dd sl 1 t c0 c1) ⟨ho, ⟨.ref l, H, I, rfl, q1 rfl⟩⟩⟩)
  · exact op_repT pins s σ H _ _ v u Q I rx ry ⟨l, k, xs, rfl, rfl, hT, hne, by omega, h2, hz, q2 (by omega)⟩
end
end L2
namespace Gm
open PySem PySem.Spec PyProof.Rows L2
theorem dens_repT {K : PySem.W.Frag} {R : Hp} {vs : List V} {ds : List D} (h : Dens K R vs ds) : ∀ n : Nat, Dens K R (List.replicate n vs).flatten (List.replicate n ds).flatten
  | 0 => .nil
  | n + 1 => by rw [List.replicate_succ, List.replicate_succ, List.flatten_cons, List.flatten_cons]; exact h.append (dens_repT h n)
theorem rr_repTE {w : Wd} {S : List Own} {k : KE} {xs : List D} {n : Int} (hn : xs ≠ []) (h0 : 1 ≤ n) (h1 : n ≤ 1000) (hl : xs.length ≤ 1000) (q : k (.d (.tup (List.replicate n.toNat xs).flatten)) S) : RR w (rRepTE w.K) (.d (.tup xs)) (.d (.int n)) S k := fun R H as u v Q rl hu hv c => by
  cases hv
  cases hu with
  | tup h1' h2' =>
    rename_i a vs
    refine ⟨a, n, vs, rfl, rfl, SqT.of (rl.sub _ _ h1'), fun z => hn ?_, h0, h1, by rw [h2'.len]; exact hl, fun z => ?_, fun z p hp => ?_⟩
    · subst z; cases h2'; rfl
    · subst z
      have e : (List.replicate (1 : Int).toNat xs).flatten = xs := by simp
      rw [e] at q
      exact c _ _ S R H as rl (Sub.refl _) (Pre.refl _) (ok_d (Den.tup h1' h2')) q
    · obtain ⟨rl2, s2⟩ := rl.alloc hp (.tup (List.replicate n.toNat vs).flatten)
      exact c _ _ S _ _ as rl2 s2 (Pre.refl _) (ok_d (Den.tup upd_same ((dens_repT h2' _).mono s2))) q
end Gm
/-! a tuple whose last item is a list that is called by its address; such a list in operations, built-ins, comprehensions, slices -/
namespace Gm
open PySem PySem.Spec PyProof.Rows L2
section
variable {w : Wd} {R H : Hp} {as : List Addr} {Γ : Env} {S : List Own} {k : KE} {G : GE} {te : TE}
theorem ents_densL {K : PySem.W.Frag} {i : Nat} {a : Addr} (ha : as[i]? = some a) : ∀ {ds : List D} {vs : List V}, EntsOk K R as vs (ds.map Ent.d ++ [.own i]) → Dens K R vs (ds ++ [.cls a])
  | [], [v], h => by
    obtain ⟨⟨b, hb, rfl⟩, _⟩ := h
    rw [ha] at hb
    cases hb
    exact .cons (Den.cls _) .nil
  | [], [], h => h.elim
  | [], v :: u :: vs, h => h.2.elim
  | d :: ds, v :: vs, h => .cons h.1 (ents_densL ha h.2)
  | d :: ds, [], h => h.elim
theorem dens_entsL {K : PySem.W.Frag} {i : Nat} {a : Addr} (ha : as[i]? = some a) : ∀ {ds : List D} {vs : List V}, Dens K R vs (ds ++ [.cls a]) → EntsOk K R as vs (ds.map Ent.d ++ [.own i])
  | [], vs, h => by
    cases h with
    | cons h1 h2 =>
      cases h2
      cases h1
      exact ⟨⟨a, ha, rfl⟩, trivial⟩
  | d :: ds, vs, h => by
    cases h with
    | cons h1 h2 => exact ⟨h1, dens_entsL ha h2⟩
/-- a new tuple whose last item is a new list: the list is called by its address -/
theorem rs_tupLat {f : DS} {E : XK} {es : List Ent} (h : RS w f E es S fun e S1 => ∃ (i : Nat) (xs ds : List D), e = .tup (ds.map Ent.d ++ [.own i]) ∧ S1[i]? = some (.lst xs) ∧ ∀ g, k (.d (.tup (ds ++ [.cls g]))) (S1.set i (.lat g xs))) : RS w f E es S k := fun R H as vs Q rl ev c =>
  h R H as vs Q rl ev fun v e S' R' H' as' r s p ok ⟨i, xs, ds, he, hi, hk⟩ => by
    subst he
    obtain ⟨a, us, rfl, h1, h2⟩ := ok
    obtain ⟨b, hb⟩ := r.own hi
    exact c _ (.d (.tup (ds ++ [.cls b]))) _ R' H' as' (r.toLat hi hb) s p (Den.tup h1 (ents_densL hb h2)) (hk b)
theorem rr_latL {r : V → V → Hp → VK → Prop} {i : Nat} {g : Addr} {xs : List D} {y : Ent} (hi : S[i]? = some (.lat g xs)) (h : RR w r (.own i) y (S.set i (.lst xs)) fun e S1 => ∃ ys, S1[i]? = some (.lst ys) ∧ k e (S1.set i (.lat g ys))) : RR w r (.d (.cls g)) y S k := fun R H as u v Q rl hu hv c => by
  cases hu
  obtain ⟨ha, r2⟩ := rl.toLst hi
  refine h R H as _ v Q r2 ⟨g, ha, rfl⟩ hv fun v e S' R' H' as' r' s p ok ⟨ys, hy, hk⟩ => ?_
  exact c v e _ R' H' as' (r'.toLat hy (p _ _ ha)) s p ok hk
theorem rr_latR {r : V → V → Hp → VK → Prop} {i : Nat} {g : Addr} {xs : List D} {x : Ent} (hi : S[i]? = some (.lat g xs)) (h : RR w r x (.own i) (S.set i (.lst xs)) fun e S1 => ∃ ys, S1[i]? = some (.lst ys) ∧ k e (S1.set i (.lat g ys))) : RR w r x (.d (.cls g)) S k := fun R H as u v Q rl hu hv c => by
  cases hv
  obtain ⟨ha, r2⟩ := rl.toLst hi
  refine h R H as u _ Q r2 hu ⟨g, ha, rfl⟩ fun v e S' R' H' as' r' s p ok ⟨ys, hy, hk⟩ => ?_
  exact c v e _ R' H' as' (r'.toLat hy (p _ _ ha)) s p ok hk
theorem rr_tupLatR {r : V → V → Hp → VK → Prop} {i : Nat} {g : Addr} {xs : List D} {ds : List D} {x : Ent} (hi : S[i]? = some (.lat g xs)) (h : RR w r x (.tup (ds.map Ent.d ++ [.own i])) (S.set i (.lst xs)) fun e S1 => ∃ ys, S1[i]? = some (.lst ys) ∧ k e (S1.set i (.lat g ys))) : RR w r x (.d (.tup (ds ++ [.cls g]))) S k := fun R H as u v Q rl hu hv c => by
  obtain ⟨ha, r2⟩ := rl.toLst hi
  have hv2 : EntOk w.K R as v (.tup (ds.map Ent.d ++ [.own i])) := by
    cases (show Den w.K R v (.tup (ds ++ [.cls g])) from hv) with
    | tup h1 h2 => exact ⟨_, _, rfl, h1, dens_entsL ha h2⟩
  refine h R H as u v Q r2 hu hv2 fun v e S' R' H' as' r' s p ok ⟨ys, hy, hk⟩ => ?_
  exact c v e _ R' H' as' (r'.toLat hy (p _ _ ha)) s p ok hk
theorem rc_lat {r : List V → Hp → VK → Prop} {i : Nat} {g : Addr} {xs : List D} {es : List Ent} (hi : S[i]? = some (.lat g xs)) (h : RC w r (.own i :: es) (S.set i (.lst xs)) fun e S1 => ∃ ys, S1[i]? = some (.lst ys) ∧ k e (S1.set i (.lat g ys))) : RC w r (.d (.cls g) :: es) S k := fun R H as vs Q rl ev c => by
  obtain ⟨ha, r2⟩ := rl.toLst hi
  refine h R H as vs Q r2 ?_ fun v e S' R' H' as' r' s p ok ⟨ys, hy, hk⟩ => ?_
  · match vs, ev with
    | v :: vs, ⟨h1, h2⟩ => cases h1; exact ⟨⟨g, ha, rfl⟩, h2⟩
  · exact c v e _ R' H' as' (r'.toLat hy (p _ _ ha)) s p ok hk
/-- the slice of a list that may be called by its address -/
theorem le_slLat {tl th : TO} (h : LE w te Γ S fun x S1 => LO w tl Γ S1 fun lo S2 => LO w th Γ S2 fun hi S3 => ∃ ds, IsLat x S3 ds ∧ k (.d (.lst (cutD ds lo hi))) S3) : LE w (tSl (rSlL w.K) te tl th) Γ S k := fun σ R H as Q rl s c => by
  refine h σ R H as _ rl s fun v x S1 R1 H1 as1 rl1 s1 p1 e1 h1 => ?_
  refine h1 σ R1 H1 as1 _ rl1 (s.mono s1 p1) fun lo S2 R2 H2 as2 rl2 s2 p2 h2 => ?_
  refine h2 σ R2 H2 as2 _ rl2 (s.mono (s1.trans s2) (p1.trans p2)) fun hi S3 R3 H3 as3 rl3 s3 p3 ⟨ds, h3, h4⟩ => ?_
  obtain ⟨a, vs, rfl, q2, q3⟩ := isLat_at h3 rl3 ((e1.mono s2 p2).mono s3 p3)
  refine ⟨a, vs, rfl, SqL.of q2, fun p hp => ?_⟩
  obtain ⟨rl4, s4⟩ := rl3.alloc hp (.lst (cutV vs lo hi))
  exact c _ _ S3 _ _ as3 rl4 (((s1.trans s2).trans s3).trans s4) ((p1.trans p2).trans p3) (ok_d (Den.lst upd_same ((cut_dens q3 lo hi).mono s4))) h4
/-- a comprehension over a list of ints that is called by its address -/
theorem le_lcLat {tl : TE} {v : Nat} {tt : TT} (h : LE w tl Γ S fun e S1 => ∃ (ga : Addr) (i0 : Nat) (ns : List Int), e = .d (.cls ga) ∧ S1[i0]? = some (Own.lat ga (ns.map D.int)) ∧ ∃ I : Nat → List D → List Own → Prop, I 0 [] S1 ∧ (∀ i acc S2, I i acc S2 → S2[i0]? = some (Own.lat ga (ns.map D.int))) ∧
    (∀ i n acc S2, ns[i]? = some n → S2.length = S1.length → I i acc S2 → LcT w Γ v tt te (.int n) acc S2 (I (i + 1))) ∧ (∀ acc S2, S2.length = S1.length → I ns.length acc S2 → k (.d (.lst acc)) S2)) : LE w (tLc (iList w.K tl) (gName v) tt te [v]) Γ S k := fun σ R H as Q rl s c => by
  refine h σ R H as _ rl s fun vl el S1 R1 H1 as1 rl1 s1 p1 e1 ⟨ga, i0, ns, h1, hS, I, i0', ik, is, iE⟩ => ?_
  subst h1
  cases e1
  have at_ : ∀ {R' H' : Hp} {as' : List Addr} {S' : List Own}, Rel w R' H' as' S' → S'[i0]? = some (Own.lat ga (ns.map D.int)) → SqL w.K H' ga (ns.map V.int) := fun r hs => by
    obtain ⟨a, ha⟩ := r.own hs
    obtain ⟨⟨rfl, z, vs, c1, c2⟩, _⟩ := r.reg _ _ _ hs ha (by intro z; cases z)
    rw [← Dens.ints c2]; exact SqL.of c1
  refine ⟨ga, rfl, ⟨ns.map V.int, at_ rl1 hS⟩, fun Dl hD => ?_⟩
  have old : ∀ {S2 : List Own} {acc : List D}, S2[i0]? = some (Own.lat ga (ns.map D.int)) → (S2 ++ [Own.lst acc])[i0]? = some (Own.lat ga (ns.map D.int)) := fun {S2 acc} hs => by
    rw [List.getElem?_append_left (List.getElem?_eq_some_iff.mp hs).1]; exact hs
  refine lc_list (xs := ns.map V.int) (fun i H => LcP w R1 as1 S1.length Dl (I i) H) (lc_begin rl1 hD i0') (fun i H2 hi p => ?_) (fun i x H2 hx p => ?_) fun H2 p => ?_
  · obtain ⟨S2, R2, as2, acc, rl2, sb, pr, ha2, hl, hi2⟩ := p
    exact at_ rl2 (old (ik _ _ _ hi2))
  · obtain ⟨S2, R2, as2, acc, rl2, sb, pr, ha2, hl, hi2⟩ := p
    rw [List.getElem?_map, Option.map_eq_some_iff] at hx
    obtain ⟨n, hn, rfl⟩ := hx
    have := lc_turn (Dl := Dl) (s.mono s1 p1) rl2 sb pr ha2 (Den.int n) (is i n acc S2 hn hl hi2)
    rw [hl] at this
    exact this
  · rw [List.length_map] at p
    obtain ⟨S2, R2, as2, acc, rl2, sb, pr, hD2, hl, hi⟩ := p
    have hg : (S2 ++ [Own.lst acc])[S2.length]? = some (.lst acc) := List.getElem?_concat_length
    obtain ⟨⟨z, vs, c1, c2⟩, _⟩ := rl2.reg _ _ _ hg hD2 (by intro z; cases z)
    obtain ⟨rl3, s3⟩ := rl2.freeze hg hD2 (by intro z; cases z) c1
    have es : (S2 ++ [Own.lst acc]).set S2.length .gone = S2 ++ [.gone] := by
      rw [List.set_append_right _ _ (Nat.le_refl _), Nat.sub_self]; rfl
    rw [es] at rl3
    refine c _ _ S2 _ _ _ (rl3.pop (by rw [hl]; exact rl1.as0_le)) (s1.trans (sb.trans s3)) (p1.trans fun i b hb => ?_) (ok_d (.lst upd_same (c2.mono s3))) (iE acc S2 hl hi)
    have hil := (List.getElem?_eq_some_iff.mp hb).1
    rw [List.getElem?_take, if_pos (by rw [hl, ← rl1.len]; exact hil)]
    exact pr i b hb
theorem le_bmLat0 {r : V → List V → Hp → VK → Prop} (h : LE w te Γ S fun x S1 => (∃ (i : Nat) (g : Addr) (ds : List D), x = Ent.d (.cls g) ∧ S1[i]? = some (Own.lat g ds)) ∧ RM w r x [] S1 k) : LE w (tBM0 w.K "list" r te) Γ S k := fun σ R H as Q rl s c => by
  refine h σ R H as _ rl s fun v x S1 R1 H1 as1 rl1 s1 p1 e1 ⟨⟨i, g, ds, h1, h2⟩, h3⟩ => ?_
  subst h1
  cases e1
  obtain ⟨a, ha⟩ := rl1.own h2
  obtain ⟨⟨rfl, z, vs, c1, c2⟩, _⟩ := rl1.reg i _ a h2 ha (by intro z; cases z)
  refine ⟨.inl ⟨rfl, vs, SqL.of c1⟩, ?_⟩
  exact h3 R1 H1 as1 _ _ Q rl1 (ok_d (Den.cls _)) trivial fun v' e' S' R' H' as' a1 a2 a3 a4 a5 => c v' e' S' R' H' as' a1 (s1.trans a2) (p1.trans a3) a4 a5
end
end Gm
/-! methods of texts, their signs and slices, int of a text -/
namespace Gm
open PySem PySem.Spec L2
/-! a comprehension over the signs of a text -/
theorem lc_str {z : Str} {g : TG} {tt : TT} {tx : TE} {us : List Nat} {σ0 : St} {Hs : Hp} {L : Addr} {End : Hp → Prop} (J : Nat → Hp → Prop) (j0 : J 0 (upd Hs L (.lst []))) (step : ∀ i c H, z.cps[i]? = some c → J i H → g (.str ⟨#[c]⟩) (wipe σ0 us) H fun σ1 Ha => wipe σ1 us = wipe σ0 us ∧ tt σ1 Ha fun b Hb => if b = true then tx σ1 Hb fun y Hc => ∃ acc, Hc L = some (.lst acc) ∧ acc.length < sizeLine ∧ J (i + 1) (upd Hc L (.lst (acc ++ [y]))) else J (i + 1) Hb) (fin : ∀ H, J z.cps.size H → End H) : ∃ W : Nat → Nat → Hp → Prop, (∃ m, W 0 m (upd Hs L (.lst []))) ∧ ∀ i m H, W i m H → ((Its z).stop i H ∧ End H) ∨ ((Its z).go i H ∧ ∃ N : Hp → Prop, (∀ Hn, N Hn → ∃ m', m' < m ∧ W (i + 1) m' Hn) ∧ ∀ x Hy, (Its z).yld i H x Hy → g x (wipe σ0 us) Hy fun σ1 Ha => wipe σ1 us = wipe σ0 us ∧ tt σ1 Ha fun b Hb => if b = true then tx σ1 Hb fun y Hc => ∃ acc, Hc L = some (.lst acc) ∧ acc.length < sizeLine ∧ N (upd Hc L (.lst (acc ++ [y]))) else N Hb) := by
  refine ⟨fun i m H => m = z.cps.size - i ∧ i ≤ z.cps.size ∧ J i H, ⟨z.cps.size, by simp, Nat.zero_le _, j0⟩, ?_⟩
  rintro i m H ⟨rfl, hi, hJ⟩
  by_cases lt : i < z.cps.size
  · refine .inr ⟨lt, J (i + 1), fun Hn hn => ⟨z.cps.size - (i + 1), by omega, rfl, lt, hn⟩, fun x Hy ⟨e, cc, hc, ex⟩ => ?_⟩
    subst e ex
    exact step i cc _ hc hJ
  · have ei : i = z.cps.size := by omega
    subst ei
    exact .inl ⟨Nat.le_refl _, fin H hJ⟩
section
variable {w : Wd} {Γ : Env} {S : List Own} {k : KE} {te td : TE}
theorem le_lcStr {tl : TE} {v : Nat} {tt : TT} (h : LE w tl Γ S fun e S1 => ∃ z : Str, e = .d (.str z) ∧ ∃ I : Nat → List D → List Own → Prop, I 0 [] S1 ∧
    (∀ i c acc S2, z.cps[i]? = some c → S2.length = S1.length → I i acc S2 → LcT w Γ v tt te (.str ⟨#[c]⟩) acc S2 (I (i + 1))) ∧ (∀ acc S2, I z.cps.size acc S2 → k (.d (.lst acc)) S2)) : LE w (tLc (iStr tl) (gName v) tt te [v]) Γ S k := fun σ R H as Q rl s c => by
  refine h σ R H as _ rl s fun vl el S1 R1 H1 as1 rl1 s1 p1 e1 ⟨z, h1, I, i0, is, iE⟩ => ?_
  subst h1
  cases e1
  refine ⟨z, rfl, fun Dl hD => ?_⟩
  refine lc_str (fun i H => LcP w R1 as1 S1.length Dl (I i) H) (lc_begin rl1 hD i0) (fun i cc H2 hc p => ?_) fun H2 p => ?_
  · obtain ⟨S2, R2, as2, acc, rl2, sb, pr, ha, hl, hi2⟩ := p
    have := lc_turn (Dl := Dl) (s.mono s1 p1) rl2 sb pr ha (Den.str ⟨#[cc]⟩) (is i cc acc S2 hc hl hi2)
    rw [hl] at this
    exact this
  · obtain ⟨acc, S', R', as', q1, q2, q3, q4, q5⟩ := lc_end rl1.len rl1.as0_le p
    exact c _ _ S' R' _ as' q1 (s1.trans q2) (p1.trans q3) (ok_d q4) (iE acc S' q5)
/-! methods -/
theorem le_bmS {r : V → List V → Hp → VK → Prop} {t : TA} (h : LE w td Γ S fun x S1 => ∃ a : Str, x = .d (.str a) ∧ LA w t Γ S1 fun xs S2 => RM w r x xs S2 k) : LE w (tBM w.K "str" r td t) Γ S k := fun σ R H as Q rl s c => by
  refine h σ R H as _ rl s fun v x S1 R1 H1 as1 rl1 s1 p1 e1 ⟨a, h1, h3⟩ => ?_
  subst h1
  cases e1
  refine ⟨rfl, ?_⟩
  refine h3 σ R1 H1 as1 _ rl1 (s.mono s1 p1) fun vs es S2 R2 H2 as2 rl2 s2 p2 e2 h4 => ?_
  exact h4 R2 H2 as2 _ _ Q rl2 (ok_d (Den.str _)) e2 fun v' e' S' R' H' as' a1 a2 a3 a4 a5 => c v' e' S' R' H' as' a1 ((s1.trans s2).trans a2) ((p1.trans p2).trans a3) a4 a5
theorem le_bmS0 {r : V → List V → Hp → VK → Prop} (h : LE w td Γ S fun x S1 => ∃ a : Str, x = .d (.str a) ∧ RM w r x [] S1 k) : LE w (tBM0 w.K "str" r td) Γ S k := fun σ R H as Q rl s c => by
  refine h σ R H as _ rl s fun v x S1 R1 H1 as1 rl1 s1 p1 e1 ⟨a, h1, h3⟩ => ?_
  subst h1
  cases e1
  refine ⟨rfl, ?_⟩
  exact h3 R1 H1 as1 _ _ Q rl1 (ok_d (Den.str _)) trivial fun v' e' S' R' H' as' a1 a2 a3 a4 a5 => c v' e' S' R' H' as' a1 (s1.trans a2) (p1.trans a3) a4 a5
def sIsascii : V → List V → Hp → VK → Prop := fun x xs H Q => ∃ a, x = .str a ∧ xs = [] ∧ True ∧ Q (.bl (Txt.isascii a)) H
def sIsdigit : V → List V → Hp → VK → Prop := fun x xs H Q => ∃ a, x = .str a ∧ xs = [] ∧ True ∧ Q (.bl (Txt.isdigit a)) H
def sUpper : V → List V → Hp → VK → Prop := fun x xs H Q => ∃ a, x = .str a ∧ xs = [] ∧ a.length ≤ 5592405 ∧ Q (.str (Txt.upper a)) H
def sRfind : V → List V → Hp → VK → Prop := fun x xs H Q => ∃ a b, x = .str a ∧ xs = [.str b] ∧ Q (.int (Txt.rfind a b)) H
def sStarts : V → List V → Hp → VK → Prop := fun x xs H Q => ∃ a b, x = .str a ∧ xs = [.str b] ∧ Q (.bl (Txt.startswith a b)) H
def sSplit : V → List V → Hp → VK → Prop := fun x xs H Q => ∃ a b, x = .str a ∧ xs = [.str b] ∧ (b.length == 0) = false ∧ a.length + 2 ≤ sizeLine ∧ rNewStrs (Txt.split a b) H Q
theorem mtS_isascii {X : Cx} : MtR X "str.isascii" sIsascii := mt_isascii
theorem mtS_isdigit {X : Cx} : MtR X "str.isdigit" sIsdigit := mt_isdigit
theorem mtS_upper {X : Cx} : MtR X "str.upper" sUpper := mt_upper
theorem mtS_rfind {X : Cx} : MtR X "str.rfind" sRfind := mt_rfind
theorem mtS_startswith {X : Cx} : MtR X "str.startswith" sStarts := mt_startswith
theorem mtS_split {X : Cx} : MtR X "str.split" sSplit := mt_split
theorem rm_isascii {a : Str} (q : k (.d (.bl (Txt.isascii a))) S) : RM w sIsascii (.d (.str a)) [] S k := fun R H as u us Q rl hu hus c => by
  cases hu
  match us, hus with
  | [], _ => exact ⟨a, rfl, rfl, trivial, c _ _ S R H as rl (Sub.refl _) (Pre.refl _) (ok_d (Den.bl _)) q⟩
theorem rm_isdigit {a : Str} (q : k (.d (.bl (Txt.isdigit a))) S) : RM w sIsdigit (.d (.str a)) [] S k := fun R H as u us Q rl hu hus c => by
  cases hu
  match us, hus with
  | [], _ => exact ⟨a, rfl, rfl, trivial, c _ _ S R H as rl (Sub.refl _) (Pre.refl _) (ok_d (Den.bl _)) q⟩
theorem rm_upper {a : Str} (hl : a.length ≤ 5592405) (q : k (.d (.str (Txt.upper a))) S) : RM w sUpper (.d (.str a)) [] S k := fun R H as u us Q rl hu hus c => by
  cases hu
  match us, hus with
  | [], _ => exact ⟨a, rfl, rfl, hl, c _ _ S R H as rl (Sub.refl _) (Pre.refl _) (ok_d (Den.str _)) q⟩
theorem rm_rfind {a b : Str} (q : k (.d (.int (Txt.rfind a b))) S) : RM w sRfind (.d (.str a)) [.d (.str b)] S k := fun R H as u us Q rl hu hus c => by
  cases hu
  match us, hus with
  | [v], ⟨hv, _⟩ => cases hv; exact ⟨a, b, rfl, rfl, c _ _ S R H as rl (Sub.refl _) (Pre.refl _) (ok_d (Den.int _)) q⟩
theorem rm_starts {a b : Str} (q : k (.d (.bl (Txt.startswith a b))) S) : RM w sStarts (.d (.str a)) [.d (.str b)] S k := fun R H as u us Q rl hu hus c => by
  cases hu
  match us, hus with
  | [v], ⟨hv, _⟩ => cases hv; exact ⟨a, b, rfl, rfl, c _ _ S R H as rl (Sub.refl _) (Pre.refl _) (ok_d (Den.bl _)) q⟩
theorem dens_strs {K : PySem.W.Frag} {R : Hp} : ∀ ys : List Str, Dens K R (ys.map V.str) (ys.map D.str)
  | [] => .nil
  | y :: ys => .cons (Den.str y) (dens_strs ys)
theorem rm_split {a b : Str} (hb : (b.length == 0) = false) (hl : a.length + 2 ≤ sizeLine) (q : k (.d (.lst ((Txt.split a b).map D.str))) S) : RM w sSplit (.d (.str a)) [.d (.str b)] S k := fun R H as u us Q rl hu hus c => by
  cases hu
  match us, hus with
  | [v], ⟨hv, _⟩ =>
    cases hv
    refine ⟨a, b, rfl, rfl, hb, hl, fun p hp => ?_⟩
    obtain ⟨rl2, s2⟩ := rl.alloc hp (.lst ((Txt.split a b).map V.str))
    exact c _ _ S _ _ as rl2 s2 (Pre.refl _) (ok_d (Den.lst upd_same ((dens_strs _).mono s2))) q
theorem rm_splitO {a b : Str} (hb : (b.length == 0) = false) (hl : a.length + 2 ≤ sizeLine) (q : k (.own S.length) (S ++ [.lst ((Txt.split a b).map D.str)])) : RM w sSplit (.d (.str a)) [.d (.str b)] S k := fun R H as u us Q rl hu hus c => by
  cases hu
  match us, hus with
  | [v], ⟨hv, _⟩ =>
    cases hv
    refine ⟨a, b, rfl, rfl, hb, hl, fun p hp => ?_⟩
    have rl2 := rl.allocO hp (.lst ((Txt.split a b).map V.str)) (o := .lst ((Txt.split a b).map D.str)) ⟨(rl.fresh hp).1, _, upd_same, dens_strs _⟩
    exact c _ _ _ _ _ _ rl2 (Sub.refl _) (Pre.app _ _) (ok_own (by rw [← rl.len]; exact List.getElem?_concat_length)) q
/-! signs, slices, int -/
def gInS : V → V → Hp → VK → Prop := fun x y H Q => ∃ (c : Nat) (z : Str), x = .str ⟨#[c]⟩ ∧ y = .str z ∧ Q (.bl (decide (c ∈ z.cps.toList))) H
def gNiS : V → V → Hp → VK → Prop := fun x y H Q => ∃ (c : Nat) (z : Str), x = .str ⟨#[c]⟩ ∧ y = .str z ∧ Q (.bl (!decide (c ∈ z.cps.toList))) H
theorem op_inS {X : Cx} : OpR X (compareOp .In) gInS := op_in_sign
theorem op_niS {X : Cx} : OpR X (compareOp .NotIn) gNiS := op_notIn_sign
theorem rr_inSg {n : Nat} {z : Str} (q : k (.d (.bl (decide (n ∈ z.cps.toList)))) S) : RR w gInS (.d (.str ⟨#[n]⟩)) (.d (.str z)) S k := fun R H as u v Q rl hu hv c => by
  cases hu; cases hv
  exact ⟨n, z, rfl, rfl, c _ _ S R H as rl (Sub.refl _) (Pre.refl _) (ok_d (Den.bl _)) q⟩
theorem rr_niSg {n : Nat} {z : Str} (q : k (.d (.bl (!decide (n ∈ z.cps.toList)))) S) : RR w gNiS (.d (.str ⟨#[n]⟩)) (.d (.str z)) S k := fun R H as u v Q rl hu hv c => by
  cases hu; cases hv
  exact ⟨n, z, rfl, rfl, c _ _ S R H as rl (Sub.refl _) (Pre.refl _) (ok_d (Den.bl _)) q⟩
theorem le_slS2 {tl th : TO} (h : LE w te Γ S fun x S1 => LO w tl Γ S1 fun lo S2 => LO w th Γ S2 fun hi S3 => ∃ z : Str, x = .d (.str z) ∧ z.length ≤ sizeLine ∧ k (.d (.str (cutS z lo hi))) S3) : LE w (tSl rSlS te tl th) Γ S k := fun σ R H as Q rl s c => by
  refine h σ R H as _ rl s fun v x S1 R1 H1 as1 rl1 s1 p1 e1 h1 => ?_
  refine h1 σ R1 H1 as1 _ rl1 (s.mono s1 p1) fun lo S2 R2 H2 as2 rl2 s2 p2 h2 => ?_
  refine h2 σ R2 H2 as2 _ rl2 (s.mono (s1.trans s2) (p1.trans p2)) fun hi S3 R3 H3 as3 rl3 s3 p3 ⟨z, h3, hl, h4⟩ => ?_
  subst h3
  cases e1
  exact ⟨z, rfl, hl, c _ _ S3 _ _ as3 rl3 ((s1.trans s2).trans s3) ((p1.trans p2).trans p3) (ok_d (Den.str _)) h4⟩
theorem rr_ixTx {z : Str} {i : Int} {cc : Nat} (hl : z.length ≤ sizeLine) (h : atI z.cps.toList i = some cc) (q : k (.d (.str ⟨#[cc]⟩)) S) : RR w rIxS (.d (.str z)) (.d (.int i)) S k := fun R H as u v Q rl hu hv c => by
  cases hu; cases hv
  exact ⟨z, i, cc, rfl, rfl, hl, h, c _ _ S R H as rl (Sub.refl _) (Pre.refl _) (ok_d (Den.str _)) q⟩
def gLenS : List V → Hp → VK → Prop := fun xs H Q => ∃ x : Str, xs = [.str x] ∧ x.length ≤ sizeLine ∧ Q (.int x.length) H
theorem b_lenS {X : Cx} {e : Expr} {p pos : Pos} {te : TE} (hm : X.mg "len" = none) (he : PE X e te) (hg : Gl X "len" := by rfl) (hs : starEach [e] X.env = (false, eval e X.env) :: starEach [] X.env := by rfl) : PE X (.Call (.Name "len" p) [e] [] pos) (tCB gLenS (tCons te tNil)) :=
  pe_callB (show CallR X (.builtin "len") gLenS from call_len_str) hg hm PySem.boot_len (pa_cons he pa_nil hs) (he := hs)
theorem rc_lenS {a : Str} (hl : a.length ≤ sizeLine) (q : k (.d (.int a.length)) S) : RC w gLenS [.d (.str a)] S k := fun R H as u Q rl hu c => by
  obtain ⟨v, rfl, hv⟩ := one_ent hu
  cases hv
  exact ⟨a, rfl, hl, c _ _ S R H as rl (Sub.refl _) (Pre.refl _) (ok_d (Den.int _)) q⟩
def gIntS : List V → Hp → VK → Prop := fun xs H Q => ∃ a n, xs = [.str a] ∧ PySem.intText? a = some n ∧ a.length ≤ 640 ∧ Q (.int n) H
theorem b_intS {X : Cx} {e : Expr} {p pos : Pos} {te : TE} (hm : X.mg "int" = none) (he : PE X e te) (hg : Gl X "int" := by rfl) (hs : starEach [e] X.env = (false, eval e X.env) :: starEach [] X.env := by rfl) : PE X (.Call (.Name "int" p) [e] [] pos) (tCB gIntS (tCons te tNil)) :=
  pe_callTy call_int_str hg hm (by decide +kernel) (pa_cons he pa_nil hs) (he := hs)
theorem rc_intS {a : Str} {n : Int} (h : PySem.intText? a = some n) (hl : a.length ≤ 640) (q : k (.d (.int n)) S) : RC w gIntS [.d (.str a)] S k := fun R H as us Q rl hu c => by
  obtain ⟨v, rfl, hv⟩ := one_ent hu
  cases hv
  exact ⟨a, n, rfl, h, hl, c _ _ S R H as rl (Sub.refl _) (Pre.refl _) (ok_d (Den.int _)) q⟩
theorem ents_app {K : PySem.W.Frag} {R : Hp} {as : List Addr} {vs : List V} {es : List Ent} (h2 : EntsOk K R as vs es) : ∀ {us : List V} {ds : List D}, Dens K R us ds → EntsOk K R as (us ++ vs) (ds.map Ent.d ++ es)
  | [], [], _ => h2
  | [], d :: ds, h => by cases h
  | u :: us, [], h => by cases h
  | u :: us, d :: ds, h => by
    cases h with
    | cons a b => exact ⟨a, ents_app h2 b⟩
/-- (.., *xs, ..) -/
theorem la_star {tr : TA} {k : List Ent → List Own → Prop} (h : LE w te Γ S fun x S1 => ∃ ds, IsLst x S1 ds ∧ LA w tr Γ S1 fun es S2 => k (ds.map Ent.d ++ es) S2) : LA w (StX.tStar w.K te tr) Γ S k := fun σ R H as Q rl s c => by
  refine h σ R H as _ rl s fun v x S1 R1 H1 as1 rl1 s1 p1 e1 ⟨ds, hd, h1⟩ => ?_
  obtain ⟨a, vs, rfl, q2, q3⟩ := isLst_at hd rl1 e1
  refine ⟨a, vs, rfl, .inr (SqL.of q2), ?_⟩
  refine h1 σ R1 H1 as1 _ rl1 (s.mono s1 p1) fun us es S2 R2 H2 as2 rl2 s2 p2 es2 h2 => ?_
  exact c _ _ S2 R2 H2 as2 rl2 (s1.trans s2) (p1.trans p2) (ents_app es2 (q3.mono s2)) h2
/-- str of an int or of a text -/
def gStrX : List V → Hp → VK → Prop := fun xs H Q => (∃ i, xs = [.int i] ∧ i.natAbs.log2 < 1920 ∧ Q (.str (toString i)) H) ∨ ∃ a, xs = [.str a] ∧ Q (.str a) H
theorem c_strX {X : Cx} : CallR X (.type "str") gStrX := fun pins s σ H xs us Q I rs h => h.elim (fun h => call_str_int pins s σ H xs us Q I rs h) fun h => SkE.call_str_str pins s σ H xs us Q I rs h
theorem b_strX {X : Cx} {e : Expr} {p pos : Pos} {te : TE} (hm : X.mg "str" = none) (he : PE X e te) (hg : Gl X "str" := by rfl) (hs : starEach [e] X.env = (false, eval e X.env) :: starEach [] X.env := by rfl) : PE X (.Call (.Name "str" p) [e] [] pos) (tCB gStrX (tCons te tNil)) :=
  pe_callTy c_strX hg hm (by decide +kernel) (pa_cons he pa_nil hs) (he := hs)
theorem rc_strXI {i : Int} (hi : i.natAbs < 2 ^ 1000) (q : k (.d (.str (toString i))) S) : RC w gStrX [.d (.int i)] S k := fun R H as us Q rl hu c => .inl (rc_strI hi q R H as us Q rl hu c)
theorem rc_strXS {a : Str} (q : k (.d (.str a)) S) : RC w gStrX [.d (.str a)] S k := fun R H as us Q rl hu c => by
  obtain ⟨v, rfl, hv⟩ := one_ent hu
  cases hv
  exact .inr ⟨a, rfl, c _ _ S R H as rl (Sub.refl _) (Pre.refl _) (ok_d (Den.str _)) q⟩
end
end Gm
/-! texts of numbers: what digits tell -/
namespace Tx
open PySem
def dig (c : Nat) : Bool := decide (48 ≤ c) && decide (c ≤ 57)
def valL : Nat → List Nat → Nat
  | n, [] => n
  | n, c :: r => valL (n * 10 + (c - 48)) r
theorem dig_iff {c : Nat} : dig c = true ↔ 48 ≤ c ∧ c ≤ 57 := by
  unfold dig
  rw [Bool.and_eq_true, decide_eq_true_eq, decide_eq_true_eq]
theorem ascii_dig : ∀ c, c < 128 → PySem.Unicode.isDigit c = dig c := by
  have h : (List.range 128).all (fun c => PySem.Unicode.isDigit c == dig c) = true := by decide +kernel
  intro c hc
  have := List.all_eq_true.mp h c (List.mem_range.mpr hc)
  exact eq_of_beq this
/-- an ascii text of digits -/
def isNum (s : Str) : Bool := decide (0 < s.length) && s.cps.all dig
theorem num_tests {s : Str} : (Txt.isascii s && Txt.isdigit s) = isNum s := by
  unfold Txt.isascii Txt.isdigit isNum
  rw [Bool.eq_iff_iff]
  simp only [Bool.and_eq_true, decide_eq_true_eq, Array.all_eq_true]
  constructor
  · rintro ⟨h1, h2, h3⟩
    exact ⟨h2, fun i hi => by rw [← ascii_dig _ (h1 i hi)]; exact h3 i hi⟩
  · rintro ⟨h2, h3⟩
    have h1 : ∀ i (hi : i < s.cps.size), s.cps[i] < 128 := fun i hi => by have := dig_iff.mp (h3 i hi); omega
    exact ⟨h1, h2, fun i hi => by rw [ascii_dig _ (h1 i hi)]; exact h3 i hi⟩
theorem isNum_digits {s : Str} (h : isNum s = true) : NumText.AllDigits s.cps.toList ∧ s.cps.toList ≠ [] := by
  unfold isNum at h
  rw [Bool.and_eq_true, decide_eq_true_eq, Array.all_eq_true] at h
  obtain ⟨h0, h1⟩ := h
  refine ⟨fun c hc => ?_, fun e => ?_⟩
  · obtain ⟨i, hi, e⟩ := List.getElem_of_mem hc
    rw [← e]
    exact dig_iff.mp (h1 i (by simpa using hi))
  · have : s.cps.toList.length = s.length := by simp [Str.length]
    rw [e] at this
    simp at this
    omega
theorem isNum_of {s : Str} (h : NumText.AllDigits s.cps.toList) (hne : s.cps.toList ≠ []) : isNum s = true := by
  unfold isNum
  rw [Bool.and_eq_true, decide_eq_true_eq, Array.all_eq_true]
  refine ⟨?_, fun i hi => ?_⟩
  · have : s.cps.toList.length = s.length := by simp [Str.length]
    have := List.length_pos_iff.mpr hne
    omega
  · refine dig_iff.mpr (h _ ?_)
    rw [← Array.getElem_toList hi]
    exact List.getElem_mem _
open TL in
theorem spl_facts (S : List Nat) : ∀ (l : List Nat) (k : Nat) (acc : List Nat), spl S k acc l ≠ [] ∧ ∀ p ∈ spl S k acc l, p.length ≤ acc.length + l.length ∧ ∀ c ∈ p, c ∈ acc ∨ c ∈ l
  | [], k, acc => by
    rw [spl_nil]
    exact ⟨by simp, fun p hp => by rw [List.mem_singleton.mp hp]; exact ⟨by simp, fun c hc => .inl hc⟩⟩
  | c :: r, k + 1, acc => by
    show spl S k acc r ≠ [] ∧ ∀ p ∈ spl S k acc r, _
    obtain ⟨h1, h2⟩ := spl_facts S r k acc
    refine ⟨h1, fun p hp => ?_⟩
    obtain ⟨h3, h4⟩ := h2 p hp
    exact ⟨by rw [List.length_cons]; omega, fun x hx => (h4 x hx).imp id (List.mem_cons_of_mem _)⟩
  | c :: r, 0, acc => by
    cases h : pre S (c :: r) with
    | true =>
      rw [spl_hit h]
      obtain ⟨h1, h2⟩ := spl_facts S r (S.length - 1) []
      refine ⟨by simp, fun p hp => ?_⟩
      rcases List.mem_cons.mp hp with rfl | hp
      · exact ⟨by omega, fun x hx => .inl hx⟩
      · obtain ⟨h3, h4⟩ := h2 p hp
        refine ⟨by rw [List.length_cons]; rw [List.length_nil] at h3; omega, fun x hx => ?_⟩
        rcases h4 x hx with z | z
        · cases z
        · exact .inr (List.mem_cons_of_mem _ z)
    | false =>
      rw [spl_miss h]
      obtain ⟨h1, h2⟩ := spl_facts S r 0 (acc ++ [c])
      refine ⟨h1, fun p hp => ?_⟩
      obtain ⟨h3, h4⟩ := h2 p hp
      rw [List.length_append] at h3
      have e1 : ([c] : List Nat).length = 1 := rfl
      refine ⟨by rw [List.length_cons]; omega, fun x hx => ?_⟩
      rcases h4 x hx with z | z
      · rcases List.mem_append.mp z with z | z
        · exact .inl z
        · rw [List.mem_singleton.mp z]; exact .inr List.mem_cons_self
      · exact .inr (List.mem_cons_of_mem _ z)
open TL in
theorem split_facts (x y : Str) (hy : y.cps.toList ≠ []) (hk : y.cps.all (· < 256) = true) : Txt.split x y ≠ [] ∧ ∀ p ∈ Txt.split x y, p.length ≤ x.length ∧ ∀ c ∈ p.cps.toList, c ∈ x.cps.toList := by
  have e := split_spl x y hy (kind_ok hk)
  obtain ⟨h1, h2⟩ := spl_facts (tl y) (tl x) 0 []
  rw [← e] at h1 h2
  refine ⟨fun z => by rw [z] at h1; exact h1 rfl, fun p hp => ?_⟩
  obtain ⟨h3, h4⟩ := h2 (tl p) (List.mem_map.mpr ⟨p, hp, rfl⟩)
  rw [List.length_nil, Nat.zero_add] at h3
  have e1 : (tl p).length = p.length := (len_tl p).symm
  have e2 : (tl x).length = x.length := (len_tl x).symm
  exact ⟨by omega, fun c hc => (h4 c hc).elim (fun z => by cases z) id⟩
end Tx
/-! a try whose suite keeps the names of data -/
namespace Gm
open PySem PySem.Spec L2
def tCallS (sp : Sp) (E : L2.St → XK) (t : TA) : TE := fun σ H Q => t σ H fun vs H1 => sp vs H1 Q (E σ)
section
variable {X : Cx} {CX : CXT} {k : Nat} {f : Addr} {fd : FuncData} {ps : List Str} {sp : Sp}
theorem run_fnS {pins : List (Addr × Obj)} {σ : L2.St} {H : Hp} {s : Shared} {Q : VK} {us : List Value} {vs : List V} {E : XK} (F : FnOk X.prog X.w X.K X.mg X.base CX k f fd ps sp) (hr : Room k X.A) (hb : Binds X.K fd ps []) (hx : ∀ e s', CX X.stack H s E e s' → X.xe e s')
    (I : Inv X pins σ H s) (r : Vals vs us) (h : sp vs H Q E) : wpAny (model X.prog X.w) X.A (call (.ref f) us) (EP X pins σ Q) X.xe s := by
  have r2 : Vals (vs ++ []) (us ++ []) := r.append .nil
  have h' : sp (vs ++ []) H Q E := by rw [List.append_nil]; exact h
  have hl : (us ++ []).length = ps.length := by rw [← r2.length]; exact F.len _ _ _ _ h'
  refine wpAny_call (codeAny_mono (F.run X.A X.stack s H ⟨us, []⟩ (us ++ []) (vs ++ []) Q E hr I.env0 (hb s us I.kIn hl) r2 h') fun r s' hq => ?_)
  cases r with
  | error e => exact hx e s' hq
  | ok fl =>
    cases fl with
    | ret u => exact I.after hq
    | next | brk | cont => exact False.elim hq
theorem pe_dfS {x : Str} {n : Nat} {ds : DS} {e : Expr} {es : List Expr} {t : TA} {p pos : Pos} {E : L2.St → XK} (d : Df X.prog X.w X.K X.mg X.base CX k x n ds) (hr : Room k X.A) (hx : ∀ pins σ H s e s', Inv X pins σ H s → CX X.stack H s (E σ) e s' → X.xe e s') (ha : PA X (e :: es) t) (hg : Gl X x := by rfl) (hdb : (x == ("__debug__" : Str)) = false := by decide)
    (he : starEach (e :: es) X.env = (false, eval e X.env) :: starEach es X.env := by rfl) (hpl : (backTo pos (starEach es X.env)).any (·.1) = false := by rfl) : PE X (.Call (.Name x p) (e :: es) [] pos) (tCallS (spD X.K ds) E t) := by
  obtain ⟨f, fd, ps, _, F, hm, hk, hb⟩ := d.ex
  refine ⟨fun pins s σ H Q I h => ?_⟩
  refine wpAny_Call_Name_kw (ld_glob I hg hm ?_ hdb)
  refine PySem.W.callWith_K (h₀ := X.base) I.ok.mod.kin hk (thn (ha.run pos pins s σ H _ I h) fun us s1 ⟨vs, H1, I1, r, q⟩ => ⟨I1.kIn, ?_⟩) he hpl
  exact run_fnS F hr hb (fun e s' c => hx pins σ H1 s1 e s' I1 c) I1 r q
end
section
variable {P : Program} {w0 : World} {K : PySem.W.Frag} {mg : Str → Option Value} {base : Heap} {X : Cx} {CX : CXT} {k : Nat}
theorem pe_dfSB {x : Str} {n : Nat} {ds : DS} {e : Expr} {es : List Expr} {t : TA} {p pos : Pos} {E : L2.St → XK} (d : Df P w0 K mg base CX k x n ds) (hr : Room k X.A) (hx : ∀ pins σ H s e s', Inv X pins σ H s → CX X.stack H s (E σ) e s' → X.xe e s') (ha : PA X (e :: es) t) (hg : Gl X x := by rfl) (hdb : (x == ("__debug__" : Str)) = false := by decide)
    (he : starEach (e :: es) X.env = (false, eval e X.env) :: starEach es X.env := by rfl) (hpl : (backTo pos (starEach es X.env)).any (·.1) = false := by rfl) (hP : X.prog = P := by rfl) (hW : X.w = w0 := by rfl) (hK : X.K = K := by rfl) (hM : X.mg = mg := by rfl) (hB : X.base = base := by rfl) : PE X (.Call (.Name x p) (e :: es) [] pos) (tCallS (spD K ds) E t) := by
  subst hP hW hK hM hB
  exact pe_dfS d hr hx ha hg hdb he hpl
end
/-- the state at the call goes with the error -/
abbrev ES (W : WX) : L2.St → XK := fun σ c d H => W c d σ H
theorem passTS {X : Cx} {W : WX} (tk : L2N.Takes X W) (pins : List (Addr × Obj)) (σ : L2.St) (H : Hp) (s : Shared) (e : Value) (s' : Shared) (I : Inv X pins σ H s) (c : L2N.CX X.prog X.w X.stack H s (ES W σ) e s') : X.xe e s' :=
  tk e s' (L2N.XE.of_call I (fun _ _ _ h => h) c)
/-- the names of data alone -/
def dataG (Γ : Env) : Env := Γ.map fun o => match o with | some (.d x) => some (.d x) | _ => none
theorem dataG_sts {K : PySem.W.Frag} {R : Hp} {as as' : List Addr} {σ : L2.St} {Γ : Env} (h : Sts K R as σ Γ) : Sts K R as' σ (dataG Γ) :=
  ⟨by unfold dataG; rw [List.length_map]; exact h.len, fun i e q => by
    unfold dataG at q
    rw [List.getElem?_map, Option.map_eq_some_iff] at q
    obtain ⟨o, ho, q⟩ := q
    match o, q with
    | some (.d x), q =>
      cases q
      obtain ⟨v, h1, h2⟩ := h.get i (.d x) ho
      exact ⟨v, h1, h2⟩⟩
section
variable {w : Wd} {Γ : Env} {S : List Own} {k : KE} {G : GE} {f : DS}
/-- what a body in the air may let out, with the names of Γ -/
def ExOkS (w : Wd) (Γ : Env) (W : WX) (x : KX) : Prop := ∀ (r : Hp) (σ : L2.St) (Hc : Hp) (asc : List Addr) (Sc : List Own), Rel w r Hc asc Sc → Sts w.K r asc σ Γ → ExOk { w with R0 := r } (ES W σ) x
theorem le_callS {t : TA} {x : KX} {W : WX} (hW : ExOkS w Γ W x) (h : LA w t Γ S fun es S1 => ∀ r E, ExOk { w with R0 := r } E x → RS { w with R0 := r } f E es S1 k) : LE w (tCallS (spD w.K f) (ES W) t) Γ S k := fun σ R H as Q rl s c =>
  h σ R H as _ rl s fun vs es S1 R1 H1 as1 rl1 s1 p1 e1 h1 =>
    h1 R1 (ES W σ) (hW R1 σ H1 as1 S1 rl1 (s.mono s1 p1)) R1 H1 as1 vs Q rl1.root e1 fun v' e' S' R' H' as' a1 a2 a3 a4 a5 => c v' e' S' R' H' as' (rl1.unroot a1).1 (s1.trans a2) (p1.trans a3) a4 a5
/-- a try whose suite has the names of data -/
theorem ls_tryS {c : Value} {i : Nat} {tb : WX → TS} {ts : Addr → Value → Option Addr → TS} (x : KX) (hb : ∀ (r : Hp) (W : WX), ExOkS { w with R0 := r } Γ W x → LS { w with R0 := r } (tb W) Γ S G)
    (hs : ∀ C u S1, x C u S1 → PySem.W.exmOne w.K (.ref C) c = some true ∧ ∀ a dd, LS w (ts a (.ref C) (some dd)) ((dataG Γ).set i (some (.d (.exn a dd u)))) S1
      { nx := fun Γ S => G.nx (Γ.set i none) S, rt := G.rt, bk := fun Γ S => G.bk (Γ.set i none) S, ct := fun Γ S => G.ct (Γ.set i none) S }) : LS w (tTry w.K c i tb ts) Γ S G := fun D σ R H as rl s e => by
  refine hb R _ ?_ D σ R H as rl.root s ⟨fun Γ' S' σ' R' H' as' u a b q => e.nx Γ' S' σ' R' H' as' u (rl.unroot a).1 b q, fun v y S' R' H' as' u a b q => e.rt v y S' R' H' as' u (rl.unroot a).1 b q,
    fun Γ' S' σ' R' H' as' u a b q => e.bk Γ' S' σ' R' H' as' u (rl.unroot a).1 b q, fun Γ' S' σ' R' H' as' u a b q => e.ct Γ' S' σ' R' H' as' u (rl.unroot a).1 b q⟩
  intro r σ1 Hc asc Sc rlc st C d v u S1 R1 H1 as1 rl1 hd hv hx
  obtain ⟨h1, h2⟩ := hs C u S1 hx
  obtain ⟨rlw, sb⟩ := rl.unroot rlc
  obtain ⟨rl2, sb2⟩ := rlw.unroot rl1
  refine ⟨true, h1, fun _ a ha => ?_, fun z => Bool.noConfusion z⟩
  have st0 : Sts w.K r as1 σ1 (dataG Γ) := dataG_sts st
  have st1 : Sts w.K R1 as1 (σ1.set i (some (.ref a))) ((dataG Γ).set i (some (.d (.exn a d u)))) := (st0.mono sb2 (Pre.refl _)).set i (Den.exn hd hv)
  have e2 := e.up (sb.trans sb2)
  refine h2 a d _ _ R1 H1 as1 rl2 st1 ⟨fun Γ' S' σ' R' H' as' u a b q => ?_, e2.rt, fun Γ' S' σ' R' H' as' u a b q => ?_, fun Γ' S' σ' R' H' as' u a b q => ?_⟩
  · exact e2.nx _ S' _ R' H' as' u a (b.wipe1 i) q
  · exact e2.bk _ S' _ R' H' as' u a (b.wipe1 i) q
  · exact e2.ct _ S' _ R' H' as' u a (b.wipe1 i) q
end
end Gm
/-! a dict of texts asked by a text; replace with a count; a text many times -/
namespace Gm
open PySem PySem.Spec L2 Builtin Builtin.Str
theorem DenK.miss {K : PySem.W.Frag} {R : Hp} {x : Str} : ∀ {ps : List (L2.Key × V)} {qs : List (Str × D)}, DenK K R ps qs → getD_ x qs = none → valV ps (.inr x) = none
  | [], [], _, _ => rfl
  | (k, v) :: ps, (y, d0) :: qs, ⟨a, b, c⟩, e => by
    have a' : k = .inr y := a
    subst a'
    unfold getD_ at e
    by_cases h : y = x
    · rw [if_pos h] at e; cases e
    · rw [if_neg h] at e
      rw [valV_neg (p := (Sum.inr y, v)) (fun z => h (Sum.inr.inj z))]
      exact DenK.miss c e
  | [], _ :: _, h, _ => h.elim
  | _ :: _, [], h, _ => h.elim
section
variable {w : Wd} {Γ : Env} {S : List Own} {k : KE} {G : GE} {td ty tv te : TE}
/-- x not in d, of a dict whose keys are texts -/
theorem le_dniS (h : LE w ty Γ S fun y S1 => LE w td Γ S1 fun x S2 => ∃ z i gs, y = .d (.str z) ∧ x = .own i ∧ S2[i]? = some (.dct gs) ∧ k (.d (.bl (!(getD_ z gs).isSome))) S2) : LE w (tDNotIn ty td) Γ S k := fun σ R H as Q rl s c => by
  refine h σ R H as _ rl s fun y ey S1 R1 H1 as1 rl1 s1 p1 e1 h1 => ?_
  refine h1 σ R1 H1 as1 _ rl1 (s.mono s1 p1) fun x ex S2 R2 H2 as2 rl2 s2 p2 e2 ⟨z, i, gs, hy, hx, hi, hk⟩ => ?_
  subst hx hy
  obtain ⟨a, ha, rfl⟩ := e2
  obtain ⟨⟨_, kvs, c1, c2⟩, _⟩ := rl2.reg i _ a hi ha (by intro z; cases z)
  cases e1
  refine ⟨a, _, rfl, DGet.k (k := (Sum.inr z : L2.Key)) c1, ?_⟩
  have e : (valV kvs (Sum.inr z : L2.Key)).isSome = (getD_ z gs).isSome := by
    cases q : getD_ z gs with
    | none => rw [c2.miss q]; rfl
    | some d => obtain ⟨v, g1, _⟩ := c2.get q; rw [g1]; rfl
  rw [e]
  exact c _ _ S2 R2 H2 as2 rl2 (s1.trans s2) (p1.trans p2) (ok_d (Den.bl _)) hk
end
/-! a text many times -/
section
variable {X : Cx} {w : Wd} {S : List Own} {k : KE}
def manyS (x : Str) (n : Int) : Str := if n < 1 then Str.empty else if (n == 1 || x.length == 0) = true then x else ⟨(List.replicate n.toNat x.cps).foldl (· ++ ·) #[]⟩
def gMulS : R2 := fun x y H Q => ∃ (a : Str) (n : Int), x = .str a ∧ y = .int n ∧ 2 ≤ n ∧ n ≤ 1000 ∧ a.length = 1 ∧ Q (.str ⟨(List.replicate n.toNat a.cps).foldl (· ++ ·) #[]⟩) H
theorem size_many (x : Array Nat) : ∀ (n : Nat) (acc : Array Nat), ((List.replicate n x).foldl (· ++ ·) acc).size = acc.size + n * x.size
  | 0, acc => by simp
  | n + 1, acc => by
    rw [List.replicate_succ, List.foldl_cons, size_many x n, Array.size_append, Nat.succ_mul]; omega
theorem op_mulS : OpR X (binaryOp .Mult) gMulS := fun pins s σ H x y u v Q I rx ry q => by
  obtain ⟨a, n, rfl, rfl, h1, h2, h3, q⟩ := q
  obtain ⟨t, rfl⟩ := rx
  obtain ⟨t', rfl⟩ := ry
  have hl : (⟨(List.replicate n.toNat a.cps).foldl (· ++ ·) #[]⟩ : Str).length = n.toNat := by
    show ((List.replicate n.toNat a.cps).foldl (· ++ ·) #[]).size = _
    rw [size_many]
    have : a.cps.size = 1 := h3
    rw [this]; simp
  have hn1 : ¬ n < 1 := by omega
  have hne : (n == 1 || a.length == 0) = false := by
    rw [Bool.or_eq_false_iff]
    exact ⟨beq_false_of_ne (by omega), beq_false_of_ne (by omega)⟩
  refine PySem.P.mul_str (by simp; omega) (fun _ _ => ?_) (fun _ _ => ?_) ?_
  · rw [h3]
    have : (1 : Int) ≤ (2 ^ 63 - 1) / n := by
      rw [Int.le_ediv_iff_mul_le (by omega)]; omega
    omega
  · unfold tooLong sizeLine
    rw [h3]
    exact decide_eq_false (by omega)
  · rw [if_neg hn1, if_neg (by rw [hne]; exact Bool.false_ne_true)]
    exact ⟨by rw [hl, sizeLine_eq]; omega, ⟨.str _, H, I.tok _, ⟨_, rfl⟩, q⟩⟩
theorem rr_mulS {a : Str} {n : Int} (h1 : 2 ≤ n) (h2 : n ≤ 1000) (ha : a.length = 1) (q : k (.d (.str ⟨(List.replicate n.toNat a.cps).foldl (· ++ ·) #[]⟩)) S) : RR w gMulS (.d (.str a)) (.d (.int n)) S k := fun R H as u v Q rl hu hv c => by
  cases hu; cases hv
  exact ⟨a, n, rfl, rfl, h1, h2, ha, c _ _ S R H as rl (Sub.refl _) (Pre.refl _) (ok_d (Den.str _)) q⟩
theorem many_len {a : Str} (n : Nat) (ha : a.length = 1) : (⟨(List.replicate n a.cps).foldl (· ++ ·) #[]⟩ : Str).length = n := by
  show ((List.replicate n a.cps).foldl (· ++ ·) #[]).size = _
  rw [size_many]
  have : a.cps.size = 1 := ha
  rw [this]; simp
end
/-! replace with the count 1 -/
open Builtin Builtin.Str
def rep1 (x y z : Str) : Str := if ((occurrences x y 0 x.length 1).isEmpty || (y.length == 0 && z.length == 0)) = true then x else glued z (partsBetween x (occurrences x y 0 x.length 1) y.length)
theorem rep1_len (x y z : Str) : (rep1 x y z).length ≤ x.length + z.length := by
  unfold rep1
  split
  · exact Nat.le_add_right _ _
  · have h1 := StrLaws.occ_length_le x y 0 x.length 1
    have hy : (glued y (partsBetween x (occurrences x y 0 x.length 1) y.length)).length = x.length := by rw [StrLaws.glued_between_self]
    rw [size_glued, length_partsBetween, Nat.add_sub_cancel] at hy
    rw [size_glued, length_partsBetween, Nat.add_sub_cancel]
    have h2 : (occurrences x y 0 x.length 1).length * z.length ≤ 1 * z.length := Nat.mul_le_mul_right _ h1
    omega
theorem gives_rep1 (x y z : Str) (t u v j : Tok) (h0 : (u == 0 || v == 0) = false) (huv : (u == v) = false) (hyz : (y == z) = false) (hl : tooLong (x.length + (occurrences x y 0 x.length 1).length * z.length) = false) :
    Gives («str.replace» ⟨[.str x t, .str y u, .str z v, .int 1 j], []⟩) (if ((occurrences x y 0 x.length 1).isEmpty || (y.length == 0 && z.length == 0)) = true then .val (.str x t) else .str (glued z (partsBetween x (occurrences x y 0 x.length 1) y.length))) := by
  show Gives (if ((occurrences x y 0 x.length 1).isEmpty || (y.length == 0 && z.length == 0)) = true then (do rule "str.replace.nothing"; ret (.str x t)) else
          (do let same ← isSame (.str y u) (.str z v)
              if same = true then (do rule "str.replace.old-is-new"; ret (.str x t)) else
              if tooLong (x.length + (occurrences x y 0 x.length 1).length * z.length) = true then unsupported "str.replace:memory" else
              retStr (glued z (partsBetween x (occurrences x y 0 x.length 1) y.length)))) _
  cases hc : ((occurrences x y 0 x.length 1).isEmpty || (y.length == 0 && z.length == 0))
  · rw [isSame_str_other y z u v h0 huv hyz, hl]
    exact .of_eq rfl
  · exact .rule (.of_eq rfl)
theorem call_rep1 {prog : Program} {w : World} {A : Around} {E : Value → Shared → Prop} {s : Shared} {x y z : Str} {t u v j : Tok} {Q : Value → Shared → Prop} (hu : u ≠ 0) (hv : v ≠ 0) (huv : u ≠ v) (hyz : (y == z) = false) (hb : x.length + z.length ≤ 16777216)
    (hq : ∀ t' k, Q (.str (rep1 x y z) t') { s with toks := k }) : wpAny (model prog w) A (call (.builtin "str.replace") [.str x t, .str y u, .str z v, .int 1 j]) Q E s := by
  have hl : tooLong (x.length + (occurrences x y 0 x.length 1).length * z.length) = false := by
    have h1 := StrLaws.occ_length_le x y 0 x.length 1
    have h2 : (occurrences x y 0 x.length 1).length * z.length ≤ 1 * z.length := Nat.mul_le_mul_right _ h1
    unfold tooLong sizeLine
    exact decide_eq_false (by have e : (2 : Nat) ^ 24 = 16777216 := by decide
                              omega)
  refine call_gives F.slot_str_replace (typeIs_str _ _ _) F.entry_str_replace (F.args_str_replace_4 _ _ _ _) (gives_rep1 x y z t u v j (by simp [hu, hv]) (by simp [huv]) hyz hl) ?_
  have hlen := rep1_len x y z
  unfold rep1 at hq hlen
  cases hc : ((occurrences x y 0 x.length 1).isEmpty || (y.length == 0 && z.length == 0))
  · rw [hc] at hq hlen
    simp only [Bool.false_eq_true, if_false] at hq hlen ⊢
    exact ⟨by rw [sizeLine_eq]; omega, hq _ _⟩
  · rw [hc] at hq
    simp only [if_true] at hq ⊢
    exact hq t s.toks
def tRep1 (y z : Str) (to : TE) : TE := fun σ H Q => to σ H fun x H1 => ∃ a : Str, x = .str a ∧ a.length + z.length ≤ 16777216 ∧ Q (.str (rep1 a y z)) H1
section
variable {X : Cx} {o : Expr} {to : TE}
theorem pet_rep1 {y z : Str} {j1 j2 j3 : Nat} {c1 c2 c3 apos cpos : Pos} (hyz : (y == z) = false) (ho : PE X o to)
    (hbase : attributeBase o "replace" X.env (eval o X.env) = eval o X.env := by rfl)
    (hfew : ((backTo cpos (starEach [.Constant (.str y) j1 c1, .Constant (.str z) j2 c2, .Constant (.int 1) j3 c3] X.env)).all (fun x => !x.1) && (backToKw cpos (keywordEach [] X.env)).all (fun x => x.1.isSome)
      && decide (([.Constant (.str y) j1 c1, .Constant (.str z) j2 c2, .Constant (.int 1) j3 c3] : List Expr).length + ([] : List Keyword).length + (if ([] : List Keyword).isEmpty then 0 else 1) < 30)) = true := by rfl)
    (hline : (apos.endLine == cpos.line) = true := by rfl) : PET X (.Call (.Attribute o "replace" apos) [.Constant (.str y) j1 c1, .Constant (.str z) j2 c2, .Constant (.int 1) j3 c3] [] cpos) (tRep1 y z to) := by
  intro pins s σ H Q h0 I h
  refine wpAny_Call_method_late hbase hfew hline rfl (wpAny_mono (PySem.wpAny_toks (ho.run pins s σ H _ I h)) (fun v s1 q => ?_) fun _ _ z => z.2)
  obtain ⟨hk, x, H1, I1, r1, a, rfl, hl, q⟩ := q
  obtain ⟨t, rfl⟩ := r1
  refine ⟨"str", _, F.plainAttrs_str, F.slot_str_replace, F.type_str_replace, typeIs_str _ _ _, (fun _ e => nomatch e), ?_⟩
  refine Calls.callWith_builtin rfl (Calls.evalArgs_plain ?_)
  show wpAny _ _ (spliced [(false, eval (.Constant (.str y) j1 c1) X.env), (false, eval (.Constant (.str z) j2 c2) X.env), (false, eval (.Constant (.int 1) j3 c3) X.env)]) _ _ _
  refine Calls.spliced_cons (Calls.Constant_str (Calls.spliced_cons (Calls.Constant_str (Calls.spliced_cons (wpAny_Constant_int (Calls.spliced_nil ?_))))))
  have h1 : 1 ≤ s1.toks := Nat.le_trans h0 hk
  exact call_rep1 (show s1.toks ≠ 0 by omega) (show s1.toks + 1 ≠ 0 by omega) (show s1.toks ≠ s1.toks + 1 by omega) hyz hl fun t' k => ⟨.str (rep1 a y z), H1, I1.tok k, ⟨t', rfl⟩, q⟩
theorem pet_of {e : Expr} {t : TE} (h : PE X e t) : PET X e t := fun pins s σ H Q _ I q => h.run pins s σ H Q I q
/-- a written text ahead -/
theorem pa_tok1 {c : Str} {j : Nat} {cpos : Pos} {es : List Expr} {t : TA} (h : PAT X es t) (hs : starEach (.Constant (.str c) j cpos :: es) X.env = (false, eval (.Constant (.str c) j cpos) X.env) :: starEach es X.env := by rfl) : PA X (.Constant (.str c) j cpos :: es) (tCons (tC (.str c)) t) := by
  refine ⟨fun pos pins s σ H Q I q => ?_⟩
  rw [hs]
  show wpAny _ _ (spliced ((false, eval (.Constant (.str c) j cpos) X.env) :: backTo pos (starEach es X.env))) _ _ s
  refine Calls.spliced_cons (Calls.Constant_str ?_)
  exact thn (h pos pins { s with toks := s.toks + 1 } σ H _ (Nat.succ_le_succ (Nat.zero_le _)) (I.tok _) q) fun us s2 ⟨xs, H2, I2, r2, q2⟩ => ⟨.str c :: xs, H2, I2, .cons ⟨_, rfl⟩ r2, q2⟩
/-- a written text and another ahead -/
theorem pa_tok2 {c : Str} {j : Nat} {cpos bpos : Pos} {e2 : Expr} {te : TE} {r : R2} {es : List Expr} {t : TA} (ho : OpR X (binaryOp .Add) r) (he : PE X e2 te) (h : PAT X es t) (hs : starEach (.BinOp (.Constant (.str c) j cpos) .Add e2 bpos :: es) X.env = (false, eval (.BinOp (.Constant (.str c) j cpos) .Add e2 bpos) X.env) :: starEach es X.env := by rfl) : PA X (.BinOp (.Constant (.str c) j cpos) .Add e2 bpos :: es) (tCons (tOp r (tC (.str c)) te) t) := by
  refine ⟨fun pos pins s σ H Q I q => ?_⟩
  rw [hs]
  show wpAny _ _ (spliced ((false, eval (.BinOp (.Constant (.str c) j cpos) .Add e2 bpos) X.env) :: backTo pos (starEach es X.env))) _ _ s
  refine Calls.spliced_cons ?_
  refine wpAny_BinOp (Calls.Constant_str ?_)
  have I1 : Inv X pins σ H { s with toks := s.toks + 1 } := I.tok _
  refine wpAny_mono (PySem.wpAny_toks (he.run pins { s with toks := s.toks + 1 } σ H _ I1 q)) (fun u s2 q2 => ?_) fun _ _ z => z.2
  obtain ⟨hk, y, H2, I2, r2, q2⟩ := q2
  refine wpAny_mono (PySem.wpAny_toks (ho pins s2 σ H2 (.str c) y (.str c s.toks) u _ I2 ⟨_, rfl⟩ r2 q2)) (fun v s3 q3 => ?_) fun _ _ z => z.2
  obtain ⟨hk3, x, H3, I3, r3, q3⟩ := q3
  have hk' : s.toks + 1 ≤ s2.toks := hk
  exact thn (h pos pins s3 σ H3 _ (by omega) I3 q3) fun us s4 ⟨xs, H4, I4, r4, q4⟩ => ⟨x :: xs, H4, I4, .cons r3 r4, q4⟩
end
section
variable {w : Wd} {Γ : Env} {S : List Own} {k : KE} {to : TE}
theorem le_rep1 {y z : Str} (h : LE w to Γ S fun x S1 => ∃ a : Str, x = .d (.str a) ∧ a.length + z.length ≤ 16777216 ∧ k (.d (.str (rep1 a y z))) S1) : LE w (tRep1 y z to) Γ S k := fun σ R H as Q rl s c => by
  refine h σ R H as _ rl s fun v x S1 R1 H1 as1 rl1 s1 p1 e1 ⟨a, h1, hl, q⟩ => ?_
  subst h1
  cases e1
  exact ⟨a, rfl, hl, c _ _ S1 R1 H1 as1 rl1 s1 p1 (ok_d (Den.str _)) q⟩
end
end Gm
/-! texts of ascii signs -/
namespace Tx
open PySem Builtin Builtin.Str L2 PySem.W.KOpn
def Asc (z : Str) : Prop := ∀ c ∈ z.cps.toList, c < 128
instance (z : Str) : Decidable (Asc z) := inferInstanceAs (Decidable (∀ c ∈ z.cps.toList, c < 128))
theorem app_toList (a b : Str) : (a ++ b).cps.toList = a.cps.toList ++ b.cps.toList := by
  show (a.cps ++ b.cps).toList = _
  simp
theorem app_len (a b : Str) : (a ++ b).length = a.length + b.length := by
  show (a.cps ++ b.cps).size = _
  simp [Str.length]
theorem Asc.app {a b : Str} (h : Asc a) (k : Asc b) : Asc (a ++ b) := fun c hc => by
  rw [app_toList] at hc
  exact (List.mem_append.mp hc).elim (h c) (k c)
theorem Asc.cut {z : Str} (h : Asc z) (lo hi : Option Int) : Asc (cutS z lo hi) := fun c hc => by
  have hc : c ∈ ((z.cps.toList.drop (HT.sIx z.length 0 lo)).take (HT.sIx z.length z.length hi - HT.sIx z.length 0 lo)).toArray.toList := hc
  rw [List.toList_toArray] at hc
  exact h c (List.mem_of_mem_drop (List.mem_of_mem_take hc))
theorem cut_len (z : Str) (lo hi : Option Int) : (cutS z lo hi).length ≤ z.length := by
  show ((z.cps.toList.drop (HT.sIx z.length 0 lo)).take (HT.sIx z.length z.length hi - HT.sIx z.length 0 lo)).toArray.size ≤ _
  rw [List.size_toArray, List.length_take, List.length_drop]
  have : z.cps.toList.length = z.length := Array.length_toList
  omega
theorem upper_list : ∀ (l : List Nat), (∀ c ∈ l, c < 128) → ∀ c ∈ (Txt.upper ⟨l.toArray⟩).cps.toList, c < 128
  | [], _ => by
    have e : Txt.upper ⟨([] : List Nat).toArray⟩ = "" := by decide +kernel
    rw [e]; decide +kernel
  | x :: l, h => by
    have e : (⟨(x :: l).toArray⟩ : Str) = ⟨#[x]⟩ ++ ⟨l.toArray⟩ := congrArg Str.mk (show (x :: l).toArray = #[x] ++ l.toArray by simp)
    have hx := h x List.mem_cons_self
    rw [e, upper_app, upper_one hx]
    intro c hc
    rw [app_toList] at hc
    rcases List.mem_append.mp hc with hc | hc
    · have : c = if 97 ≤ x ∧ x ≤ 122 then x - 32 else x := by simpa using hc
      rw [this]; split <;> omega
    · exact upper_list l (fun y hy => h y (List.mem_cons_of_mem _ hy)) c hc
theorem Asc.upper {z : Str} (h : Asc z) : Asc (Txt.upper z) := upper_list z.cps.toList h
theorem mem_fold (sep : Str) : ∀ (ps : List Str) (acc : Array Nat) (c : Nat), c ∈ (ps.foldl (fun acc p => acc ++ sep.cps ++ p.cps) acc).toList → c ∈ acc.toList ∨ c ∈ sep.cps.toList ∨ ∃ p ∈ ps, c ∈ p.cps.toList
  | [], acc, c, h => .inl h
  | p :: ps, acc, c, h => by
    rw [List.foldl_cons] at h
    rcases mem_fold sep ps _ c h with h | h | ⟨q, hq, h⟩
    · simp only [Array.toList_append, List.mem_append] at h
      rcases h with (h | h) | h
      · exact .inl h
      · exact .inr (.inl h)
      · exact .inr (.inr ⟨p, List.mem_cons_self, h⟩)
    · exact .inr (.inl h)
    · exact .inr (.inr ⟨q, List.mem_cons_of_mem _ hq, h⟩)
theorem mem_glued {sep : Str} {ps : List Str} {c : Nat} (h : c ∈ (glued sep ps).cps.toList) : c ∈ sep.cps.toList ∨ ∃ p ∈ ps, c ∈ p.cps.toList := by
  cases ps with
  | nil => exact absurd (show c ∈ ([] : List Nat) from h) List.not_mem_nil
  | cons p ps =>
    rcases mem_fold sep ps p.cps c h with h | h | ⟨q, hq, h⟩
    · exact .inr ⟨p, List.mem_cons_self, h⟩
    · exact .inl h
    · exact .inr ⟨q, List.mem_cons_of_mem _ hq, h⟩
theorem mem_parts {x : Str} {cuts : List Nat} {n : Nat} {p : Str} (h : p ∈ partsBetween x cuts n) {c : Nat} (hc : c ∈ p.cps.toList) : c ∈ x.cps.toList := by
  unfold partsBetween at h
  obtain ⟨⟨i, j⟩, _, rfl⟩ := List.mem_map.mp h
  have hc : c ∈ (x.cps.extract i j).toList := hc
  rw [Array.toList_extract] at hc
  exact List.mem_of_mem_drop (List.mem_of_mem_take hc)
theorem Asc.rep1 {x y z : Str} (h : Asc x) (k : Asc z) : Asc (Gm.rep1 x y z) := by
  unfold Gm.rep1
  split
  · exact h
  · intro c hc
    rcases mem_glued hc with hc | ⟨p, hp, hc⟩
    · exact k c hc
    · exact h c (mem_parts hp hc)
theorem mem_many {x : Array Nat} {c : Nat} : ∀ (n : Nat) (acc : Array Nat), c ∈ ((List.replicate n x).foldl (· ++ ·) acc).toList → c ∈ acc.toList ∨ c ∈ x.toList
  | 0, acc, h => .inl h
  | n + 1, acc, h => by
    rw [List.replicate_succ, List.foldl_cons] at h
    rcases mem_many n _ h with h | h
    · simp only [Array.toList_append, List.mem_append] at h
      exact h
    · exact .inr h
theorem Asc.many {x : Str} (h : Asc x) (n : Nat) : Asc ⟨(List.replicate n x.cps).foldl (· ++ ·) #[]⟩ := fun c hc => (mem_many n _ hc).elim (fun z => absurd z (by simp)) (h c)
theorem Asc.join {g : Str} {ys : List Str} (h : Asc g) (k : ∀ y ∈ ys, Asc y) : Asc (Txt.join g ys) := fun c hc => (mem_glued hc).elim (h c) fun ⟨p, hp, hc⟩ => k p hp c hc
theorem sum_set {α : Type} (f : α → Nat) : ∀ (xs : List α) (i : Nat) (v x : α), xs[i]? = some x → ((xs.set i v).map f).sum + f x = (xs.map f).sum + f v
  | [], i, v, x, h => by simp at h
  | a :: xs, 0, v, x, h => by
    have : a = x := by simpa using h
    subst this
    simp only [List.set_cons_zero, List.map_cons, List.sum_cons]; omega
  | a :: xs, i + 1, v, x, h => by
    have := sum_set f xs i v x (by simpa using h)
    simp only [List.set_cons_succ, List.map_cons, List.sum_cons]; omega
/-- two parts of a text change places -/
theorem swap_len {z g : Str} {i j : Nat} {x y : Str} (hi : (Txt.split z g)[i]? = some x) (hj : (Txt.split z g)[j]? = some y) : (Txt.join g (((Txt.split z g).set i y).set j x)).length = z.length := by
  have e1 : z.length = (glued g (Txt.split z g)).length := by rw [StrLaws.glued_eq_join, StrLaws.join_split]
  have e2 : ((((Txt.split z g).set i y).set j x).map (·.length)).sum = ((Txt.split z g).map (·.length)).sum := by
    have h1 := sum_set (·.length) (Txt.split z g) i y x hi
    by_cases hij : i = j
    · subst hij
      have hxy : y = x := by rw [hi] at hj; exact (Option.some.inj hj).symm
      subst hxy
      rw [List.set_set]
      omega
    · have h2 := sum_set (·.length) ((Txt.split z g).set i y) j x y (by rw [List.getElem?_set_ne hij]; exact hj)
      omega
  show (glued g _).length = _
  rw [size_glued, e2, List.length_set, List.length_set, ← size_glued, ← e1]
end Tx
/-! instances that stay in the store; class methods; the class in a local name -/
namespace Gm
open PySem PySem.Spec L2
section
variable {w : Wd} {Γ : Env} {S : List Own} {k : KE} {E : XK}
theorem le_makeO {C : Addr} {t : TA} {f : DS} (h : LA w t Γ S fun es S1 => RS w f E (.own S1.length :: es) (S1 ++ [.ins C []]) fun e S' => e = .d .non ∧ k (.own S1.length) S') : LE w (tMake C (spD w.K f) [] E t) Γ S k := fun σ R H as Q rl s c => by
  refine h σ R H as _ rl s fun vs es S1 R1 H1 as1 rl1 s1 p1 e1 h1 => ?_
  intro xa dx hx hd hne
  rw [List.append_nil]
  obtain ⟨rl2, s2⟩ := rl1.alloc hd (.own xa)
  have hx2 : (upd H1 dx (.own xa)) xa = none := by rw [upd_ne (fun z => hne z.symm)]; exact hx
  have rl3 : Rel w (upd R1 dx (.own xa)) (upd (upd H1 dx (.own xa)) xa (.ins C dx [])) (as1 ++ [xa]) (S1 ++ [.ins C []]) := rl2.allocO hx2 _ ⟨(rl2.fresh hx2).1, dx, [], upd_same, .nil⟩
  have hxa : (as1 ++ [xa])[S1.length]? = some xa := by rw [← rl1.len]; exact List.getElem?_concat_length
  refine h1 _ _ (as1 ++ [xa]) (.ref xa :: vs) _ rl3 ⟨⟨xa, hxa, rfl⟩, e1.mono s2 (Pre.app _ _)⟩ ?_
  rintro v e S' R' H' as' rl4 s4 p4 ok ⟨rfl, hk⟩
  have hv : v = .non := by
    have ok' : Den w.K R' v .non := ok
    cases ok'; rfl
  subst hv
  refine ⟨rfl, ?_⟩
  exact c (.ref xa) (.own S1.length) S' R' H' as' rl4 ((s1.trans s2).trans s4) ((p1.trans (Pre.app _ _)).trans p4) ⟨xa, p4 _ _ hxa, rfl⟩ hk
/-- the class stands in a local name -/
def tMakeV (i : Nat) (C : Addr) (sp : Sp) (E : XK) (t : TA) : TE := fun σ H Q => σ[i]? = some (some (.ref C)) ∧ tMake C sp [] E t σ H Q
theorem le_makeV {i : Nat} {C : Addr} {t : TA} {f : DS} (hi : Γ[i]? = some (some (.d (.cls C)))) (h : LE w (tMake C (spD w.K f) [] E t) Γ S k) : LE w (tMakeV i C (spD w.K f) E t) Γ S k := fun σ R H as Q rl s c => by
  obtain ⟨v, h1, h2⟩ := s.get i _ hi
  cases h2
  exact ⟨h1, h σ R H as Q rl s c⟩
/-- C.m(..), m a class method -/
theorem le_cmeth {C : Addr} {ta : TE} {t : TA} {f : DS} (h : LE w ta Γ S fun x S1 => x = .d (.cls C) ∧ LA w t Γ S1 fun es S2 => RS w f E (.d (.cls C) :: es) S2 k) : LE w (ClX.tCMeth C (spD w.K f) E ta t) Γ S k := fun σ R H as Q rl s c => by
  refine h σ R H as _ rl s fun v x S1 R1 H1 as1 rl1 s1 p1 e1 ⟨h1, h2⟩ => ?_
  subst h1
  cases e1
  refine ⟨rfl, ?_⟩
  refine h2 σ R1 H1 as1 _ rl1 (s.mono s1 p1) fun vs es S2 R2 H2 as2 rl2 s2 p2 e2 h3 => ?_
  exact h3 R2 H2 as2 (.ref C :: vs) Q rl2 ⟨ok_d (Den.cls _), e2⟩ fun v' e' S' R' H' as' a1 a2 a3 a4 a5 => c v' e' S' R' H' as' a1 ((s1.trans s2).trans a2) ((p1.trans p2).trans a3) a4 a5
end
/-- a class method, as one has it -/
structure CMt (P : Program) (w0 : World) (K : PySem.W.Frag) (mg : Str → Option Value) (base : Heap) (CX : CXT) (k : Nat) (C : Addr) (m : Str) (ds : DS) : Prop where
  ex : ∃ (p g : Addr) (mc : Value) (fd : FuncData) (ps : List Str), FnOk P w0 K mg base CX k g fd ps (spD K ds) ∧ ClX.CRead K C mc ∧ ClX.CMet K C mc m p g ∧ Binds K fd ps []
section
variable {X : Cx} {CX : CXT} {k : Nat} {C : Addr} {m x : Str} {ds : DS} {E : XK} {o e : Expr} {es : List Expr} {pos apos p : Pos} {ta : TE} {t : TA} {pl : Sem Bool}
theorem spD_nil {K : PySem.W.Frag} {ds : DS} {vs : List V} {H : Hp} {Q : VK} {E : XK} (h : spD K ds vs H Q E) : spD K ds (vs ++ []) H Q E := by rw [List.append_nil]; exact h
theorem pe_cm (d : CMt X.prog X.w X.K X.mg X.base CX k C m ds) (he : PE X o ta) (hr : Room k X.A) (hx : Passes CX X E) (ha : PA X (e :: es) t)
    (hst : starEach (e :: es) X.env = (false, eval e X.env) :: starEach es X.env := by rfl) (hpl : (backTo pos (starEach es X.env)).any (·.1) = false := by rfl)
    (ht : eval (.Call (.Attribute o m apos) (e :: es) [] pos) X.env = (do
      let ov ← eval o X.env
      standAt apos.atName
      let (f, first) ← holding [ov] (getMethod ov m pl)
      callWith pos f first (backTo pos (starEach (e :: es) X.env)) (backToKw pos (keywordEach [] X.env))) := by rfl) :
    PE X (.Call (.Attribute o m apos) (e :: es) [] pos) (ClX.tCMeth C (spD X.K ds) E ta t) := by
  obtain ⟨p, g, mc, fd, ps, F, r, c, hb⟩ := d.ex
  exact ClX.pe_cmeth (pl := pl) he r c ((F.raw hb .nil).imp fun _ _ _ _ h => spD_nil h) hr hx ha hst hpl ht
theorem pe_mkV {i : Nat} {nm : Str} (d : Ct X.prog X.w X.K X.mg X.base CX k nm C ds) (hr : Room (k + 1) X.A) (hx : Passes CX X E) (hN : X.N[i]? = some x) (hv : Vis X.env.scope x) (ha : PA X (e :: es) t) (hdb : (x == ("__debug__" : Str)) = false := by decide) (hcd : (x == ("__classdict__" : Str)) = false := by decide)
    (he : starEach (e :: es) X.env = (false, eval e X.env) :: starEach es X.env := by rfl) (hpl : (backTo pos (starEach es X.env)).any (·.1) = false := by rfl) : PE X (.Call (.Name x p) (e :: es) [] pos) (tMakeV i C (spD X.K ds) E t) := by
  obtain ⟨f, fd, ps, F, M, hm, hb⟩ := d.ex
  refine ⟨fun pins s σ H Q I h => ?_⟩
  refine wpAny_Call_Name_kw (raw_name hN hv I h.1 (fun u r => ?_) hdb hcd)
  cases (show u = Value.ref C from r)
  refine PySem.W.callWith_K (h₀ := X.base) I.ok.mod.kin M.kp (thn (ha.run pos pins s σ H _ I h.2) fun us s1 ⟨vs, H1, I1, r, q⟩ => ⟨I1.kIn, ?_⟩) he hpl
  exact run_make M F hr hb .nil hx I1 r q
end
end Gm
/-! != of instances with an own == -/
namespace Gm
open PySem PySem.Spec PyProof.Rows L2 PySem.W Builtin
section
variable {prog : Program} {w : World} {A : Around} {E : Value → Shared → Prop} {s : Shared} {K : Frag} {x C f : Addr} {h₀ : Heap} {m : Str → Option Value} {ox : Obj} {od : Option Obj} {b tb : Value}
theorem ne_bound {M : Model} {args : List Value} {Q : Option Value → Shared → Prop} (X : K.In s.heap) (I : InstAt s.heap x ox C od) (hs : findIn K (.ref C) "__ne__" = some (some (.builtin "object.__ne__")))
    (h : wpAny M A (call (.builtin "object.__ne__") (.ref x :: args)) (fun v => Q (some v)) E s) : wpAny M A (callSpecialIfBound? (.ref x) "__ne__" args) Q E s := by
  simp only [callSpecialIfBound?, bindSpecialIfBound?]
  refine wpAny_holding (wpAny_bind (wpAny_bind (wpAny_bind (I.type.here ((looks_findIn X hs).here ?_)))))
  simp only [F.cmp_object.ne.bind]
  refine wpAny_bind (wpAny_askSetting (wpAny_ite ?_))
  have fin : wpAny M A (call (.builtin "object.__ne__") ([.ref x] ++ args) >>= fun v => pure (some v)) Q E s := wpAny_bind (wpAny_mono h (fun v s' h' => wpAny_pure h') fun _ _ h' => h')
  split
  · exact wpAny_bind (wpAny_pure (wpAny_pure (by exact fin)))
  · exact wpAny_tryCatch (wpAny_bind (wpAny_pure (wpAny_pure (by exact fin))))
theorem ne_call {Q : Value → Shared → Prop} (hu : A.in1.units < cLine) (X : K.In s.heap) (I : InstAt s.heap x ox C od) (hm : mroIn K C (.type "object") = some true) (hs : findIn K (.ref C) "__eq__" = some (some (.ref f))) (hf : isFn K (.ref f) = true)
    (h : wpAny (model prog w) A.in1 (call (.ref f) [.ref x, b]) (fun v s' => ∃ c, v = .bool c ∧ Q (.bool (!c)) s') E s) : wpAny (model prog w) A (call (.builtin "object.__ne__") [.ref x, b]) Q E s := by
  refine wpAny_call (codeAny_call_builtin F.cmp_object.ne.plain F.cmpEntry_ne (check_slot F.cmpKind_ne F.cmpSplit_ne (I.type.andThen (looks_mroIn X hm)) (F.cmpArgs_ne _ _) ?_))
  unfold Builtin.«object.__ne__»
  refine wpAny_bind (m := slotArgs "__ne__" 1 _) (wpAny_pure ?_)
  refine wpAny_bind (wpAny_cRoomFor hu ?_)
  refine wpAny_bind (m := callSpecialIfBound? (.ref x) (Str.ofString "__eq__") _) (ifBound_K X I hs hf (wpAny_mono h (fun v s' hv => ?_) fun _ _ e => e))
  obtain ⟨c, rfl, q⟩ := hv
  exact wpAny_bind (wpAny_pure (wpAny_pure q))
theorem ne_K {L : Addr} {Q : Value → Shared → Prop} (hu : A.units < cLine) (hu1 : A.in1.units < cLine) (Fr' : Fr h₀ L s.heap m) (X₀ : K.In h₀) (I : InstAt s.heap x ox C od) (hb : Looks (model prog w) s.heap (typeOf b) tb) (hn : notFirst K C tb = true) (hm : mroIn K C (.type "object") = some true)
    (hne : findIn K (.ref C) "__ne__" = some (some (.builtin "object.__ne__"))) (hs : findIn K (.ref C) "__eq__" = some (some (.ref f))) (hf : isFn K (.ref f) = true)
    (h : wpAny (model prog w) A.in1 (call (.ref f) [.ref x, b]) (fun v s' => ∃ c, v = .bool c ∧ Q (.bool (!c)) s') E s) : wpAny (model prog w) A (richCompare .NotEq (.ref x) b) Q E s := by
  have X := X₀.keeps Fr'.keep
  have one : wpAny (model prog w) A (tryCompare (.ref x) (cmpInfo .NotEq).2.1 b) (fun r s' => ∃ v, r = some v ∧ Q v s') E s := by
    unfold tryCompare
    refine wpAny_bind (m := callSpecialIfBound? (.ref x) (Str.ofString "__ne__") _) (ne_bound X I hne (ne_call hu1 X I hm hs hf (wpAny_mono h (fun v s' hv => ?_) fun _ _ e => e)))
    obtain ⟨c, rfl, q⟩ := hv
    exact ⟨c, rfl, wpAny_pure ⟨_, rfl, q⟩⟩
  unfold richCompare
  simp only [oneThing_ref]
  refine wpAny_holding (wpAny_bind (wpAny_cRoomFor hu ?_))
  refine wpAny_bind (I.type.here (wpAny_bind (hb.here ?_)))
  split
  · rename_i q
    have e : subIn K tb (.ref C) = some false := by
      rcases Bool.or_eq_true_iff.mp hn with e | e
      · rw [beq_iff_eq.mp e] at q; simp at q
      · exact beq_iff_eq.mp e
    refine wpAny_bind ((looks_subIn X e).here ?_)
    simp only [Bool.false_eq_true, if_false]
    refine wpAny_bind (wpAny_mono one (fun r s' z => ?_) fun _ _ e => e)
    obtain ⟨v, rfl, hq⟩ := z
    exact wpAny_pure hq
  · refine wpAny_bind (wpAny_pure ?_)
    simp only [Bool.false_eq_true, if_false]
    refine wpAny_bind (wpAny_mono one (fun r s' z => ?_) fun _ _ e => e)
    obtain ⟨v, rfl, hq⟩ := z
    exact wpAny_pure hq
end
/-- x != y, x an instance of the class at C with the text's own == and no != of its own -/
def rNeO (K : PySem.W.Frag) (C : Addr) (sp : Sp) (E : XK) : R2 := fun x y H Q => ∃ a dx fs t, x = .ref a ∧ H a = some (.ins C dx fs) ∧ TyX K H y t ∧ PySem.W.notFirst K C t = true ∧ sp [x, y] H (fun v H' => ∃ b, v = .bl b ∧ Q (.bl (!b)) H') E
section
variable {X : Cx} {CX : CXT} {k : Nat} {C f : Addr} {fd : FuncData} {ps : List Str} {sp : Sp} {E : XK}
theorem op_neO (F : FnOk X.prog X.w X.K X.mg X.base CX k f fd ps sp) (hr : Room (k + 1) X.A) (hne : PySem.W.findIn X.K (.ref C) "__ne__" = some (some (.builtin "object.__ne__"))) (hm : PySem.W.mroIn X.K C (.type "object") = some true) (hs : PySem.W.findIn X.K (.ref C) "__eq__" = some (some (.ref f))) (hf : PySem.W.isFn X.K (.ref f) = true) (hb : Binds X.K fd ps []) (hx : Passes CX X E) : OpR X (compareOp .NotEq) (rNeO X.K C sp E) := by
  intro pins s σ H x y v u Q I rx ry h
  obtain ⟨a, dx, fs, t, rfl, ha, ty, hn, h⟩ := h
  cases (show v = Value.ref a from rx)
  obtain ⟨mA, J, _⟩ := ins_get I.hok ha
  obtain ⟨od, J, _⟩ := J.look
  obtain ⟨m, hF⟩ := I.fr
  obtain ⟨Pk, Z, pk, _⟩ := kit_of I ry ty
  show wpAny (model X.prog X.w) X.A (richCompare .NotEq (.ref a) u) (EP X pins σ Q) X.xe s
  refine ne_K (tb := t) hr.units0 hr.in1.units0 hF I.ok.mod.kin J (Z.ty _ _ I.kIn pk) hn hm hne hs hf ?_
  have hl : ([Value.ref a, u] ++ []).length = ps.length := by rw [← F.len _ _ _ _ h]; rfl
  refine wpAny_call (codeAny_mono (F.run X.A.in1 X.stack s H ⟨[.ref a, u], []⟩ [.ref a, u] [.ref a, y] _ E hr.in1 I.env0.in1 (by simpa using hb s [.ref a, u] I.kIn hl) (.cons rfl (.cons ry .nil)) h) fun r s' hq => ?_)
  cases r with
  | error e => exact hx pins σ H s e s' I hq
  | ok fl =>
    cases fl with
    | ret w =>
      obtain ⟨z, H', I', rz, b, ez, q⟩ := I.after hq
      subst ez
      cases rz
      exact ⟨b, rfl, .bl (!b), H', I', rfl, q⟩
    | next => exact False.elim hq
    | brk => exact False.elim hq
    | cont => exact False.elim hq
end
section
variable {X : Cx} {CX : CXT} {k : Nat} {C : Addr} {ds : DS} {E : XK}
theorem o_ne (d : Sm X.prog X.w X.K X.mg X.base CX k C "__eq__" ds) (hne : PySem.W.findIn X.K (.ref C) "__ne__" = some (some (.builtin "object.__ne__"))) (hm : PySem.W.mroIn X.K C (.type "object") = some true) (hr : Room (k + 1) X.A) (hx : Passes CX X E) : OpR X (compareOp .NotEq) (rNeO X.K C (spD X.K ds) E) := by
  obtain ⟨f, fd, ps, F, h1, h2, h3⟩ := d.ex
  exact op_neO F hr hne hm h1 h2 h3 hx
end
section
variable {w : Wd} {S : List Own} {k : KE} {C : Addr} {f : DS} {E : XK}
theorem rr_neO {x y : Ent} {t : Value} {gs : List (Str × D)} (hx : IsObj x S C gs) (ht : tyE S y = some t) (hi : ∀ C, t = .ref C → InsTy w.K C) (hn : PySem.W.notFirst w.K C t = true)
    (h : RS w f E [x, y] S fun e S1 => ∃ b, e = .d (.bl b) ∧ k (.d (.bl (!b))) S1) : RR w (rNeO w.K C (spD w.K f) E) x y S k := fun R H as u v Q rl hu hv c => by
  obtain ⟨a, dx, fs, rfl, q2, q3⟩ := isObj_at hx rl hu
  refine ⟨a, dx, fs, t, rfl, q2, ty_of rl hv ht hi, hn, h R H as _ _ rl ⟨hu, hv, trivial⟩ fun v' e' S' R' H' as' a1 a2 a3 a4 ⟨b, e1, e4⟩ => ?_⟩
  subst e1
  cases a4
  exact ⟨b, rfl, c _ _ S' R' H' as' a1 a2 a3 (ok_d (Den.bl (!b))) e4⟩
end
end Gm
/-! class methods by keywords; a try whose error has no name -/
namespace Gm
open PySem PySem.Spec L2
/-- C.m(k = v, ..), m a class method -/
def tCMethK (C : Addr) (sp : Sp) (n : Nat) (pm : List Nat) (E : XK) (ta : TE) (tk : TA) : TE := fun σ H Q => ta σ H fun x H1 => x = .ref C ∧ tk σ H1 fun zs H2 => zs.length = n ∧ sp (.ref C :: permA .non pm zs) H2 Q E
structure CMtK (P : Program) (w0 : World) (K : PySem.W.Frag) (mg : Str → Option Value) (base : Heap) (CX : CXT) (k : Nat) (C : Addr) (m : Str) (ks : List Str) (pm : List Nat) (ds : DS) : Prop where
  ex : ∃ (p g : Addr) (mc : Value) (fd : FuncData) (ps : List Str), FnOk P w0 K mg base CX k g fd ps (spD K ds) ∧ ClX.CRead K C mc ∧ ClX.CMet K C mc m p g ∧ KB K fd ps ks 1 pm
section
variable {X : Cx} {CX : CXT} {k n : Nat} {C : Addr} {m x : Str} {ks : List Str} {pm : List Nat} {ds : DS} {E : XK} {o : Expr} {kws : List Keyword} {pos apos p : Pos} {ta : TE} {tk : TA} {pl : Sem Bool}
theorem pe_cmK (d : CMtK X.prog X.w X.K X.mg X.base CX k C m ks pm ds) (he : PE X o ta) (hr : Room k X.A) (hx : Passes CX X E) (hkw : PK X kws tk) (hn : ks.length = n := by rfl)
    (hall : (backToKw pos (keywordEach kws X.env)).all (·.1.isSome) = true := by rfl) (hks : (backToKw pos (keywordEach kws X.env)).filterMap (·.1) = ks := by rfl)
    (hpl : ((backTo pos (starEach [] X.env)).any (·.1) || (backToKw pos (keywordEach kws X.env)).any (·.1.isNone)) = false := by rfl)
    (ht : eval (.Call (.Attribute o m apos) [] kws pos) X.env = (do
      let ov ← eval o X.env
      standAt apos.atName
      let (f, first) ← holding [ov] (getMethod ov m pl)
      callWith pos f first (backTo pos (starEach [] X.env)) (backToKw pos (keywordEach kws X.env))) := by rfl) :
    PE X (.Call (.Attribute o m apos) [] kws pos) (tCMethK C (spD X.K ds) n pm E ta tk) := by
  obtain ⟨p, g, mc, fd, ps, F, r, c, hb⟩ := d.ex
  refine ⟨fun pins s σ H Q I h => ?_⟩
  refine PySem.W.methodCall_KW (pl := pl) (thn (he.run pins s σ H _ I h) fun u s1 ⟨x, H1, I1, rx, ex, q⟩ => ?_) ht
  subst ex
  obtain rfl : u = Value.ref C := rx
  refine ClX.getmethcm_ok I1 r c fun s2 I2 => ?_
  refine PySem.W.callWith_of (P := PySem.W.MethP X.K _ g (.ref C)) hpl (PySem.W.keeps_M c.fi) (PyProof.Rows.evalArgs_kw2_nil hall (thn (hkw.run pos _ s2 σ H1 _ I2 q) fun ws s3 ⟨zs, H2, I3, rz, l3, q2⟩ => ⟨⟨ClX.pin_at I3, I3.kIn⟩, ?_⟩))
  rw [hks, List.nil_append]
  have lw : ws.length = ks.length := by rw [hn, ← l3, rz.length]
  have rv : Vals (V.ref C :: permA .non pm zs) ([Value.ref C] ++ permA .none pm ws) := .cons rfl (vals_perm rz pm)
  have hl : ([Value.ref C] ++ permA .none pm ws).length = ps.length := by rw [← rv.length]; exact F.len _ _ _ _ q2
  have z : wpAny (model X.prog X.w) X.A (call (.ref s1.heap.objs.size) [] (ks.zip ws)) (EP X ((s1.heap.objs.size, PySem.W.methodObj (.ref g) (.ref C)) :: pins) σ Q) X.xe s3 := by
    refine wpAny_call (PySem.W.method_call (ClX.pin_at I3) (codeAny_mono (F.run X.A X.stack s3 H2 ⟨[.ref C], ks.zip ws⟩ _ _ Q E hr I3.env0 (hb.to s3 [.ref C] ws rfl lw) rv q2) fun r s' hq => ?_))
    cases r with
    | error e => exact hx _ σ H2 s3 e s' I3 hq
    | ok fl =>
      cases fl with
      | ret u => exact I3.after hq
      | next | brk | cont => exact False.elim hq
  exact thn z fun _ _ y => ClX.unpinE y
end
section
variable {w : Wd} {Γ : Env} {S : List Own} {k : KE} {E : XK}
theorem le_cmethK {C : Addr} {ta : TE} {t : TA} {n : Nat} {pm : List Nat} {f : DS} (h : LE w ta Γ S fun x S1 => x = .d (.cls C) ∧ LA w t Γ S1 fun es S2 => es.length = n ∧ RS w f E (.d (.cls C) :: permA (.d .non) pm es) S2 k) : LE w (tCMethK C (spD w.K f) n pm E ta t) Γ S k := fun σ R H as Q rl s c => by
  refine h σ R H as _ rl s fun v x S1 R1 H1 as1 rl1 s1 p1 e1 ⟨h1, h2⟩ => ?_
  subst h1
  cases e1
  refine ⟨rfl, ?_⟩
  refine h2 σ R1 H1 as1 _ rl1 (s.mono s1 p1) fun vs es S2 R2 H2 as2 rl2 s2 p2 e2 ⟨hn, h3⟩ => ?_
  refine ⟨by rw [e2.len]; exact hn, ?_⟩
  exact h3 R2 H2 as2 (.ref C :: permA .non pm vs) Q rl2 ⟨ok_d (Den.cls _), ents_perm e2 pm⟩ fun v' e' S' R' H' as' a1 a2 a3 a4 a5 => c v' e' S' R' H' as' a1 ((s1.trans s2).trans a2) ((p1.trans p2).trans a3) a4 a5
end
/-- try .. except X: without a name -/
def tTryO (K : PySem.W.Frag) (c : Value) (tb : WX → TS) (ts : Addr → Value → Option Addr → TS) : TS := fun D σ H => tb (wOnly K c ts (fun _ _ _ _ => False) D) D σ H
theorem ps_tryO {X : Cx} {x : Str} {c : Value} {body suite : List Stmt} {b₀ : Stmt} {np pos pos' : Pos} {tb : WX → TS} {ts : Addr → Value → Option Addr → TS} (hc : Names X x c)
    (hb : ∀ (W : WX) (pn : List (Addr × Obj)) (xe : Value → Shared → Prop), Takes (X.tr pn xe) W → PSs (X.tr pn xe) body (tb W))
    (hsu : ∀ (a : Addr) (oe : Obj) (cls : Value) (d : Option Addr) (pn : List (Addr × Obj)), Zc cls d oe → (∃ vs, oe.data = .fields vs) → PSs (X.suite a ((a, oe) :: pn)) (b₀ :: suite) (ts a cls d))
    (hs : X.stack = X.env :: X.outer := by rfl) (hf : X.env.frame = some X.env.locals := by rfl) :
    PS X (.Try body [.ExceptHandler (some (.Name x np)) none (b₀ :: suite) pos'] [] [] pos) (tTryO X.K c tb ts) :=
  ps_try_only hs hf hc (takes0 (X := X)) (fun W pn xe tk _ => hb W pn xe tk) hsu
theorem ls_tryO {w : Wd} {Γ : Env} {S : List Own} {G : GE} {c : Value} {n : Nat} {tb : WX → TS} {ts : Addr → Value → Option Addr → TS} (x : KX)
    (hb : ∀ (r : Hp) (W : WX), ExOk { w with R0 := r } (EW n W) x → LS { w with R0 := r } (tb W) Γ S G)
    (hs : ∀ C u S1, x C u S1 → PySem.W.exmOne w.K (.ref C) c = some true ∧ ∀ a dd, LS w (ts a (.ref C) (some dd)) (List.replicate n none) S1 G) (hn : Γ.length = n) : LS w (tTryO w.K c tb ts) Γ S G := fun D σ R H as rl s e => by
  refine hb R _ ?_ D σ R H as rl.root s ⟨fun Γ' S' σ' R' H' as' u a b q => e.nx Γ' S' σ' R' H' as' u (rl.unroot a).1 b q, fun v y S' R' H' as' u a b q => e.rt v y S' R' H' as' u (rl.unroot a).1 b q,
    fun Γ' S' σ' R' H' as' u a b q => e.bk Γ' S' σ' R' H' as' u (rl.unroot a).1 b q, fun Γ' S' σ' R' H' as' u a b q => e.ct Γ' S' σ' R' H' as' u (rl.unroot a).1 b q⟩
  intro C d v u S1 R1 H1 as1 rl1 hd hv hx σ1 hl
  obtain ⟨h1, h2⟩ := hs C u S1 hx
  obtain ⟨rl2, sb⟩ := rl.unroot rl1
  refine ⟨true, h1, fun _ a ha => ?_, fun z => Bool.noConfusion z⟩
  have st0 : Sts w.K R1 as1 σ1 (List.replicate n none) := ⟨by rw [List.length_replicate]; exact hl, fun j y q => by
    rw [List.getElem?_replicate] at q
    split at q <;> cases q⟩
  exact h2 a d _ _ R1 H1 as1 rl2 st0 (e.up sb)
end Gm
/-! an error object made by name: C(value = u) -/
namespace PySem.KwX
open PySem PySem.Spec PyProof PyProof.Rows PySem.W PySem.HandSPX Builtin
section
variable {prog : Program} {w : World} {A : Around} {E : Value → Shared → Prop} {R : Result → Shared → Prop} {h : Heap} {g : Array GenState} {d : Drawn} {t : Nat} {os : OsState}
variable {nm q : Str} {C N : Addr} {bs bm bmB : List Value} {hdct : Bool} {sn : List Str} {sub : List Value} {ab : Bool} {col : Option Bool} {dd : Option Addr} {k0 k1 k2 k3 k5 : Option Value} {B newId initId : String} {kw : List (Str × Value)}
theorem check_kw {M : Model} {Q : Unit → Shared → Prop} (F : ExcBaseFacts B newId initId bmB) (hT : ∀ X : String, bm.contains (.type X) = bmB.contains (.type X)) (hC : h.get? C = some (excClassObj nm q C N bs bm hdct sn sub ab col dd k0 k1 k2 k3 k5 newId)) (hq : Q () ⟨h, g, d, t, os⟩) : wpAny M A (checkBuiltinCall newId ⟨[.ref C], kw⟩) Q E ⟨h, g, d, t, os⟩ := by
  have hcont : (Value.ref C :: bm).contains (.type B) = true := by rw [List.contains_cons, hT, F.hasB, Bool.or_true]
  have hstar := F.noStar
  simp only [checkBuiltinCall, F.newKind, F.newSplit, F.newRow]
  repeat (first | refine wpAny_loadPart_at hC ?_ | (refine wpAny_isSubtype_exc hC ?_; rw [hcont]) | refine wpAny_staticBase_exc hC ?_ | refine wpAny_madeBy_exc hC ?_ | simp only [bne_self_eq_false, Bool.false_eq_true, if_false] | wp_step)
  all_goals first | exact hq | skip
theorem new_kw (F : ExcBaseFacts B newId initId bmB) (hT : ∀ X : String, bm.contains (.type X) = bmB.contains (.type X))
    (hC : h.get? C = some (excClassObj nm q C N bs bm hdct sn sub ab col dd k0 k1 k2 k3 k5 newId))
    (hq : R (.ok (.ret (.ref (h.objs.size + 1)))) ⟨(h.push (W.kdv_tup [])).push (excO C h.objs.size), g, d, t, os⟩) :
    codeAny (model prog w) A (.builtin newId ⟨[.ref C], kw⟩) R ⟨h, g, d, t, os⟩ := by
  have hends := F.ends
  have hcB : (Value.ref C :: bm).contains (.type B) = true := by rw [List.contains_cons, hT, F.hasB, Bool.or_true]
  have hcA : (Value.ref C :: bm).contains (.type "AttributeError") = false := by rw [List.contains_cons, hT, F.noAttr]; rfl
  have hcN : (Value.ref C :: bm).contains (.type "NameError") = false := by rw [List.contains_cons, hT, F.noName]; rfl
  have hrest : ([] : List Value).length ≤ sizeLine := by decide
  refine codeAny_builtinAt F.entry ?_
  unfold Builtin.«BaseException.__new__»
  refine wpAt_bind ?_
  show wpAt _ _ _ (stack >>= _) _ _ _
  refine wpAt_bind (wpAt_stack fun p below => wpAt_of_wpAny ?_)
  wp_walk
  refine wpAt_of_wpAny ?_
  rw [F.owner]
  repeat (first | with_reducible refine wpAny_madeHere_exc F.canon hC ?_ | with_reducible refine wpAny_loadPart_at hC ?_ | (with_reducible refine wpAny_isSubtype_exc hC ?_; first | rw [hcB] | rw [hcA] | rw [hcN]) | wp_step)
  show R _ _
  rw [Heap.size_push]
  exact hq
theorem type_kw (F : ExcBaseFacts B newId initId bmB) (hT : ∀ X : String, bm.contains (.type X) = bmB.contains (.type X)) {fI : Addr} {Q : Fin → Shared → Prop}
    (hC : h.get? C = some (excClassObj nm q C N bs bm hdct sn sub ab col dd k0 k1 k2 k3 k5 newId))
    (hi : W.Looks (model prog w) h (typeLookup (.ref C) "__init__") (some (.ref fI))) (hb : ∀ self, W.Looks (model prog w) h (bindSpecial (.ref fI) self) (.ref fI, [self]))
    (hq : codeAny (model prog w) A (.call (.ref fI) ⟨[.ref (h.objs.size + 1)], kw⟩)
      (fun r s' => match r with | .ok (.ret v) => v = .none ∧ Q (.done (.ret (.ref (h.objs.size + 1)))) s' | .ok _ => False | .error e => E e s')
      ⟨(h.push (W.kdv_tup [])).push (excO C h.objs.size), g, d, t, os⟩) :
    wpAny (model prog w) A (Builtin.«type.__call__» ⟨[.ref C], kw⟩) Q E ⟨h, g, d, t, os⟩ := by
  repeat (first | with_reducible refine wpAny_loadPart_at hC ?_ | with_reducible refine wpAny_madeBy_exc hC ?_ | wp_step)
  refine codeAny_call_builtin_code (Code.quiet_builtin _ F.quiet) (check_kw F hT hC ?_)
  refine new_kw F hT hC ?_
  show wpAny _ _ _ _ _ _
  have k : ∀ b o, h.get? b = some o → ((h.push (W.kdv_tup [])).push (excO C h.objs.size)).get? b = some o := fun b o e => Heap.get?_push_of_some _ (Heap.get?_push_of_some _ e)
  have hC₁ := k _ _ hC
  have hget : ((h.push (W.kdv_tup [])).push (excO C h.objs.size)).get? (h.objs.size + 1) = some (excO C h.objs.size) := by heap_get
  have hcC : (Value.ref C :: bm).contains (.ref C) = true := by simp
  have i1 := hi.keeps k
  have b1 := (hb (.ref (h.objs.size + 1))).keeps k
  unfold isInstance
  repeat (first | with_reducible refine wpAny_loadPart_at hget ?_ | (with_reducible refine wpAny_isSubtype_exc hC₁ ?_; rw [hcC]) | wp_step)
  show wpAny _ _ (typeLookup (.ref C) _) _ _ _
  refine i1.at ?_
  refine wpAny_holding (wpAny_bind (b1.at ?_))
  refine wpAny_bind (wpAny_call (codeAny_mono hq fun r s' z => ?_))
  rcases r with e | (v | _ | _ | _) <;> first | exact z | exact z.elim | skip
  obtain ⟨rfl, z⟩ := z
  first
    | exact wpAny_pure (wpAny_pure z)
    | (wp_walk; exact z)
theorem check_tc {M : Model} {Q : Unit → Shared → Prop} (hC : h.get? C = some (excClassObj nm q C N bs bm hdct sn sub ab col dd k0 k1 k2 k3 k5 newId)) (hq : Q () ⟨h, g, d, t, os⟩) : wpAny M A (checkBuiltinCall "type.__call__" ⟨[.ref C], kw⟩) Q E ⟨h, g, d, t, os⟩ := by
  have f3 := tc_sub
  have hTy : (⟨h, g, d, t, os⟩ : Shared).TypeIs (.ref C) "type" := ⟨_, hC, rfl⟩
  simp only [checkBuiltinCall, tc_kind, tc_split]
  repeat (any_goals (first | assumption | with_reducible refine wpAny_loadPart_at hC ?_ | with_reducible refine wpAny_onRaise ?_ | with_reducible refine wpAny_map ?_ | wp_step))
theorem call_kw (F : ExcBaseFacts B newId initId bmB) (hT : ∀ X : String, bm.contains (.type X) = bmB.contains (.type X)) {fI : Addr}
    (hC : h.get? C = some (excClassObj nm q C N bs bm hdct sn sub ab col dd k0 k1 k2 k3 k5 newId))
    (hi : W.Looks (model prog w) h (typeLookup (.ref C) "__init__") (some (.ref fI))) (hb : ∀ self, W.Looks (model prog w) h (bindSpecial (.ref fI) self) (.ref fI, [self]))
    (hq : codeAny (model prog w) (A.under (.builtin "type.__call__" ⟨[.ref C], kw⟩)) (.call (.ref fI) ⟨[.ref (h.objs.size + 1)], kw⟩) (W.InitBack (h.objs.size + 1) R)
      ⟨(h.push (W.kdv_tup [])).push (excO C h.objs.size), g, d, t, os⟩) :
    codeAny (model prog w) A (.call (.ref C) ⟨[], kw⟩) R ⟨h, g, d, t, os⟩ := by
  have f1 := tc_lookup
  have f2 := tc_bind (.ref C)
  have f3 := tc_sub
  have hTy : (⟨h, g, d, t, os⟩ : Shared).TypeIs (.ref C) "type" := ⟨_, hC, rfl⟩
  refine codeAny_of_tree ?_
  show wpAny _ _ (callAny (.ref C) _) _ _ _
  repeat (any_goals (first | assumption | with_reducible refine wpAny_loadPart_at hC ?_ | wp_step))
  refine ⟨rfl, ?_⟩
  refine codeAny_call_builtin_at (Code.quiet_builtin _ (by decide +kernel)) entry_typeCall (check_tc hC (type_kw F hT hC hi hb ?_))
  refine codeAny_mono hq fun r s' z => ?_
  rcases r with e | (v | _ | _ | _) <;> exact z
end
end PySem.KwX
/-! error objects that are made and kept -/
namespace Gm
open PySem PySem.Spec L2
theorem upd3 {H : Hp} {a dx : Addr} {o o' p : HO} (h : dx ≠ a) : upd (upd (upd H a o) dx p) a o' = upd (upd H dx p) a o' := by
  funext b
  by_cases hb : b = a
  · rw [hb, upd_same, upd_same]
  · rw [upd_ne hb, upd_ne hb]
    by_cases hd : b = dx
    · rw [hd, upd_same, upd_same]
    · rw [upd_ne hd, upd_ne hd, upd_ne hb]
/-- C(e) -/
def tMkE (C : Addr) (ta : TA) : TE := fun σ H Q => ta σ H fun vs H1 => ∃ z, vs = [z] ∧ ∀ a dx, H1 a = none → H1 dx = none → dx ≠ a → Q (.ref a) (upd (upd H1 dx (exd dx [(("value" : Str), z)])) a (exo a C (some dx)))
section
variable {X : Cx} {x : Str} {C : Addr} {k : Nat} {e : Expr} {es : List Expr} {ta : TA} {p pos : Pos}
theorem pe_mkE (d : Xt X.prog X.w X.K X.mg X.base k x C) (hr : Room (k + 1) X.A) (hx : Passes CX0 X (fun _ _ _ => False)) (ha : PA X (e :: es) ta) (hg : Gl X x := by rfl)
    (hdb : (x == ("__debug__" : Str)) = false := by decide) (he : starEach (e :: es) X.env = (false, eval e X.env) :: starEach es X.env := by rfl) (hpl : (backTo pos (starEach es X.env)).any (·.1) = false := by rfl) :
    PE X (.Call (.Name x p) (e :: es) [] pos) (tMkE C ta) := by
  obtain ⟨T, hval, hm, fI, fd, iC, tI, F1, hb⟩ := d
  refine ⟨fun pins s σ H Q I h => ?_⟩
  obtain ⟨nm, q, N, bs, bm, sn, sub, ab, col, dd, k0, k1, k2, k3, k5, hC, hbm⟩ := T.cls
  refine wpAny_Call_Name_kw (ld_glob I hg hm ?_ hdb)
  refine PySem.W.callWith_K (h₀ := X.base) I.ok.mod.kin T.kC (thn (ha.run pos pins s σ H _ I h) fun us s1 ⟨vs, H1, I1, r1, z, ev, q1⟩ => ⟨I1.kIn, ?_⟩) he hpl
  subst ev
  show wpAny _ _ (call (.ref C) us) _ _ _
  obtain ⟨hp, g, dr, tk, os⟩ := s1
  have hsz : hp.objs.size ≤ hp.objs.size + 1 := Nat.le_succ _
  have hn : H1 (hp.objs.size + 1) = none := I1.hok.fresh hsz
  have kk : ∀ b o, hp.get? b = some o → ((hp.push (PySem.W.kdv_tup us)).push (PySem.HandSPX.excO C hp.objs.size)).get? b = some o := fun b o e => Heap.get?_push_of_some _ (Heap.get?_push_of_some _ e)
  have hget : ((hp.push (PySem.W.kdv_tup us)).push (PySem.HandSPX.excO C hp.objs.size)).get? (hp.objs.size + 1) = some (PySem.HandSPX.excO C hp.objs.size) := by heap_get
  have I2 : Inv X pins σ (upd H1 (hp.objs.size + 1) (exo (hp.objs.size + 1) C none)) ⟨(hp.push (PySem.W.kdv_tup us)).push (PySem.HandSPX.excO C hp.objs.size), g, dr, tk, os⟩ :=
    I1.laid (t' := tk) (a := hp.objs.size + 1) (o := exo (hp.objs.size + 1) C none) (h' := (hp.push (PySem.W.kdv_tup us)).push (PySem.HandSPX.excO C hp.objs.size)) kk hsz (exo_ok hget)
  have hq : spXi X.K [V.ref (hp.objs.size + 1), z] (upd H1 (hp.objs.size + 1) (exo (hp.objs.size + 1) C none)) (fun v H2 => v = .non ∧ Q (.ref (hp.objs.size + 1)) H2) (fun _ _ _ => False) := by
    refine ⟨_, C, z, rfl, T, hval, upd_same, fun dx hdx hne => ⟨rfl, ?_⟩⟩
    rw [upd_ne hne] at hdx
    rw [upd3 hne]
    exact q1 _ dx hn hdx hne
  have r2 : Vals [V.ref (hp.objs.size + 1), z] (Value.ref (hp.objs.size + 1) :: us) := .cons rfl r1
  have hl : (Value.ref (hp.objs.size + 1) :: us ++ []).length = (["self", "value"] : List Str).length := by
    have e := r2.length
    rw [List.append_nil, ← e]; rfl
  have hus : us.length ≤ sizeLine := by
    rw [← Paired.length r1, sizeLine_eq]
    show 1 ≤ _
    omega
  refine wpAny_call (PySem.HandSPX.call_own F.excBase_ValueError (fun Y => PySem.HandSPX.refsVE_contains Y bm hbm) (I1.kIn _ _ hC) (PySem.W.looks_findIn I1.kIn iC) (fun self => PySem.W.bind_fn I1.kIn self tI) hus
    (codeAny_mono (F1.run _ X.stack _ _ ⟨Value.ref (hp.objs.size + 1) :: us, []⟩ (Value.ref (hp.objs.size + 1) :: us) _ _ (fun _ _ _ => False) (hr.make C us []) (I2.env0.make C us []) (by have := hb _ (Value.ref (hp.objs.size + 1) :: us) I2.kIn hl; rwa [List.append_nil] at this) r2 hq) fun r s' hq' => ?_))
  cases r with
  | error er => exact hx pins σ _ _ er s' I2 hq'
  | ok fl =>
    cases fl with
    | ret u =>
      obtain ⟨v, H', I', rv, ev, q⟩ := I2.after hq'
      subst ev
      exact ⟨rv, .ref _, H', I', rfl, q⟩
    | next => exact False.elim hq'
    | brk => exact False.elim hq'
    | cont => exact False.elim hq'
end
/-- .. by name -/
structure XtK (P : Program) (w0 : World) (K : PySem.W.Frag) (mg : Str → Option Value) (base : Heap) (k : Nat) (x : Str) (C : Addr) : Prop where
  cls : OexC K C
  val : PySem.W.findIn K (.ref C) "value" = some none
  gl : mg x = some (.ref C)
  ex : ∃ (f : Addr) (fd : FuncData), PySem.W.findIn K (.ref C) "__init__" = some (some (.ref f)) ∧ PySem.W.typeIn K (.ref f) = some (.type "function") ∧ FnOk P w0 K mg base CX0 k f fd ["self", "value"] (spXi K) ∧ KB K fd ["self", "value"] ["value"] 1 [0]
section
variable {X : Cx} {x : Str} {C : Addr} {k : Nat} {kws : List Keyword} {tk : TA} {p pos : Pos}
theorem pe_mkEK (d : XtK X.prog X.w X.K X.mg X.base k x C) (hr : Room (k + 1) X.A) (hx : Passes CX0 X (fun _ _ _ => False)) (hkw : PK X kws tk) (hg : Gl X x := by rfl)
    (hall : (backToKw pos (keywordEach kws X.env)).all (·.1.isSome) = true := by rfl) (hks : (backToKw pos (keywordEach kws X.env)).filterMap (·.1) = ([("value" : Str)] : List Str) := by rfl)
    (hdb : (x == ("__debug__" : Str)) = false := by decide) (hpl : ((backTo pos (starEach [] X.env)).any (·.1) || (backToKw pos (keywordEach kws X.env)).any (·.1.isNone)) = false := by rfl) :
    PE X (.Call (.Name x p) [] kws pos) (tMkE C tk) := by
  obtain ⟨T, hval, hm, fI, fd, iC, tI, F1, hb⟩ := d
  refine ⟨fun pins s σ H Q I h => ?_⟩
  obtain ⟨nm, q, N, bs, bm, sn, sub, ab, col, dd, k0, k1, k2, k3, k5, hC, hbm⟩ := T.cls
  refine wpAny_Call_Name_kw (ld_glob I hg hm ?_ hdb)
  refine PySem.W.callWith_KW0 (first := []) (h₀ := X.base) I.ok.mod.kin T.kC hall (thn (hkw.run pos pins s σ H _ I h) fun ws s1 ⟨zs, H1, I1, r1, z, ev, q1⟩ => ⟨I1.kIn, ?_⟩) hpl
  subst ev
  rw [hks, List.nil_append]
  obtain ⟨hp, g, dr, tk, os⟩ := s1
  have hsz : hp.objs.size ≤ hp.objs.size + 1 := Nat.le_succ _
  have hn : H1 (hp.objs.size + 1) = none := I1.hok.fresh hsz
  have kk : ∀ b o, hp.get? b = some o → ((hp.push (PySem.W.kdv_tup [])).push (PySem.HandSPX.excO C hp.objs.size)).get? b = some o := fun b o e => Heap.get?_push_of_some _ (Heap.get?_push_of_some _ e)
  have hget : ((hp.push (PySem.W.kdv_tup [])).push (PySem.HandSPX.excO C hp.objs.size)).get? (hp.objs.size + 1) = some (PySem.HandSPX.excO C hp.objs.size) := by heap_get
  have I2 : Inv X pins σ (upd H1 (hp.objs.size + 1) (exo (hp.objs.size + 1) C none)) ⟨(hp.push (PySem.W.kdv_tup [])).push (PySem.HandSPX.excO C hp.objs.size), g, dr, tk, os⟩ :=
    I1.laid (t' := tk) (a := hp.objs.size + 1) (o := exo (hp.objs.size + 1) C none) (h' := (hp.push (PySem.W.kdv_tup [])).push (PySem.HandSPX.excO C hp.objs.size)) kk hsz (exo_ok hget)
  have hq : spXi X.K [V.ref (hp.objs.size + 1), z] (upd H1 (hp.objs.size + 1) (exo (hp.objs.size + 1) C none)) (fun v H2 => v = .non ∧ Q (.ref (hp.objs.size + 1)) H2) (fun _ _ _ => False) := by
    refine ⟨_, C, z, rfl, T, hval, upd_same, fun dx hdx hne => ⟨rfl, ?_⟩⟩
    rw [upd_ne hne] at hdx
    rw [upd3 hne]
    exact q1 _ dx hn hdx hne
  have lw : ws.length = (["value"] : List Str).length := by rw [← r1.length]; rfl
  have r2 : Vals [V.ref (hp.objs.size + 1), z] ([Value.ref (hp.objs.size + 1)] ++ permA .none [0] ws) := .cons rfl (vals_perm r1 [0])
  refine wpAny_call (PySem.KwX.call_kw F.excBase_ValueError (fun Y => PySem.HandSPX.refsVE_contains Y bm hbm) (I1.kIn _ _ hC) (PySem.W.looks_findIn I1.kIn iC) (fun self => PySem.W.bind_fn I1.kIn self tI)
    (codeAny_mono (F1.run _ X.stack _ _ ⟨[Value.ref (hp.objs.size + 1)], ([("value" : Str)] : List Str).zip ws⟩ _ _ _ (fun _ _ _ => False) (hr.make C [] _) (I2.env0.make C [] _) (hb.to _ [Value.ref (hp.objs.size + 1)] ws rfl lw) r2 hq) fun r s' hq' => ?_))
  cases r with
  | error er => exact hx pins σ _ _ er s' I2 hq'
  | ok fl =>
    cases fl with
    | ret u =>
      obtain ⟨v, H', I', rv, ev, q⟩ := I2.after hq'
      subst ev
      exact ⟨rv, .ref _, H', I', rfl, q⟩
    | next => exact False.elim hq'
    | brk => exact False.elim hq'
    | cont => exact False.elim hq'
end
/-! ### asking it -/
theorem inst_eo {X : Cx} {a C dd : Addr} {pins : List (Addr × Obj)} {σ : L2.St} {H : Hp} {s : Shared} {fs : List (Str × V)} (I : Inv X pins σ H s) (ha : H a = some (exo a C (some dd))) (hd : H dd = some (exd dd fs)) :
    ∃ (oe od : Obj) (mA : Str → Option Value), PySem.W.InstAt s.heap a oe C (some od) ∧ (∀ nm, PySem.W.lookIn nm od = some (mA nm)) ∧ ∀ f, RelO (fs.lookup f) (mA f) := by
  obtain ⟨t1, ho⟩ := exo_at I.hok ha
  obtain ⟨mA, hns, hr⟩ := exd_at I.hok hd
  obtain ⟨od, hod, hl⟩ := lookIn_ns hns
  exact ⟨_, od, mA, ⟨ho, rfl, rfl, hod⟩, hl, hr⟩
def rIsE (K : PySem.W.Frag) : List V → Hp → VK → Prop := fun xs H Q => ∃ (a C dd : Addr) (fs : List (Str × V)) (c : V) (cv : Value) (b : Bool), xs = [.ref a, c] ∧ H a = some (exo a C (some dd)) ∧ H dd = some (exd dd fs) ∧ ExcC K C ∧ ClsV c cv ∧ PySem.W.kitOne K (.ref C) cv = some b ∧ Q (.bl b) H
theorem call_isE {X : Cx} : CallR X (.builtin "isinstance") (rIsE X.K) := by
  intro pins s σ H xs us Q I r h
  obtain ⟨a, C, dd, fs, c, cv, b, rfl, ha, hd, hC, hc, e, q⟩ := h
  obtain ⟨oe, od, mA, J, _, _⟩ := inst_eo I ha hd
  have hcl : (PySem.W.clsIn X.K C).isSome = true := by
    obtain ⟨cd, hc, _⟩ := PySem.W.any_some hC.hd
    rw [hc]; rfl
  have Z := PySem.W.kitx_exc (x := a) (ox := oe) (od := some od) hcl hC.hg hC.hk hC.hs hC.ha hC.hn hC.ht hC.hm
  obtain ⟨u1, u2, rfl, r1, r2⟩ := vals2 r
  cases (show u1 = Value.ref a from r1)
  have e2 := hc.eq r2
  subst e2
  exact PySem.W.kia_one Z I.kIn J e (fun z => nomatch z) fun tk => ⟨.bl b, H, I.kept (t' := tk) fun _ _ z => z, rfl, q⟩
theorem b_isE {X : Cx} {e1 e2 : Expr} {te1 te2 : TE} {p pos : Pos} (K : PySem.W.Frag) (hm : X.mg "isinstance" = none) (h1 : PE X e1 te1) (h2 : PE X e2 te2)
    (hg : Gl X "isinstance" := by rfl) (hs : starEach [e1, e2] X.env = (false, eval e1 X.env) :: starEach [e2] X.env := by rfl) (hs2 : starEach [e2] X.env = (false, eval e2 X.env) :: starEach [] X.env := by rfl) (hpl : (backTo pos (starEach [e2] X.env)).any (·.1) = false := by rfl) (hK : X.K = K := by rfl) :
    PE X (.Call (.Name "isinstance" p) [e1, e2] [] pos) (tCB (rIsE K) (tCons te1 (tCons te2 tNil))) := by
  subst hK
  exact pe_callB call_isE hg hm (by decide +kernel) (pa_cons h1 (pa_cons h2 pa_nil hs2) hs) (he := hs) (hpl := hpl)
def tXvE (K : PySem.W.Frag) (f : Str) (te : TE) : TE := fun σ H Q => te σ H fun x H1 => ∃ (a C dd : Addr) (fs : List (Str × V)) (v : V), x = .ref a ∧ H1 a = some (exo a C (some dd)) ∧ H1 dd = some (exd dd fs) ∧ XfC K C ∧ PySem.W.findIn K (.ref C) f = some none ∧ fs.lookup f = some v ∧ Q v H1
theorem pe_xvE {X : Cx} {e : Expr} {te : TE} {pos : Pos} {n : Str} (K : PySem.W.Frag) (he : PE X e te)
    (hb : attributeBase e n X.env (eval e X.env) = eval e X.env := by rfl) (hK : X.K = K := by rfl) : PE X (.Attribute e n pos) (tXvE K n te) := by
  subst hK
  refine ⟨fun pins s σ H Q I h => attr_of hb (thn (he.run pins s σ H _ I h) fun u s1 hh => ?_)⟩
  obtain ⟨x, H1, I1, rx, a, C, dd, fs, v, rfl, ha, hd, T, hno, l, q⟩ := hh
  cases (show u = Value.ref a from rx)
  obtain ⟨oe, od, mA, J, hl, hr⟩ := inst_eo I1 ha hd
  obtain ⟨z, hu, ru⟩ := RelO.some_of (v := v) (o := mA n) (by rw [← l]; exact hr n)
  exact HandSPX.exc_get I1.kIn J T.ga T.gg T.exC (PySem.W.findObj_own T.hdC hno rfl (by rw [hl, hu])) (handed_of ru) ⟨v, H1, I1.tok _, ru, q⟩
section
variable {w : Wd} {Γ : Env} {S : List Own} {k : KE}
theorem le_mkE {C : Addr} {t : TA} (h : LA w t Γ S fun es S1 => ∃ u, es = [.d u] ∧ k (.d (.eob C u)) S1) : LE w (tMkE C t) Γ S k := fun σ R H as Q rl s c => by
  refine h σ R H as _ rl s fun vs es S1 R1 H1 as1 rl1 s1 p1 e1 ⟨u, h1, h2⟩ => ?_
  subst h1
  match vs, e1 with
  | [z], ⟨hz, _⟩ =>
    have hz' : Den w.K R1 z u := hz
    refine ⟨z, rfl, fun a dx ha hd hne => ?_⟩
    obtain ⟨rl2, s2⟩ := rl1.alloc hd (exd dx [(("value" : Str), z)])
    have ha2 : (upd H1 dx (exd dx [(("value" : Str), z)])) a = none := by rw [upd_ne (fun z => hne z.symm)]; exact ha
    obtain ⟨rl3, s3⟩ := rl2.alloc ha2 (exo a C (some dx))
    refine c _ _ S1 _ _ as1 rl3 ((s1.trans s2).trans s3) p1 (ok_d (Den.eob (dd := dx) (z := z) upd_same ?_ (hz'.mono (s2.trans s3)))) h2
    rw [upd_ne hne, upd_same]
theorem rc_isE {C : Addr} {c : D} {cv : Value} {b : Bool} {u : D} (hC : ExcC w.K C) (hc : clsD c = some cv) (hk : PySem.W.kitOne w.K (.ref C) cv = some b) (q : k (.d (.bl b)) S) : RC w (rIsE w.K) [.d (.eob C u), .d c] S k := fun R H as us Q rl hu cn => by
  match us, hu with
  | [v, z], ⟨h1, h2, _⟩ =>
    have h1' : Den w.K R v (.eob C u) := h1
    cases h1' with
    | eob e1 e2 e3 => exact ⟨_, C, _, _, z, cv, b, rfl, rl.sub _ _ e1, rl.sub _ _ e2, hC, clsD_v h2 hc, hk, cn _ _ S R H as rl (Sub.refl _) (Pre.refl _) (ok_d (Den.bl b)) q⟩
theorem le_xvE {C : Addr} {u : D} {te : TE} (hX : XfC w.K C) (hno : PySem.W.findIn w.K (.ref C) "value" = some none) (h : LE w te Γ S fun e S1 => e = .d (.eob C u) ∧ k (.d u) S1) : LE w (tXvE w.K "value" te) Γ S k := fun σ R H as Q rl s c =>
  h σ R H as _ rl s fun v e S1 R1 H1 as1 rl1 s1 p1 e1 ⟨h1, h2⟩ => by
    subst h1
    have e1' : Den w.K R1 v (.eob C u) := e1
    cases e1' with
    | eob a1 a2 a3 => exact ⟨_, C, _, _, _, rfl, rl1.sub _ _ a1, rl1.sub _ _ a2, hX, hno, by simp, c _ _ S1 R1 H1 as1 rl1 s1 p1 (ok_d a3) h2⟩
end
end Gm
/-! repr of None, of ints, of texts, of lists -/
namespace Gm
open PySem PySem.Spec PyProof.Rows L2
def gReprA (K : PySem.W.Frag) : List V → Hp → VK → Prop := fun xs H Q => (∃ i : Int, xs = [.int i] ∧ i.natAbs.log2 < 1920 ∧ Q (.str (Str.ofString (toString i))) H) ∨ (∃ z : Str, xs = [.str z] ∧ (reprText z).length ≤ sizeLine ∧ Q (.str (reprText z)) H) ∨ gReprN K xs H Q
theorem c_reprA {X : Cx} (hg : X.A.guards = some []) (hu : X.A.units + 64 < cLine) : CallR X (.builtin "repr") (gReprA X.K) := by
  intro pins s σ H xs us Q I r h
  rcases h with ⟨i, rfl, hi, q⟩ | ⟨z, rfl, hz, q⟩ | h
  · obtain ⟨u, rfl, ru⟩ := r.one
    obtain ⟨t, rfl⟩ := ru
    exact PySem.P.repr_of_int hi ⟨.str (Str.ofString (toString i)), H, I.tok _, ⟨_, rfl⟩, q⟩
  · obtain ⟨u, rfl, ru⟩ := r.one
    obtain ⟨t, rfl⟩ := ru
    exact PySem.P.repr_of_str ⟨.str (reprText z), H, I.tok _, ⟨_, rfl⟩, q⟩ hz
  · exact c_reprN hg hu pins s σ H xs us Q I r h
theorem b_reprA {X : Cx} {e : Expr} {te : TE} {p pos : Pos} (hgu : X.A.guards = some []) (hu : X.A.units + 64 < cLine) (hm : X.mg "repr" = none) (h1 : PE X e te) (hK : X.calm = true := by rfl)
    (hg : Gl X "repr" := by rfl) (hs : starEach [e] X.env = (false, eval e X.env) :: starEach [] X.env := by rfl) (hpl : (backTo pos (starEach [] X.env)).any (·.1) = false := by rfl) :
    PE X (.Call (.Name "repr" p) [e] [] pos) (tCB (gReprA X.K) (tCons te tNil)) :=
  pe_callB (c_reprA hgu hu) hg hm (by decide +kernel) (pa_cons h1 pa_nil hs) (he := hs) (hpl := hpl)
section
variable {w : Wd} {Γ : Env} {S : List Own} {k : KE}
theorem rc_rpI {i : Int} (hi : i.natAbs.log2 < 1920) (q : k (.d (.str (Str.ofString (toString i)))) S) : RC w (gReprA w.K) [.d (.int i)] S k := fun R H as us Q rl hu c => by
  obtain ⟨v, rfl, hv⟩ := one_ent hu
  have hv' : Den w.K R v (.int i) := hv
  cases hv'
  exact .inl ⟨i, rfl, hi, c _ _ S R H as rl (Sub.refl _) (Pre.refl _) (ok_d (Den.str _)) q⟩
theorem rc_rpS {z : Str} (hz : (reprText z).length ≤ sizeLine) (q : k (.d (.str (reprText z))) S) : RC w (gReprA w.K) [.d (.str z)] S k := fun R H as us Q rl hu c => by
  obtain ⟨v, rfl, hv⟩ := one_ent hu
  have hv' : Den w.K R v (.str z) := hv
  cases hv'
  exact .inr (.inl ⟨z, rfl, hz, c _ _ S R H as rl (Sub.refl _) (Pre.refl _) (ok_d (Den.str _)) q⟩)
theorem rc_rpD {x : Ent} (h : RC w (gReprN w.K) [x] S k) : RC w (gReprA w.K) [x] S k := fun R H as us Q rl hu c => .inr (.inr (h R H as us Q rl hu c))
end
end Gm
set_option maxHeartbeats 8000000
set_option exponentiation.threshold 10000
namespace My
open PySem L2 Gm
def topS (i : Nat) : Stmt := PySem.Challenge.pw_fitsizes_k54_errors_made.main.body.getD i (.Pass ⟨0, 0, 0, 0⟩)
abbrev s_law_bag : Stmt := topS 13
abbrev N_law_bag : List Str := ["script", "blend", "great", "cell"]
theorem sc_law_bag : FnScope N_law_bag ["script"] (defScope s_law_bag) := ⟨rfl, rfl, rfl, by decide +kernel, rfl, by decide +kernel, by decide +kernel⟩
abbrev s_law_draw : Stmt := topS 14
abbrev N_law_draw : List Str := ["bag", "many", "drawn", "turn", "mixed"]
theorem sc_law_draw : FnScope N_law_draw ["bag", "many"] (defScope s_law_draw) := ⟨rfl, rfl, rfl, by decide +kernel, rfl, by decide +kernel, by decide +kernel⟩
abbrev s_law_made : Stmt := topS 15
abbrev N_law_made : List Str := ["thing", "found"]
theorem sc_law_made : FnScope N_law_made ["thing"] (defScope s_law_made) := ⟨rfl, rfl, rfl, by decide +kernel, rfl, by decide +kernel, by decide +kernel⟩
abbrev s_law_flags : Stmt := topS 16
abbrev N_law_flags : List Str := ["e", "flags"]
theorem sc_law_flags : FnScope N_law_flags ["e"] (defScope s_law_flags) := ⟨rfl, rfl, rfl, by decide +kernel, rfl, by decide +kernel, by decide +kernel⟩
abbrev slaw : Stmt := topS 17
abbrev Nlaw : List Str := ["script", "bag", "turn", "thing", "made", "place", "e", "spot"]
theorem sclaw : FnScope Nlaw ["script"] (defScope slaw) := ⟨rfl, rfl, rfl, by decide +kernel, rfl, by decide +kernel, by decide +kernel⟩
abbrev sSizeErrorinit : Stmt := inClass (topS 1) 0
abbrev NSizeErrorinit : List Str := ["self", "value"]
theorem scSizeErrorinit : FnScope NSizeErrorinit ["self", "value"] (defScope sSizeErrorinit) := ⟨rfl, rfl, rfl, by decide +kernel, rfl, by decide +kernel, by decide +kernel⟩
/-- names that are still the built-ins -/
structure Blt (mg : Str → Option Value) : Prop where
  sorted : mg "sorted" = none
  set : mg "set" = none
  reversed : mg "reversed" = none
  len : mg "len" = none
  int : mg "int" = none
  range : mg "range" = none
  abs : mg "abs" = none
  max : mg "max" = none
  min : mg "min" = none
  list : mg "list" = none
  isinstance : mg "isinstance" = none
  tuple : mg "tuple" = none
  enumerate : mg "enumerate" = none
  ValueError : mg "ValueError" = none
abbrev lz (s : List Int) : D := .lst (s.map D.int)
theorem ixI {s : List Int} {i : Int} (h0 : 0 ≤ i) (h : i < s.length) : atI (s.map D.int) i = some (.int (s.getD i.toNat 0)) := by
  unfold atI ixN
  rw [List.length_map, if_pos h0, if_pos h]
  show (s.map D.int)[i.toNat]? = _
  rw [List.getElem?_map, List.getD_eq_getElem?_getD, List.getElem?_eq_getElem (show i.toNat < s.length by omega)]
  rfl
theorem ixL {s : List Int} (h : 0 < s.length) : atI (s.map D.int) (-1) = some (.int (s.getD (s.length - 1) 0)) := by
  unfold atI ixN
  rw [List.length_map, if_neg (by decide), if_pos (show -(s.length : Int) ≤ -1 by omega)]
  show (s.map D.int)[(-1 + (s.length : Int)).toNat]? = _
  have e : (-1 + (s.length : Int)).toNat = s.length - 1 := by omega
  rw [e, List.getElem?_map, List.getD_eq_getElem?_getD, List.getElem?_eq_getElem (show s.length - 1 < s.length by omega)]
  rfl
theorem len_lz (s : List Int) : lenOf (lz s) = some s.length := by show some (s.map D.int).length = _; rw [List.length_map]
theorem neI {a b : Int} (h : (!decide (V.int a = V.int b)) = true) : a ≠ b := fun e => by subst e; simp at h
theorem eqI {a b : Int} (h : (!decide (V.int a = V.int b)) = false) : a = b := by simp at h; exact h
theorem eqI' {a b : Int} (h : decide (V.int a = V.int b) = true) : a = b := by simp at h; exact h
theorem neI' {a b : Int} (h : decide (V.int a = V.int b) = false) : a ≠ b := by simp at h; exact h

local macro_rules | `(tactic| walk_at "go") => `(tactic| (first
  | ((with_reducible refine le_var (e := ?e) ?h ?_); (case h => rfl))
  | with_reducible refine le_int ?_
  | with_reducible refine le_op ?_
  | with_reducible refine rr_int0 ?_
  | with_reducible refine rr_bl0 ?_
  | with_reducible refine le_cb ?_
  | with_reducible refine la_cons ?_
  | with_reducible refine la_nil ?_
  | with_reducible refine rc_int ?_
  | with_reducible refine ls_seq ?_
  | with_reducible refine ls_set ?_
  | with_reducible refine ls_ret ?_
  | with_reducible refine ls_next ?_
  | with_reducible refine ls_drop ?_
  | with_reducible refine ls_fld ?_
  | with_reducible refine le_methK ?_
  | with_reducible refine le_callK ?_
  | with_reducible refine ls_if ?_
  | with_reducible refine lt_test ?_
  | ((with_reducible refine rr_ixO (ds := ?ds) (d := ?d) ?h1 ?h2 ?_); (case h1 => rfl); (case h2 => rfl))
  | ((with_reducible refine rr_ixT (ds := ?ds) (d := ?d) ?h ?_); (case h => rfl))
  | with_reducible refine le_un ?_
  | with_reducible refine r1_int ?_
  | with_reducible refine ls_asg ?_
  | with_reducible refine lg_name ?_
  | with_reducible refine lg_tup2 ?_
  | with_reducible refine lg_tup3 ?_
  | with_reducible refine lg_tup4 ?_
  | with_reducible refine lg_tup5 ?_
  | with_reducible refine lg_sub ?_
  | with_reducible refine le_tup ?_
  | with_reducible refine le_lst ?_
  | with_reducible refine le_bl ?_
  | with_reducible refine le_str ?_
  | with_reducible refine le_non ?_
  | with_reducible refine le_cls ?_
  | with_reducible refine le_ty ?_
  | with_reducible refine la_perm ?_
  | with_reducible refine le_chain ?_
  | with_reducible refine le_call ?_
  | with_reducible refine le_bmL ?_
  | with_reducible refine le_bmL0 ?_
  | with_reducible refine le_if ?_
  | with_reducible refine lt_and ?_
  | with_reducible refine lt_or ?_
  | with_reducible refine lt_not ?_
  | with_reducible refine lt_tb ?_
  | with_reducible refine le_andV ?_
  | with_reducible refine le_orV ?_
  | with_reducible refine le_notV ?_
  | with_reducible refine le_fld ?_
  | with_reducible refine le_meth ?_
  | with_reducible refine le_prop ?_
  | with_reducible refine le_slL ?_
  | with_reducible refine le_slT ?_
  | with_reducible refine lo_none ?_
  | with_reducible refine lo_some ?_
  | with_reducible refine le_listRg2 ?_
  | with_reducible refine lt_yes ?_
  | with_reducible refine lcd_yes ?_
  | with_reducible refine ls_par ?_
  | with_reducible refine ls_par3 ?_
  | with_reducible refine ls_retN ?_
  | with_reducible refine ls_brk ?_
  | with_reducible refine ls_cont ?_
  | with_reducible refine rc_len (len_lz _) ?_
  | ((with_reducible refine rc_len (n := ?n) ?h ?_); (case h => rfl))
  | ((with_reducible refine rc_lenO (ds := ?ds) ?h ?_); (case h => rfl))
  | with_reducible refine rc_abs ?_
  | with_reducible refine rc_max2 ?_
  | with_reducible refine rc_min2 ?_
  | ((with_reducible refine rr_eq (u := ?u) (v := ?v) ?h1 ?h2 ?h3 ?_); (case h1 => rfl); (case h2 => rfl); (case h3 => rfl))
  | ((with_reducible refine rr_ne (u := ?u) (v := ?v) ?h1 ?h2 ?h3 ?_); (case h1 => rfl); (case h2 => rfl); (case h3 => rfl))
  | with_reducible refine rr_isN ?_
  | with_reducible refine rr_notN ?_
  | refine ⟨_, rfl, sz rfl, ?_⟩
  | refine ⟨_, rfl, ?_⟩
  ))

local macro_rules | `(tactic| walk_at "gg") => `(tactic| repeat walk_at "go")
local macro_rules | `(tactic| walk_at "envle") => `(tactic| repeat (first | exact EnvLe.nil | refine EnvLe.same rfl ?_ | refine EnvLe.none ?_))

-- s_law_bag s_law_draw s_law_made s_law_flags slaw

section
/-- what == asks of the classes -/
structure EqC (K : PySem.W.Frag) (C : Addr) : Prop where
  ty : InsTy K C
  own : PySem.W.kitOne K (.ref C) (.ref C) = some true
  nf : PySem.W.notFirst K C (.ref C) = true
  kn : PySem.W.kitOne K (.type "NoneType") (.ref C) = some false
  ki : PySem.W.kitOne K (.type "int") (.ref C) = some false
  ks : PySem.W.kitOne K (.type "str") (.ref C) = some false
  kl : PySem.W.kitOne K (.type "list") (.ref C) = some false
  kt : PySem.W.kitOne K (.type "tuple") (.ref C) = some false
  fn : PySem.W.notFirst K C (.type "NoneType") = true
  fi : PySem.W.notFirst K C (.type "int") = true
  fs : PySem.W.notFirst K C (.type "str") = true
  fl : PySem.W.notFirst K C (.type "list") = true
  ft : PySem.W.notFirst K C (.type "tuple") = true
end

section
variable {P : Program} {w0 : World} {K : PySem.W.Frag} {mg : Str → Option Value} {base : Heap}
theorem ok_xinit {f : Addr} {fd : FuncData} (F : Fun K "__init__" "SizeError.__init__" sSizeErrorinit f fd) : FnOk P w0 K mg base CX0 1 f fd ["self", "value"] (spXi K) := by
  refine F.ok scSizeErrorinit (fun vs H Q E ⟨a, C, z, h, _⟩ => by rw [h]; rfl) (fun cdv A outer s H vs Q E hr h => ?_)
  obtain ⟨a, C, z, rfl, hC, hn, ha, hq⟩ := h
  refine ⟨_, pss_one (ps_ost (pv 0) (pv 1)), ?_⟩
  dsimp only [L2.cxOf, L2.Cx.nox]
  exact ⟨z, rfl, ⟨.ref a, rfl, a, C, rfl, hC, hn, .inl ⟨ha, fun dx h1 h2 => hq dx h1 h2⟩⟩⟩
end

local macro_rules | `(tactic| walk_at "go") => `(tactic| (first
  | ((with_reducible refine le_var (e := ?e) ?h ?_); (case h => rfl))
  | with_reducible refine le_int ?_
  | with_reducible refine le_op ?_
  | with_reducible refine rr_int0 ?_
  | with_reducible refine rr_bl0 ?_
  | with_reducible refine le_cb ?_
  | with_reducible refine la_cons ?_
  | with_reducible refine la_nil ?_
  | with_reducible refine rc_int ?_
  | with_reducible refine ls_seq ?_
  | with_reducible refine ls_set ?_
  | with_reducible refine ls_ret ?_
  | with_reducible refine ls_next ?_
  | with_reducible refine ls_drop ?_
  | with_reducible refine ls_fld ?_
  | with_reducible refine le_methK ?_
  | with_reducible refine le_callK ?_
  | with_reducible refine ls_if ?_
  | with_reducible refine lt_test ?_
  | ((with_reducible refine rr_ixO (ds := ?ds) (d := ?d) ?h1 ?h2 ?_); (case h1 => rfl); (case h2 => rfl))
  | ((with_reducible refine rr_ixT (ds := ?ds) (d := ?d) ?h ?_); (case h => rfl))
  | with_reducible refine le_un ?_
  | with_reducible refine r1_int ?_
  | with_reducible refine ls_asg ?_
  | with_reducible refine lg_name ?_
  | with_reducible refine lg_tup2 ?_
  | with_reducible refine lg_tup3 ?_
  | with_reducible refine lg_tup4 ?_
  | with_reducible refine lg_tup5 ?_
  | with_reducible refine lg_sub ?_
  | with_reducible refine le_tup ?_
  | with_reducible refine le_lst ?_
  | with_reducible refine le_bl ?_
  | with_reducible refine le_str ?_
  | with_reducible refine le_non ?_
  | with_reducible refine le_cls ?_
  | with_reducible refine le_ty ?_
  | with_reducible refine la_perm ?_
  | with_reducible refine le_chain ?_
  | with_reducible refine le_call ?_
  | with_reducible refine le_bmLat (r := rPopAt) ?_
  | with_reducible refine le_bmL ?_
  | with_reducible refine le_bmL0 ?_
  | with_reducible refine le_if ?_
  | with_reducible refine lt_and ?_
  | with_reducible refine lt_or ?_
  | with_reducible refine lt_not ?_
  | with_reducible refine lt_tb ?_
  | with_reducible refine le_andV ?_
  | with_reducible refine le_orV ?_
  | with_reducible refine le_notV ?_
  | with_reducible refine le_fld ?_
  | with_reducible refine le_meth ?_
  | with_reducible refine le_prop ?_
  | with_reducible refine le_slL ?_
  | with_reducible refine le_slT ?_
  | with_reducible refine lo_none ?_
  | with_reducible refine lo_some ?_
  | with_reducible refine le_listRg2 ?_
  | with_reducible refine lt_yes ?_
  | with_reducible refine lcd_yes ?_
  | with_reducible refine ls_par ?_
  | with_reducible refine ls_par3 ?_
  | with_reducible refine le_dget ?_
  | with_reducible refine rr_ipI ?_
  | with_reducible refine ls_dput ?_
  | with_reducible refine ls_daug ?_
  | with_reducible refine lp_nil ?_
  | with_reducible refine lp_cons ?_
  | with_reducible refine ls_retN ?_
  | with_reducible refine ls_brk ?_
  | with_reducible refine ls_cont ?_
  | with_reducible refine rc_len (len_lz _) ?_
  | ((with_reducible refine rc_len (n := ?n) ?h ?_); (case h => rfl))
  | ((with_reducible refine rc_lenO (ds := ?ds) ?h ?_); (case h => rfl))
  | with_reducible refine rc_abs ?_
  | with_reducible refine rc_max2 ?_
  | with_reducible refine rc_min2 ?_
  | ((with_reducible refine rr_eq (u := ?u) (v := ?v) ?h1 ?h2 ?h3 ?_); (case h1 => rfl); (case h2 => rfl); (case h3 => rfl))
  | ((with_reducible refine rr_ne (u := ?u) (v := ?v) ?h1 ?h2 ?h3 ?_); (case h1 => rfl); (case h2 => rfl); (case h3 => rfl))
  | with_reducible refine rr_isN ?_
  | with_reducible refine rr_notN ?_
  | refine ⟨_, _, _, _, _, rfl, rfl, rfl, rfl, rfl, lt_ble rfl, ?_⟩
  | refine ⟨_, _, _, rfl, rfl, rfl, lt_ble rfl, ?_⟩
  | refine ⟨_, _, _, _, rfl, rfl, rfl, rfl, ?_⟩
  | refine ⟨_, rfl, sz rfl, ?_⟩
  | refine ⟨_, rfl, ?_⟩
  ))

local macro_rules | `(tactic| walk_at "gg") => `(tactic| repeat walk_at "go")
local macro_rules | `(tactic| walk_at "envle") => `(tactic| repeat (first | exact EnvLe.nil | refine EnvLe.same rfl ?_ | refine EnvLe.none ?_))

/-! ### the bag of draws -/
section
variable {P : Program} {w0 : World} {K : PySem.W.Frag} {mg : Str → Option Value} {base : Heap}
abbrev bagD (g : Addr) (x z b : Int) : List (Str × D) := [("great", .cls g), ("left", .int x), ("turn", .int z), ("blend", .int b)]
/-- the two things of the store that are the bag, after n draws at most -/
def Bag (n : Nat) (o u : Own) : Prop := ∃ (g : Addr) (xs : List Int) (x z b : Int), o = .lat g (xs.map D.int) ∧ u = .dct (bagD g x z b) ∧ (∀ y ∈ xs, 0 ≤ y) ∧ 0 ≤ x ∧ 0 ≤ b ∧ b < 2 ^ 62 ∧ 0 ≤ z ∧ z ≤ n
theorem Bag.ng {n : Nat} {o u : Own} (h : Bag n o u) : o ≠ .gone ∧ u ≠ .gone := by obtain ⟨g, xs, x, z, b, rfl, rfl, _⟩ := h; exact ⟨(by intro z; cases z), (by intro z; cases z)⟩
theorem Bag.mono {n m : Nat} {o u : Own} (h : Bag n o u) (l : n ≤ m) : Bag m o u := by obtain ⟨g, xs, x, z, b, h0, h1, h2, h3, h4, h5, h6, h7⟩ := h; exact ⟨g, xs, x, z, b, h0, h1, h2, h3, h4, h5, h6, by omega⟩
def dsBag : DS := ds (α := List Int) (fun a es S => es = [.d (.scr a)] ∧ S = [] ∧ a.length ≤ 63) (fun a e S' => ∃ o u, e = .own 1 ∧ S' = [o, u] ∧ Bag 0 o u)
theorem ok_bag {f : Addr} {fd : FuncData} (F : Fun K "_law_bag" "_law_bag" s_law_bag f fd) (T : Blt mg) : FnOk P w0 K mg base CX0 1 f fd ["script"] (spD K dsBag) := by
  refine fn0 F sc_law_bag (fun es S p e h => by obtain ⟨a, ⟨h, _⟩, _⟩ := h; rw [h]; rfl) (fun cdv A outer s H E hr w es S p e hK hA h => ?_)
  subst hK
  obtain ⟨ns, ⟨rfl, rfl, hns⟩, hp⟩ := h
  refine ⟨_, (pss_cons (ps_par (i := 1) (j := 2) (by rfl) sc_law_bag.nd rfl rfl (by decide) rfl rfl (pa_cons pe_int (pa_cons (pe_lst pa_nil) pa_nil)) (by rfl))
    (pss_cons (ps_for PassesOwn.never rfl (pi_list (pv 0)) (gn 3 sc_law_bag.nd)
      (pss_cons (sset 1 (pe_op op_mod (b_int T.int (pe_op op_add (pe_op op_mulW (pv 1) pe_int) (pv 3))) pe_int) sc_law_bag.nd)
      (pss_one (ps_if (pt_cmpR op_ge (b_abs T.abs (pv 3)) (pe_op op_powW pe_int pe_int) (nomark _))
        (pss_one (ps_expr (pe_bm PySem.F.plainAttrs_list PySem.F.slot_list_append PySem.F.type_list_append mt_append (pv 2) (pa_cons (b_abs T.abs (pv 3)) pa_nil))))
        pss_nil))))
    (pss_one (ps_ret (pe_disp (pps_cons pe_str (pv 2) (pps_cons pe_str pe_int (pps_cons pe_str pe_int (pps_cons pe_str (pv 1) pps_nil)))) rfl rfl (by intro z; cases z) (by decide)))))), ?_⟩
  try dsimp only [L2.cxOf, L2.Cx.nox]
  refine ls_seq (ls_par (la_cons (le_int (la_cons (le_lstO ?_)))))
  walk_at "gg"
  refine ⟨_, _, rfl, ?_⟩
  walk_at "gg"
  refine ls_forS ?_
  walk_at "gg"
  refine ⟨fun i Γ S => ∃ (b : Int) (xs : List Int) (c : Option Ent), Γ = [some (.d (.scr ns)), some (.d (.int b)), some (.own 0), c] ∧ S = [.lst (xs.map D.int)] ∧ xs.length ≤ i ∧ (∀ y ∈ xs, 0 ≤ y) ∧ 0 ≤ b ∧ b < 2 ^ 62, ⟨11, [], _, rfl, rfl, Nat.le_refl _, by simp, by decide, by decide⟩, ?_, ?_⟩
  · rintro i n _ _ hi ⟨b, xs, c, rfl, rfl, hx, hxs, hb0, hb⟩
    walk_at "gg"
    refine rr_int (wide_mul (a := 62) (b := 20) (by omega) (by decide) (by decide) (by decide) (by decide)) ?_
    walk_at "gg"
    refine rr_int (by decide) ?_
    walk_at "gg"
    refine rr_int (powW (b := 10) (by decide) (by decide) (by decide)) ?_
    walk_at "gg"
    have b1 := Int.emod_nonneg (b * 1000003 + n) (show (2305843009213693951 : Int) ≠ 0 by decide)
    have b2 := Int.emod_lt_of_pos (b * 1000003 + n) (show (0 : Int) < 2305843009213693951 by decide)
    have hl := (List.getElem?_eq_some_iff.mp hi).1
    refine ⟨fun hb => ?_, fun hb => ?_⟩
    · walk_at "gg"
      refine ⟨⟨_, .inr ⟨_, rfl, rfl⟩⟩, ?_⟩
      walk_at "gg"
      refine rm_append (ds := xs.map D.int) rfl (by rw [List.length_map]; unfold sizeLine; omega) ?_
      walk_at "gg"
      refine ⟨_, xs ++ [if n < 0 then -n else n], _, rfl, by rw [List.map_append]; rfl, by rw [List.length_append]; simp; omega, fun y hy => ?_, b1, by omega⟩
      rcases List.mem_append.mp hy with hy | hy
      · exact hxs y hy
      · rw [List.mem_singleton.mp hy]; split <;> omega
    · walk_at "gg"
      exact ⟨_, xs, _, rfl, rfl, by omega, hxs, b1, by omega⟩
  · rintro _ _ ⟨b, xs, c, rfl, rfl, hx, hxs, hb0, hb⟩
    refine ls_ret (le_dispO ?_)
    walk_at "gg"
    refine ⟨rfl, _, 0, xs.map D.int, [("left", .int 0), ("turn", .int 0), ("blend", .int b)], rfl, (by show (["great", "left", "turn", "blend"] : List Str).Nodup; decide), (by show (3 : Nat) ≤ 14; decide), rfl, fun g => ?_⟩
    exact hp _ _ ⟨_, _, rfl, rfl, g, xs, 0, 0, b, rfl, rfl, hxs, Int.le_refl _, hb0, hb, Int.le_refl _, Int.le_refl _⟩
def dsDraw : DS := ds (α := Int × Nat) (fun a es S => ∃ o u, es = [.own 1, .d (.int a.1)] ∧ S = [o, u] ∧ Bag a.2 o u ∧ a.2 < 2 ^ 60 ∧ 0 < a.1 ∧ a.1 < 2 ^ 200) (fun a e S' => ∃ (d : Int) (o u : Own), e = .d (.int d) ∧ S' = [o, u] ∧ 0 ≤ d ∧ d < a.1 ∧ Bag (a.2 + 1) o u)
theorem ok_draw {f : Addr} {fd : FuncData} (F : Fun K "_law_draw" "_law_draw" s_law_draw f fd) (T : Blt mg) : FnOk P w0 K mg base CX0 1 f fd ["bag", "many"] (spD K dsDraw) := by
  refine fn0 F sc_law_draw (fun es S p e h => by obtain ⟨a, ⟨o, u, h, _⟩, _⟩ := h; rw [h]; rfl) (fun cdv A outer s H E hr w es S p e hK hA h => ?_)
  subst hK
  obtain ⟨⟨m, n⟩, ⟨o, u, rfl, rfl, ⟨g, xs, x, z, b, rfl, rfl, hxs, hx, hb0, hb, hz, hzn⟩, hn, hm, hm2⟩, hp⟩ := h
  dsimp only at hzn hn hm hm2 hp
  refine ⟨_, (pss_cons (ps_if (PW.pt (pw_and (pt_cmpR op_lt (pe_dget (units1 hr.units) (pv 0) pe_str (fun _ _ => rfl)) (pv 1) (nomark _)) (pw_and1 (pt_cmpR op_gt (b_len T.len (pe_dget (units1 hr.units) (pv 0) pe_str (fun _ _ => rfl))) pe_int (nomark _)))))
      (pss_one (ps_dput (units1 hr.units) (pv 0) pe_str (pe_bm PySem.F.plainAttrs_list PySem.F.slot_list_pop PySem.F.type_list_pop mt_popAt (pe_dget (units1 hr.units) (pv 0) pe_str (fun _ _ => rfl)) (pa_cons pe_int pa_nil)) rfl))
      pss_nil)
    (pss_cons (ps_if (pt_cmpR op_ge (pe_dget (units1 hr.units) (pv 0) pe_str (fun _ _ => rfl)) (pv 1) (nomark _))
      (pss_cons (sset 2 (pe_op op_mod (b_int T.int (pe_dget (units1 hr.units) (pv 0) pe_str (fun _ _ => rfl))) (pv 1)) sc_law_draw.nd)
      (pss_cons (ps_dput (units1 hr.units) (pv 0) pe_str (pe_op op_fdivW (b_int T.int (pe_dget (units1 hr.units) (pv 0) pe_str (fun _ _ => rfl))) (pv 1)) rfl)
      (pss_one (ps_ret (pv 2)))))
      pss_nil)
    (pss_cons (ps_daug (units1 hr.units) (pv 0) pe_str pe_int ip_add (fun _ _ _ => rfl))
    (pss_cons (sset 3 (pe_dget (units1 hr.units) (pv 0) pe_str (fun _ _ => rfl)) sc_law_draw.nd)
    (pss_cons (sset 4 (pe_op op_add (pe_op op_mulW (pe_op op_add (pe_dget (units1 hr.units) (pv 0) pe_str (fun _ _ => rfl)) (pe_op op_mulW pe_int (pv 3))) (pe_op op_powW (pe_op op_add (pv 3) pe_int) pe_int)) (pe_op op_mulW pe_int (pv 3))) sc_law_draw.nd)
    (pss_cons (sset 4 (pe_op op_mod (b_int T.int (pv 4)) pe_int) sc_law_draw.nd)
    (pss_one (ps_ret (pe_op op_mod (b_int T.int (pe_op op_fdivW (pe_op op_mod (b_int T.int (pe_op op_powW (pv 4) pe_int)) (pe_op op_add (pe_op op_powW pe_int pe_int) pe_int)) pe_int)) (pv 1)))))))))), ?_⟩
  try dsimp only [L2.cxOf, L2.Cx.nox]
  refine ls_cut (fun Γ S => ∃ (xs' : List Int) (x' : Int), Γ = [some (.own 1), some (.d (.int m)), none, none, none] ∧ S = [.lat g (xs'.map D.int), .dct (bagD g x' z b)] ∧ (∀ y ∈ xs', 0 ≤ y) ∧ 0 ≤ x') ?_ ?_
  · walk_at "gg"
    refine ⟨fun hb => ?_, fun hb => ?_⟩
    · walk_at "gg"
      refine rc_lenLat (i := 0) rfl ?_
      walk_at "gg"
      refine ⟨fun hl => ?_, fun hl => ?_⟩
      · walk_at "gg"
        cases xs with
        | nil => simp at hl
        | cons y ys =>
          refine ⟨⟨0, g, (y :: ys).map D.int, rfl, rfl⟩, ?_⟩
          walk_at "gg"
          refine rm_popLat (i := 0) (d := .int y) (ds := ys.map D.int) rfl ?_
          walk_at "gg"
          exact ⟨ys, y, rfl, rfl, fun q hq => hxs q (List.mem_cons_of_mem _ hq), hxs y (List.mem_cons_self ..)⟩
      · walk_at "gg"
        exact ⟨xs, x, rfl, rfl, hxs, hx⟩
    · walk_at "gg"
      refine ⟨fun z => Bool.noConfusion z, fun _ => ?_⟩
      walk_at "gg"
      exact ⟨xs, x, rfl, rfl, hxs, hx⟩
  · rintro _ _ ⟨xs, x, rfl, rfl, hxs, hx⟩
    walk_at "gg"
    refine ⟨fun hq => ?_, fun hq => ?_⟩
    · walk_at "gg"
      refine rr_int hm ?_
      walk_at "gg"
      refine rr_int (wide_div (b := 200) hm (by omega) (by decide) (by decide)) ?_
      walk_at "gg"
      exact hp _ _ ⟨_, _, _, rfl, rfl, Int.emod_nonneg _ (by omega), Int.emod_lt_of_pos _ hm, g, xs, x / m, z, b, rfl, rfl, hxs, Int.ediv_nonneg hx (by omega), hb0, hb, hz, by omega⟩
    · walk_at "gg"
      refine rr_int (wide_mul (a := 5) (b := 62) (by decide) (by omega) (by decide) (by decide) (by decide)) ?_
      walk_at "gg"
      refine rr_int (powW (b := 62) (by decide) (by omega) (by decide)) ?_
      walk_at "gg"
      have hz2 : ((z + 1 + 29) ^ (2 : Int).toNat).natAbs < 2 ^ 124 := by
        show ((z + 1 + 29) ^ 2).natAbs < _
        rw [Int.natAbs_pow]
        have : (z + 1 + 29).natAbs < 2 ^ 62 := by omega
        exact Nat.lt_of_lt_of_le (Nat.pow_lt_pow_left this (by decide)) (by decide)
      refine rr_int (wide_mul (a := 67) (b := 124) (by omega) hz2 (by decide) (by decide) (by decide)) ?_
      walk_at "gg"
      refine rr_int (wide_mul (a := 13) (b := 62) (by decide) (by omega) (by decide) (by decide) (by decide)) ?_
      walk_at "gg"
      refine rr_int (by decide) ?_
      walk_at "gg"
      generalize hm1 : ((b + 17 * (z + 1)) * (z + 1 + 29) ^ (2 : Int).toNat + 7919 * (z + 1)) % 2305843009213693951 = m1
      have m1a : 0 ≤ m1 := by rw [← hm1]; exact Int.emod_nonneg _ (by decide)
      have m1b : m1 < 2305843009213693951 := by rw [← hm1]; exact Int.emod_lt_of_pos _ (by decide)
      refine rr_int (powW (b := 62) (by decide) (by omega) (by decide)) ?_
      walk_at "gg"
      refine rr_int (powW (b := 10) (by decide) (by decide) (by decide)) ?_
      walk_at "gg"
      refine rr_int (by decide) ?_
      walk_at "gg"
      refine rr_int (wide_div (b := 30) (by decide) (by decide) (by decide) (by decide)) ?_
      walk_at "gg"
      refine rr_int hm ?_
      exact hp _ _ ⟨_, _, _, rfl, rfl, Int.emod_nonneg _ (by omega), Int.emod_lt_of_pos _ hm, g, xs, x, z + 1, b, rfl, rfl, hxs, hx, hb0, hb, by omega, by omega⟩
/-- the bag is made -/
theorem bag {w : Wd} {E : XK} {S : List Own} {k : KE} {ns : List Int} (hl : ns.length ≤ 63) (h : ∀ o u, Bag 0 o u → k (.own (S.length + 1)) (S ++ [o, u])) : RS w dsBag E [.d (.scr ns)] S k := by
  refine rs_call (ex0 (w := w) (E := E)) [] Pick.nil (es' := [.d (.scr ns)]) rfl rfl ⟨ns, ⟨rfl, rfl, hl⟩, fun e S' q => ?_⟩
  obtain ⟨o, u, rfl, rfl, q⟩ := q
  exact ⟨[], [o, u], rfl, rfl, by simp, h o u q⟩
/-- a draw, as its callers have it: the bag stands at the store's begin -/
theorem draw {w : Wd} {E : XK} {o u : Own} {rest : List Own} {k : KE} {m : Int} (n : Nat) (ho : Bag n o u) (hn : n < 2 ^ 60) (hm : 0 < m) (hm2 : m < 2 ^ 200)
    (h : ∀ (d : Int) (o' u' : Own), 0 ≤ d → d < m → Bag (n + 1) o' u' → k (.d (.int d)) (o' :: u' :: rest)) : RS w dsDraw E [.own 1, .d (.int m)] (o :: u :: rest) k := by
  refine rs_call (ex0 (w := w) (E := E)) [0, 1] (Pick.two (by decide) (o := o) (u := u) rfl ho.ng.1 rfl ho.ng.2) (es' := [.own 1, .d (.int m)]) rfl rfl ⟨(m, n), ⟨o, u, rfl, rfl, ho, hn, hm, hm2⟩, fun e S' q => ?_⟩
  obtain ⟨d, o', u', rfl, rfl, h1, h2, h3⟩ := q
  refine ⟨[o', u'], [], rfl, rfl, ?_, ?_⟩
  · intro x hx
    rcases List.mem_cons.mp hx with rfl | hx
    · exact h3.ng.1
    · rw [List.mem_singleton.mp hx]; exact h3.ng.2
  · show k (.d (.int d)) ((o' :: u' :: rest) ++ [])
    rw [List.append_nil]
    exact h d o' u' h1 h2 h3
end

section
theorem toPs_b : ∀ bs : List Bool, toPs (bs.map Gm.D.bl) = some (bs.map PyData.bool)
  | [] => rfl
  | b :: bs => by
    show toPs (Gm.D.bl b :: bs.map Gm.D.bl) = _
    simp only [toPs, toPs_b bs]
    rw [show toP (Gm.D.bl b) = some (.bool b) from rfl]
    rfl
theorem toP_b (bs : List Bool) : toP (.lst (bs.map Gm.D.bl)) = some (.list (bs.map PyData.bool)) := by
  simp only [toP, toPs_b]; rfl
theorem lay_b : ∀ bs : List Bool, PyData.canLayAll0 (bs.map PyData.bool) = true
  | [] => rfl
  | b :: bs => by
    show PyData.canLayAll0 (PyData.bool b :: bs.map PyData.bool) = true
    simp only [PyData.canLayAll0, lay_b bs, Bool.and_true]
    rfl
theorem depth_b : ∀ bs : List Bool, PyData.depthAll (bs.map PyData.bool) ≤ 1
  | [] => by simp [PyData.depthAll]
  | b :: bs => by
    show PyData.depthAll (PyData.bool b :: bs.map PyData.bool) ≤ 1
    have := depth_b bs
    have e : PyData.depth (PyData.bool b) = 0 := by simp [PyData.depth]
    simp only [PyData.depthAll, e]
    omega
theorem shaped_b (bs : List Bool) : SeqAt.shaped (.list (bs.map PyData.bool)) = true := by
  unfold SeqAt.shaped
  have := depth_b bs
  simp only [PyData.canLay0, lay_b, PyData.depth]
  simp
  omega
theorem eqv_b : ∀ ps qs : List Bool, PyData.eqvAll (ps.map PyData.bool) (qs.map PyData.bool) = decide (ps = qs)
  | [], [] => by simp [PyData.eqvAll]
  | [], _ :: _ => by simp [PyData.eqvAll]
  | _ :: _, [] => by simp [PyData.eqvAll]
  | p :: ps, q :: qs => by
    show PyData.eqvAll (PyData.bool p :: ps.map PyData.bool) (PyData.bool q :: qs.map PyData.bool) = _
    simp only [PyData.eqvAll, eqv_b ps qs]
    rw [show PyData.eqv (PyData.bool p) (PyData.bool q) = decide (p = q) by cases p <;> cases q <;> rfl]
    rw [Bool.eq_iff_iff]
    simp
theorem eqv_bL (ps qs : List Bool) : PyData.eqv (.list (ps.map PyData.bool)) (.list (qs.map PyData.bool)) = decide (ps = qs) := eqv_b ps qs
theorem rr_eqB {w : Wd} {S : List Own} {k : KE} {ps qs : List Bool} (q : k (.d (.bl (decide (ps = qs)))) S) : RR w (rEqD w.K) (.d (.lst (ps.map Gm.D.bl))) (.d (.lst (qs.map Gm.D.bl))) S k := by
  refine rr_eqD (toP_b ps) (toP_b qs) (shaped_b ps) (shaped_b qs) ?_
  rw [eqv_bL]; exact q
theorem rr_neB {w : Wd} {S : List Own} {k : KE} {ps qs : List Bool} (q : k (.d (.bl (!decide (ps = qs)))) S) : RR w (rNeD w.K) (.d (.lst (ps.map Gm.D.bl))) (.d (.lst (qs.map Gm.D.bl))) S k := by
  refine rr_neD (toP_b ps) (toP_b qs) (shaped_b ps) (shaped_b qs) ?_
  rw [eqv_bL]; exact q
theorem bulk_b : ∀ bs : List Bool, PyData.bulkAll (bs.map PyData.bool) = bs.length
  | [] => rfl
  | b :: bs => by
    show PyData.bulkAll (PyData.bool b :: bs.map PyData.bool) = _
    simp only [PyData.bulkAll, bulk_b bs, PyData.bulk, List.length_cons]
    omega
theorem short_b : ∀ bs : List Bool, PyData.leavesShortAll 13 (bs.map PyData.bool) = true
  | [] => rfl
  | b :: bs => by
    show PyData.leavesShortAll 13 (PyData.bool b :: bs.map PyData.bool) = _
    simp only [PyData.leavesShortAll, short_b bs, PyData.leavesShort, Bool.and_true]
theorem show_b : ∀ bs : List Bool, PyData.showableAll (bs.map PyData.bool) = true
  | [] => rfl
  | b :: bs => by
    show PyData.showableAll (PyData.bool b :: bs.map PyData.bool) = _
    simp only [PyData.showableAll, show_b bs, PyData.showable, Bool.and_true]
theorem hasd_b : ∀ bs : List Bool, PyData.hasDictAll (bs.map PyData.bool) = false
  | [] => rfl
  | b :: bs => by
    show PyData.hasDictAll (PyData.bool b :: bs.map PyData.bool) = _
    simp only [PyData.hasDictAll, hasd_b bs, PyData.hasDict, Bool.or_false]
def shB (bs : List Bool) : Str := PyData.shown (.list (bs.map PyData.bool))
theorem rc_reprB {w : Wd} {S : List Own} {k : KE} {bs : List Bool} (hl : bs.length ≤ 1000) (q : k (.d (.str (shB bs))) S) : RC w (gRepr w.K) [.d (.lst (bs.map Gm.D.bl))] S k := by
  refine rc_repr (d := .list (bs.map PyData.bool)) (toP_b bs) (by simp only [PyData.showable, show_b]) (by simp only [PyData.hasDict, hasd_b]) (by have := depth_b bs; simp only [PyData.depth]; omega) ?_ (.inl ⟨_, rfl⟩) q
  have := PyData.shown_le_bulk 13 (by decide) (.list (bs.map PyData.bool)) (by simp only [PyData.leavesShort, short_b])
  simp only [PyData.bulk, bulk_b] at this
  unfold sizeLine; omega
end

local macro_rules | `(tactic| walk_at "go") => `(tactic| (first
  | ((with_reducible refine le_var (e := ?e) ?h ?_); (case h => rfl))
  | with_reducible refine le_int ?_
  | with_reducible refine le_op ?_
  | with_reducible refine rr_int0 ?_
  | with_reducible refine rr_bl0 ?_
  | with_reducible refine le_cb ?_
  | with_reducible refine la_cons ?_
  | with_reducible refine la_nil ?_
  | with_reducible refine rc_int ?_
  | with_reducible refine ls_seq ?_
  | with_reducible refine ls_set ?_
  | with_reducible refine ls_ret ?_
  | with_reducible refine ls_next ?_
  | with_reducible refine ls_drop ?_
  | with_reducible refine ls_fld ?_
  | with_reducible refine le_methK ?_
  | with_reducible refine le_callK ?_
  | with_reducible refine ls_if ?_
  | with_reducible refine lt_test ?_
  | ((with_reducible refine rr_ixO (ds := ?ds) (d := ?d) ?h1 ?h2 ?_); (case h1 => rfl); (case h2 => rfl))
  | ((with_reducible refine rr_ixT (ds := ?ds) (d := ?d) ?h ?_); (case h => rfl))
  | with_reducible refine le_un ?_
  | with_reducible refine r1_int ?_
  | with_reducible refine ls_asg ?_
  | with_reducible refine lg_name ?_
  | with_reducible refine lg_tup2 ?_
  | with_reducible refine lg_tup3 ?_
  | with_reducible refine lg_tup4 ?_
  | with_reducible refine lg_tup5 ?_
  | with_reducible refine lg_sub ?_
  | with_reducible refine le_tup ?_
  | with_reducible refine le_lst ?_
  | with_reducible refine le_bl ?_
  | with_reducible refine le_str ?_
  | with_reducible refine le_non ?_
  | with_reducible refine le_cls ?_
  | with_reducible refine le_ty ?_
  | with_reducible refine la_perm ?_
  | with_reducible refine le_chain ?_
  | with_reducible refine le_call ?_
  | with_reducible refine le_bmLat (r := rPopAt) ?_
  | with_reducible refine le_bmL ?_
  | with_reducible refine le_bmL0 ?_
  | with_reducible refine le_if ?_
  | with_reducible refine lt_and ?_
  | with_reducible refine lt_or ?_
  | with_reducible refine lt_not ?_
  | with_reducible refine lt_tb ?_
  | with_reducible refine le_andV ?_
  | with_reducible refine le_orV ?_
  | with_reducible refine le_notV ?_
  | with_reducible refine le_fld ?_
  | with_reducible refine le_meth ?_
  | with_reducible refine le_prop ?_
  | with_reducible refine le_slL ?_
  | with_reducible refine le_slT ?_
  | with_reducible refine lo_none ?_
  | with_reducible refine lo_some ?_
  | with_reducible refine le_listRg2 ?_
  | with_reducible refine lt_yes ?_
  | with_reducible refine lcd_yes ?_
  | with_reducible refine ls_par ?_
  | with_reducible refine ls_par3 ?_
  | with_reducible refine le_dget ?_
  | with_reducible refine rr_ipI ?_
  | with_reducible refine ls_dput ?_
  | with_reducible refine ls_daug ?_
  | with_reducible refine lp_nil ?_
  | with_reducible refine lp_cons ?_
  | with_reducible refine ls_retN ?_
  | with_reducible refine ls_brk ?_
  | with_reducible refine ls_cont ?_
  | with_reducible refine rc_len (len_lz _) ?_
  | ((with_reducible refine rc_len (n := ?n) ?h ?_); (case h => rfl))
  | ((with_reducible refine rc_lenO (ds := ?ds) ?h ?_); (case h => rfl))
  | with_reducible refine rc_abs ?_
  | with_reducible refine rc_max2 ?_
  | with_reducible refine rc_min2 ?_
  | ((with_reducible refine rr_eq (u := ?u) (v := ?v) ?h1 ?h2 ?h3 ?_); (case h1 => rfl); (case h2 => rfl); (case h3 => rfl))
  | ((with_reducible refine rr_ne (u := ?u) (v := ?v) ?h1 ?h2 ?h3 ?_); (case h1 => rfl); (case h2 => rfl); (case h3 => rfl))
  | with_reducible refine rr_isN ?_
  | with_reducible refine rr_notN ?_
  | refine ⟨_, _, _, _, _, rfl, rfl, rfl, rfl, rfl, lt_ble rfl, ?_⟩
  | refine ⟨_, _, _, rfl, rfl, rfl, lt_ble rfl, ?_⟩
  | refine ⟨_, _, _, _, rfl, rfl, rfl, rfl, ?_⟩
  | refine ⟨_, rfl, sz rfl, ?_⟩
  | refine ⟨_, rfl, ?_⟩
  ))

local macro_rules | `(tactic| walk_at "gg") => `(tactic| repeat walk_at "go")
local macro_rules | `(tactic| walk_at "envle") => `(tactic| repeat (first | exact EnvLe.nil | refine EnvLe.same rfl ?_ | refine EnvLe.none ?_))

local macro_rules | `(tactic| walk_at "go") => `(tactic| (first
  | ((with_reducible refine le_var (e := ?e) ?h ?_); (case h => rfl))
  | with_reducible refine le_int ?_
  | with_reducible refine le_op ?_
  | with_reducible refine rr_int0 ?_
  | with_reducible refine rr_bl0 ?_
  | with_reducible refine le_cb ?_
  | with_reducible refine la_cons ?_
  | with_reducible refine la_nil ?_
  | with_reducible refine rc_int ?_
  | with_reducible refine ls_seq ?_
  | with_reducible refine ls_set ?_
  | with_reducible refine ls_ret ?_
  | with_reducible refine ls_next ?_
  | with_reducible refine ls_drop ?_
  | with_reducible refine ls_fld ?_
  | with_reducible refine le_methK ?_
  | with_reducible refine le_callK ?_
  | with_reducible refine ls_if ?_
  | with_reducible refine lt_test ?_
  | ((with_reducible refine rr_ixO (ds := ?ds) (d := ?d) ?h1 ?h2 ?_); (case h1 => rfl); (case h2 => rfl))
  | ((with_reducible refine rr_ixT (ds := ?ds) (d := ?d) ?h ?_); (case h => rfl))
  | with_reducible refine le_un ?_
  | with_reducible refine r1_int ?_
  | with_reducible refine ls_asg ?_
  | with_reducible refine lg_name ?_
  | with_reducible refine lg_tup2 ?_
  | with_reducible refine lg_tup3 ?_
  | with_reducible refine lg_tup4 ?_
  | with_reducible refine lg_tup5 ?_
  | with_reducible refine lg_sub ?_
  | with_reducible refine le_tup ?_
  | with_reducible refine le_lst ?_
  | with_reducible refine le_bl ?_
  | with_reducible refine le_str ?_
  | with_reducible refine le_non ?_
  | with_reducible refine le_cls ?_
  | with_reducible refine le_ty ?_
  | with_reducible refine la_perm ?_
  | with_reducible refine le_chain ?_
  | with_reducible refine le_call ?_
  | with_reducible refine le_bmLat (r := rPopAt) ?_
  | with_reducible refine le_bmL ?_
  | with_reducible refine le_bmL0 ?_
  | with_reducible refine le_if ?_
  | with_reducible refine lt_and ?_
  | with_reducible refine lt_or ?_
  | with_reducible refine lt_not ?_
  | with_reducible refine lt_tb ?_
  | with_reducible refine le_andV ?_
  | with_reducible refine le_orV ?_
  | with_reducible refine le_notV ?_
  | with_reducible refine le_fld ?_
  | with_reducible refine le_meth ?_
  | with_reducible refine le_prop ?_
  | with_reducible refine le_slL ?_
  | with_reducible refine le_bmS ?_
  | with_reducible refine la_star ?_
  | with_reducible refine le_bmS0 ?_
  | with_reducible refine le_slS2 ?_
  | with_reducible refine le_str ?_
  | with_reducible refine le_slT ?_
  | with_reducible refine lo_none ?_
  | with_reducible refine lo_some ?_
  | with_reducible refine le_listRg2 ?_
  | with_reducible refine lt_yes ?_
  | with_reducible refine lcd_yes ?_
  | with_reducible refine ls_par ?_
  | with_reducible refine ls_par3 ?_
  | with_reducible refine le_dget ?_
  | with_reducible refine rr_ipI ?_
  | with_reducible refine ls_dput ?_
  | with_reducible refine ls_daug ?_
  | with_reducible refine lp_nil ?_
  | with_reducible refine lp_cons ?_
  | with_reducible refine ls_retN ?_
  | with_reducible refine ls_brk ?_
  | with_reducible refine ls_cont ?_
  | with_reducible refine rc_len (len_lz _) ?_
  | ((with_reducible refine rc_len (n := ?n) ?h ?_); (case h => rfl))
  | ((with_reducible refine rc_lenO (ds := ?ds) ?h ?_); (case h => rfl))
  | with_reducible refine rc_abs ?_
  | with_reducible refine rc_max2 ?_
  | with_reducible refine rc_min2 ?_
  | ((with_reducible refine rr_eq (u := ?u) (v := ?v) ?h1 ?h2 ?h3 ?_); (case h1 => rfl); (case h2 => rfl); (case h3 => rfl))
  | ((with_reducible refine rr_ne (u := ?u) (v := ?v) ?h1 ?h2 ?h3 ?_); (case h1 => rfl); (case h2 => rfl); (case h3 => rfl))
  | with_reducible refine rr_isN ?_
  | with_reducible refine rr_notN ?_
  | refine ⟨_, _, _, _, _, rfl, rfl, rfl, rfl, rfl, lt_ble rfl, ?_⟩
  | refine ⟨_, _, _, rfl, rfl, rfl, lt_ble rfl, ?_⟩
  | refine ⟨_, _, _, _, rfl, rfl, rfl, rfl, ?_⟩
  | refine ⟨_, rfl, sz rfl, ?_⟩
  | refine ⟨_, rfl, ?_⟩
  ))

local macro_rules | `(tactic| walk_at "gg") => `(tactic| repeat walk_at "go")
local macro_rules | `(tactic| walk_at "envle") => `(tactic| repeat (first | exact EnvLe.nil | refine EnvLe.same rfl ?_ | refine EnvLe.none ?_))

local macro_rules | `(tactic| walk_at "go") => `(tactic| (first
  | with_reducible refine le_mkE ?_
  ))

section
variable {P : Program} {w0 : World} {K : PySem.W.Frag} {mg : Str → Option Value} {base : Heap}
structure BltR (mg : Str → Option Value) : Prop extends Blt mg where
  repr : mg "repr" = none
/-- the module's names of all classes -/
structure ErrT (mg : Str → Option Value) (CS r0 r1 r2 r3 r4 r5 r6 r7 r8 r9 : Addr) : Prop where
  SizeError : mg "SizeError" = some (.ref CS)
  InvalidCell : mg "InvalidCell" = some (.ref r0)
  InvalidLine : mg "InvalidLine" = some (.ref r1)
  InvalidNumber : mg "InvalidNumber" = some (.ref r2)
  InvalidPipeline : mg "InvalidPipeline" = some (.ref r3)
  InvalidPlaces : mg "InvalidPlaces" = some (.ref r4)
  InvalidRow : mg "InvalidRow" = some (.ref r5)
  NotFitting : mg "NotFitting" = some (.ref r6)
  NotSteady : mg "NotSteady" = some (.ref r7)
  NothingToUndo : mg "NothingToUndo" = some (.ref r8)
  Unreadable : mg "Unreadable" = some (.ref r9)
/-- what the flags of an error of the class at C are: i alone -/
structure EoC (K : PySem.W.Frag) (rs : List Addr) (C : Addr) (i : Nat) : Prop where
  ex : ExcC K C
  xf : XfC K C
  val : PySem.W.findIn K (.ref C) "value" = some none
  kt : ∀ (j : Nat) (c : Addr), rs[j]? = some c → PySem.W.kitOne K (.ref C) (.ref c) = some (decide (j = i))
/-- errors are made, by place and by name -/
structure EoM (P : Program) (w0 : World) (K : PySem.W.Frag) (mg : Str → Option Value) (base : Heap) (CS r0 r1 r2 r3 r4 r5 r6 r7 r8 r9 : Addr) : Prop where
  xSizeError : Xt P w0 K mg base 1 "SizeError" CS
  kSizeError : XtK P w0 K mg base 1 "SizeError" CS
  xInvalidLine : Xt P w0 K mg base 1 "InvalidLine" r1
  kInvalidLine : XtK P w0 K mg base 1 "InvalidLine" r1
  xInvalidPipeline : Xt P w0 K mg base 1 "InvalidPipeline" r3
  kInvalidPipeline : XtK P w0 K mg base 1 "InvalidPipeline" r3
  xInvalidNumber : Xt P w0 K mg base 1 "InvalidNumber" r2
  kInvalidNumber : XtK P w0 K mg base 1 "InvalidNumber" r2
  xInvalidRow : Xt P w0 K mg base 1 "InvalidRow" r5
  kInvalidRow : XtK P w0 K mg base 1 "InvalidRow" r5
  xInvalidCell : Xt P w0 K mg base 1 "InvalidCell" r0
  kInvalidCell : XtK P w0 K mg base 1 "InvalidCell" r0
  xInvalidPlaces : Xt P w0 K mg base 1 "InvalidPlaces" r4
  kInvalidPlaces : XtK P w0 K mg base 1 "InvalidPlaces" r4
  xNotFitting : Xt P w0 K mg base 1 "NotFitting" r6
  kNotFitting : XtK P w0 K mg base 1 "NotFitting" r6
  xNotSteady : Xt P w0 K mg base 1 "NotSteady" r7
  kNotSteady : XtK P w0 K mg base 1 "NotSteady" r7
  xNothingToUndo : Xt P w0 K mg base 1 "NothingToUndo" r8
  kNothingToUndo : XtK P w0 K mg base 1 "NothingToUndo" r8
  xUnreadable : Xt P w0 K mg base 1 "Unreadable" r9
  kUnreadable : XtK P w0 K mg base 1 "Unreadable" r9
abbrev flagsD (i : Nat) : D := .lst ((List.range 10).map fun j => .bl (decide (j = i)))
abbrev madeD (rs : List Addr) (u : D) : D := .lst (rs.map fun c => .tup [.eob c u, .eob c u])
def dsMade (rs : List Addr) : DS := ds (α := D) (fun a es S => es = [.d a] ∧ S = []) (fun a e S' => e = .d (madeD rs a) ∧ S' = [])
theorem ok_made {f CS r0 r1 r2 r3 r4 r5 r6 r7 r8 r9 : Addr} {fd : FuncData} (F : Fun K "_law_made" "_law_made" s_law_made f fd) (T : Blt mg) (M : EoM P w0 K mg base CS r0 r1 r2 r3 r4 r5 r6 r7 r8 r9) : FnOk P w0 K mg base CX0 3 f fd ["thing"] (spD K (dsMade [r1, r3, r2, r5, r0, r4, r6, r7, r8, r9])) := by
  refine fn0 F sc_law_made (fun es S p e h => by obtain ⟨a, ⟨h, _⟩, _⟩ := h; rw [h]; rfl) (fun cdv A outer s H E hr w es S p e hK hA h => ?_)
  subst hK
  obtain ⟨u, ⟨rfl, rfl⟩, hp⟩ := h
  dsimp only at hp
  have dxInvalidLine := M.xInvalidLine
  have dxKInvalidLine := M.kInvalidLine
  have dxInvalidPipeline := M.xInvalidPipeline
  have dxKInvalidPipeline := M.kInvalidPipeline
  have dxInvalidNumber := M.xInvalidNumber
  have dxKInvalidNumber := M.kInvalidNumber
  have dxInvalidRow := M.xInvalidRow
  have dxKInvalidRow := M.kInvalidRow
  have dxInvalidCell := M.xInvalidCell
  have dxKInvalidCell := M.kInvalidCell
  have dxInvalidPlaces := M.xInvalidPlaces
  have dxKInvalidPlaces := M.kInvalidPlaces
  have dxNotFitting := M.xNotFitting
  have dxKNotFitting := M.kNotFitting
  have dxNotSteady := M.xNotSteady
  have dxKNotSteady := M.kNotSteady
  have dxNothingToUndo := M.xNothingToUndo
  have dxKNothingToUndo := M.kNothingToUndo
  have dxUnreadable := M.xUnreadable
  have dxKUnreadable := M.kUnreadable
  refine ⟨_, (pss_cons (sset 1 (pe_lst (pa_cons (pe_tup (pa_cons (pe_mkE dxInvalidLine (hr.mono (by decide)) pass0 (pa_cons (pv 0) pa_nil)) (pa_cons (pe_mkEK dxKInvalidLine (hr.mono (by decide)) pass0 (pk_cons (pv 0) pk_nil)) pa_nil))) (pa_cons (pe_tup (pa_cons (pe_mkE dxInvalidPipeline (hr.mono (by decide)) pass0 (pa_cons (pv 0) pa_nil)) (pa_cons (pe_mkEK dxKInvalidPipeline (hr.mono (by decide)) pass0 (pk_cons (pv 0) pk_nil)) pa_nil))) pa_nil))) sc_law_made.nd)
    (pss_cons (ps_expr (pe_bm PySem.F.plainAttrs_list PySem.F.slot_list_append PySem.F.type_list_append mt_append (pv 1) (pa_cons (pe_tup (pa_cons (pe_mkE dxInvalidNumber (hr.mono (by decide)) pass0 (pa_cons (pv 0) pa_nil)) (pa_cons (pe_mkEK dxKInvalidNumber (hr.mono (by decide)) pass0 (pk_cons (pv 0) pk_nil)) pa_nil))) pa_nil)))
    (pss_cons (ps_expr (pe_bm PySem.F.plainAttrs_list PySem.F.slot_list_append PySem.F.type_list_append mt_append (pv 1) (pa_cons (pe_tup (pa_cons (pe_mkE dxInvalidRow (hr.mono (by decide)) pass0 (pa_cons (pv 0) pa_nil)) (pa_cons (pe_mkEK dxKInvalidRow (hr.mono (by decide)) pass0 (pk_cons (pv 0) pk_nil)) pa_nil))) pa_nil)))
    (pss_cons (ps_expr (pe_bm PySem.F.plainAttrs_list PySem.F.slot_list_append PySem.F.type_list_append mt_append (pv 1) (pa_cons (pe_tup (pa_cons (pe_mkE dxInvalidCell (hr.mono (by decide)) pass0 (pa_cons (pv 0) pa_nil)) (pa_cons (pe_mkEK dxKInvalidCell (hr.mono (by decide)) pass0 (pk_cons (pv 0) pk_nil)) pa_nil))) pa_nil)))
    (pss_cons (ps_expr (pe_bm PySem.F.plainAttrs_list PySem.F.slot_list_append PySem.F.type_list_append mt_append (pv 1) (pa_cons (pe_tup (pa_cons (pe_mkE dxInvalidPlaces (hr.mono (by decide)) pass0 (pa_cons (pv 0) pa_nil)) (pa_cons (pe_mkEK dxKInvalidPlaces (hr.mono (by decide)) pass0 (pk_cons (pv 0) pk_nil)) pa_nil))) pa_nil)))
    (pss_cons (ps_expr (pe_bm PySem.F.plainAttrs_list PySem.F.slot_list_append PySem.F.type_list_append mt_append (pv 1) (pa_cons (pe_tup (pa_cons (pe_mkE dxNotFitting (hr.mono (by decide)) pass0 (pa_cons (pv 0) pa_nil)) (pa_cons (pe_mkEK dxKNotFitting (hr.mono (by decide)) pass0 (pk_cons (pv 0) pk_nil)) pa_nil))) pa_nil)))
    (pss_cons (ps_expr (pe_bm PySem.F.plainAttrs_list PySem.F.slot_list_append PySem.F.type_list_append mt_append (pv 1) (pa_cons (pe_tup (pa_cons (pe_mkE dxNotSteady (hr.mono (by decide)) pass0 (pa_cons (pv 0) pa_nil)) (pa_cons (pe_mkEK dxKNotSteady (hr.mono (by decide)) pass0 (pk_cons (pv 0) pk_nil)) pa_nil))) pa_nil)))
    (pss_cons (ps_expr (pe_bm PySem.F.plainAttrs_list PySem.F.slot_list_append PySem.F.type_list_append mt_append (pv 1) (pa_cons (pe_tup (pa_cons (pe_mkE dxNothingToUndo (hr.mono (by decide)) pass0 (pa_cons (pv 0) pa_nil)) (pa_cons (pe_mkEK dxKNothingToUndo (hr.mono (by decide)) pass0 (pk_cons (pv 0) pk_nil)) pa_nil))) pa_nil)))
    (pss_cons (ps_expr (pe_bm PySem.F.plainAttrs_list PySem.F.slot_list_append PySem.F.type_list_append mt_append (pv 1) (pa_cons (pe_tup (pa_cons (pe_mkE dxUnreadable (hr.mono (by decide)) pass0 (pa_cons (pv 0) pa_nil)) (pa_cons (pe_mkEK dxKUnreadable (hr.mono (by decide)) pass0 (pk_cons (pv 0) pk_nil)) pa_nil))) pa_nil)))
    (pss_one (ps_ret (pv 1)))))))))))), ?_⟩
  try dsimp only [L2.cxOf, L2.Cx.nox]
  refine ls_seq (ls_set (le_lstO ?_))
  walk_at "gg"
  refine ⟨⟨_, .inr ⟨0, rfl, rfl⟩⟩, ?_⟩
  walk_at "gg"
  refine rm_append rfl (by show 2 < sizeLine; decide) ?_
  walk_at "gg"
  refine ⟨⟨_, .inr ⟨0, rfl, rfl⟩⟩, ?_⟩
  walk_at "gg"
  refine rm_append rfl (by show 3 < sizeLine; decide) ?_
  walk_at "gg"
  refine ⟨⟨_, .inr ⟨0, rfl, rfl⟩⟩, ?_⟩
  walk_at "gg"
  refine rm_append rfl (by show 4 < sizeLine; decide) ?_
  walk_at "gg"
  refine ⟨⟨_, .inr ⟨0, rfl, rfl⟩⟩, ?_⟩
  walk_at "gg"
  refine rm_append rfl (by show 5 < sizeLine; decide) ?_
  walk_at "gg"
  refine ⟨⟨_, .inr ⟨0, rfl, rfl⟩⟩, ?_⟩
  walk_at "gg"
  refine rm_append rfl (by show 6 < sizeLine; decide) ?_
  walk_at "gg"
  refine ⟨⟨_, .inr ⟨0, rfl, rfl⟩⟩, ?_⟩
  walk_at "gg"
  refine rm_append rfl (by show 7 < sizeLine; decide) ?_
  walk_at "gg"
  refine ⟨⟨_, .inr ⟨0, rfl, rfl⟩⟩, ?_⟩
  walk_at "gg"
  refine rm_append rfl (by show 8 < sizeLine; decide) ?_
  walk_at "gg"
  refine ⟨⟨_, .inr ⟨0, rfl, rfl⟩⟩, ?_⟩
  walk_at "gg"
  refine rm_append rfl (by show 9 < sizeLine; decide) ?_
  refine frzL (S := []) (xs := [r1, r3, r2, r5, r0, r4, r6, r7, r8, r9].map fun c => .tup [.eob c u, .eob c u]) (Γ' := [some (.d u), some (.d (madeD [r1, r3, r2, r5, r0, r4, r6, r7, r8, r9] u))]) 1 rfl ?_ (by walk_at "envle") (by rw [hA]; exact Nat.zero_le _)
  walk_at "gg"
  exact hp _ _ ⟨rfl, rfl⟩
def dsFlags (K : PySem.W.Frag) (rs : List Addr) : DS := ds (α := Addr × Nat × D) (fun a es S => es = [.d (.eob a.1 a.2.2)] ∧ S = [] ∧ EoC K rs a.1 a.2.1) (fun a e S' => e = .d (flagsD a.2.1) ∧ S' = [])
theorem ok_flags {f CS r0 r1 r2 r3 r4 r5 r6 r7 r8 r9 : Addr} {fd : FuncData} (F : Fun K "_law_flags" "_law_flags" s_law_flags f fd) (T : Blt mg) (QE : ErrT mg CS r0 r1 r2 r3 r4 r5 r6 r7 r8 r9) : FnOk P w0 K mg base CX0 1 f fd ["e"] (spD K (dsFlags K [r1, r3, r2, r5, r0, r4, r6, r7, r8, r9])) := by
  refine fn0 F sc_law_flags (fun es S p e h => by obtain ⟨a, ⟨h, _⟩, _⟩ := h; rw [h]; rfl) (fun cdv A outer s H E hr w es S p e hK hA h => ?_)
  subst hK
  obtain ⟨⟨C, i, u⟩, ⟨rfl, rfl, Z⟩, hp⟩ := h
  dsimp only at Z hp
  have gInvalidLine := QE.InvalidLine
  have gInvalidPipeline := QE.InvalidPipeline
  have gInvalidNumber := QE.InvalidNumber
  have gInvalidRow := QE.InvalidRow
  have gInvalidCell := QE.InvalidCell
  have gInvalidPlaces := QE.InvalidPlaces
  have gNotFitting := QE.NotFitting
  have gNotSteady := QE.NotSteady
  have gNothingToUndo := QE.NothingToUndo
  have gUnreadable := QE.Unreadable
  refine ⟨_, (pss_cons (sset 1 (pe_lst (pa_cons (b_isE w.K T.isinstance (pv 0) (g_cls gInvalidLine)) (pa_cons (b_isE w.K T.isinstance (pv 0) (g_cls gInvalidPipeline)) (pa_cons (b_isE w.K T.isinstance (pv 0) (g_cls gInvalidNumber)) pa_nil)))) sc_law_flags.nd)
    (pss_cons (ps_expr (pe_bm PySem.F.plainAttrs_list PySem.F.slot_list_extend PySem.F.type_list_extend mt_extend (pv 1) (pa_cons (pe_lst (pa_cons (b_isE w.K T.isinstance (pv 0) (g_cls gInvalidRow)) (pa_cons (b_isE w.K T.isinstance (pv 0) (g_cls gInvalidCell)) (pa_cons (b_isE w.K T.isinstance (pv 0) (g_cls gInvalidPlaces)) pa_nil)))) pa_nil)))
    (pss_cons (ps_expr (pe_bm PySem.F.plainAttrs_list PySem.F.slot_list_extend PySem.F.type_list_extend mt_extend (pv 1) (pa_cons (pe_lst (pa_cons (b_isE w.K T.isinstance (pv 0) (g_cls gNotFitting)) (pa_cons (b_isE w.K T.isinstance (pv 0) (g_cls gNotSteady)) (pa_cons (b_isE w.K T.isinstance (pv 0) (g_cls gNothingToUndo)) pa_nil)))) pa_nil)))
    (pss_cons (ps_expr (pe_bm PySem.F.plainAttrs_list PySem.F.slot_list_append PySem.F.type_list_append mt_append (pv 1) (pa_cons (b_isE w.K T.isinstance (pv 0) (g_cls gUnreadable)) pa_nil)))
    (pss_one (ps_ret (pv 1))))))), ?_⟩
  try dsimp only [L2.cxOf, L2.Cx.nox]
  refine ls_seq (ls_set (le_lstO ?_))
  walk_at "gg"
  refine rc_isE Z.ex rfl (Z.kt 0 _ rfl) ?_
  walk_at "gg"
  refine rc_isE Z.ex rfl (Z.kt 1 _ rfl) ?_
  walk_at "gg"
  refine rc_isE Z.ex rfl (Z.kt 2 _ rfl) ?_
  walk_at "gg"
  refine ⟨⟨_, .inr ⟨0, rfl, rfl⟩⟩, ?_⟩
  walk_at "gg"
  refine rc_isE Z.ex rfl (Z.kt 3 _ rfl) ?_
  walk_at "gg"
  refine rc_isE Z.ex rfl (Z.kt 4 _ rfl) ?_
  walk_at "gg"
  refine rc_isE Z.ex rfl (Z.kt 5 _ rfl) ?_
  walk_at "gg"
  refine rm_extend rfl (by show 6 ≤ sizeLine; decide) ?_
  walk_at "gg"
  refine ⟨⟨_, .inr ⟨0, rfl, rfl⟩⟩, ?_⟩
  walk_at "gg"
  refine rc_isE Z.ex rfl (Z.kt 6 _ rfl) ?_
  walk_at "gg"
  refine rc_isE Z.ex rfl (Z.kt 7 _ rfl) ?_
  walk_at "gg"
  refine rc_isE Z.ex rfl (Z.kt 8 _ rfl) ?_
  walk_at "gg"
  refine rm_extend rfl (by show 9 ≤ sizeLine; decide) ?_
  walk_at "gg"
  refine ⟨⟨_, .inr ⟨0, rfl, rfl⟩⟩, ?_⟩
  walk_at "gg"
  refine rc_isE Z.ex rfl (Z.kt 9 _ rfl) ?_
  walk_at "gg"
  refine rm_append rfl (by show 9 < sizeLine; decide) ?_
  refine frzL (S := []) (xs := (List.range 10).map fun j => .bl (decide (j = i))) (Γ' := [some (.d (.eob C u)), some (.d (flagsD i))]) 1 rfl ?_ (by walk_at "envle") (by rw [hA]; exact Nat.zero_le _)
  walk_at "gg"
  exact hp _ _ ⟨rfl, rfl⟩
end

section
variable {P : Program} {w0 : World} {K : PySem.W.Frag} {mg : Str → Option Value} {base : Heap}
/-- what repr tells of d -/
def Rp (w : Wd) (d : D) : Prop := ∃ z : Str, ∀ (S : List Own) (k : KE), k (.d (.str z)) S → RC w (gReprA w.K) [.d d] S k
theorem Rp.i {w : Wd} {i : Int} (h : i.natAbs < 2 ^ 1919) : Rp w (.int i) := ⟨_, fun S k q => rc_rpI (by
  by_cases z : i.natAbs = 0
  · rw [z]; decide
  · exact Nat.lt_of_lt_of_le ((Nat.log2_lt z).mpr h) (by decide)) q⟩
theorem things {w : Wd} {d4 : Int} (h0 : 0 ≤ d4) (h1 : d4 < 100000000000000000000) : ∀ x ∈ [D.non, .lst [.int 1, .int 0], .str "text", .int d4, .int 0, .int (-1)], Rp w x := fun x hx => by
  simp only [List.mem_cons, List.not_mem_nil, or_false] at hx
  rcases hx with rfl | rfl | rfl | rfl | rfl | rfl
  · exact ⟨_, fun S k q => rc_rpD (rc_reprNo q)⟩
  · exact ⟨_, fun S k q => rc_rpD (rc_reprNd (rc_repr (d := .list [.int 1, .int 0]) rfl (by decide +kernel) (by decide +kernel) (by decide +kernel) (by decide +kernel) (.inl ⟨_, rfl⟩) q))⟩
  · exact ⟨_, fun S k q => rc_rpS (by decide +kernel) q⟩
  · exact Rp.i (Nat.lt_of_lt_of_le (show d4.natAbs < 100000000000000000000 by omega) (by decide +kernel))
  · exact Rp.i (by decide +kernel)
  · exact Rp.i (by decide +kernel)
def dsLaw : DS := ds (α := List Int) (fun a es S => es = [.d (.scr a)] ∧ S = [] ∧ a.length ≤ 63) (fun a e S' => e = .d (.bl true))
theorem ok_law {f CS r0 r1 r2 r3 r4 r5 r6 r7 r8 r9 : Addr} {fd : FuncData} (F : Fun K "law" "law" slaw f fd) (T : BltR mg) (QE : ErrT mg CS r0 r1 r2 r3 r4 r5 r6 r7 r8 r9) (M : EoM P w0 K mg base CS r0 r1 r2 r3 r4 r5 r6 r7 r8 r9)
    (hZ : ∀ (j : Nat) (c : Addr), [r1, r3, r2, r5, r0, r4, r6, r7, r8, r9][j]? = some c → EoC K [r1, r3, r2, r5, r0, r4, r6, r7, r8, r9] c j ∧ PySem.W.kitOne K (.ref c) (.ref CS) = some true ∧ PySem.W.kitOne K (.ref c) (.type "ValueError") = some true) (hS : EoC K [r1, r3, r2, r5, r0, r4, r6, r7, r8, r9] CS 10)
    (d_law_bag : Df P w0 K mg base CX0 1 "_law_bag" 1 dsBag) (d_law_draw : Df P w0 K mg base CX0 1 "_law_draw" 2 dsDraw) (d_law_made : Df P w0 K mg base CX0 3 "_law_made" 1 (dsMade [r1, r3, r2, r5, r0, r4, r6, r7, r8, r9])) (d_law_flags : Df P w0 K mg base CX0 1 "_law_flags" 1 (dsFlags K [r1, r3, r2, r5, r0, r4, r6, r7, r8, r9])) : FnOkG P w0 K mg base CX0 5 f fd ["script"] (spD K dsLaw) := by
  refine fnG F sclaw (fun es S p e h => by obtain ⟨a, ⟨h, _⟩, _⟩ := h; rw [h]; rfl) (fun cdv A outer s H E hgu hr w es S p e hK hA h => ?_)
  subst hK
  obtain ⟨ns, ⟨rfl, rfl, hns⟩, hp⟩ := h
  have gSizeError := QE.SizeError
  have dxSizeError := M.xSizeError
  have dxKSizeError := M.kSizeError
  have e20 : (10 : Int) ^ (20 : Int).toNat = 100000000000000000000 := by decide +kernel
  refine ⟨_, (pss_cons (sset 1 (pe_df d_law_bag (hr.mono (by decide)) pass0 (pa_cons (pv 0) pa_nil)) sclaw.nd)
    (pss_cons (ps_for PassesOwn.never rfl (pi_range1 (by rfl) T.range (pa_cons (pe_op op_add pe_int (b_min2 T.min pe_int (b_len T.len (pv 0)))) pa_nil)) (gn 2 sclaw.nd)
      (pss_cons (sset 3 (pe_ix ix_tup (pe_tup (pa_cons pe_non (pa_cons (pe_lst (pa_cons pe_int (pa_cons pe_int pa_nil))) (pa_cons pe_str (pa_cons (pe_df d_law_draw (hr.mono (by decide)) pass0 (pa_cons (pv 1) (pa_cons (pe_op op_powW pe_int pe_int) pa_nil))) (pa_cons pe_int (pa_cons (pe_un un_neg pe_int) pa_nil))))))) (pe_df d_law_draw (hr.mono (by decide)) pass0 (pa_cons (pv 1) (pa_cons pe_int pa_nil))) (fun _ _ => rfl)) sclaw.nd)
      (pss_cons (sset 4 (pe_df d_law_made (hr.mono (by decide)) pass0 (pa_cons (pv 3) pa_nil)) sclaw.nd)
      (pss_cons (ps_for PassesOwn.never rfl (pi_range1 (by rfl) T.range (pa_cons pe_int pa_nil)) (gn 5 sclaw.nd)
        (pss_one (ps_for PassesOwn.never rfl (pi_tup (pe_ix ix_list (pv 4) (pv 5) (fun _ _ => rfl))) (gn 6 sclaw.nd)
          (pss_cons (ps_if (PW.pt (pw_or (pt_cmpR op_ne (b_reprA hgu hr.units T.repr (pe_xvE w.K (pv 6))) (b_reprA hgu hr.units T.repr (pv 3)) (nomark _)) (pw_or (pt_not (pt_val (b_isE w.K T.isinstance (pv 6) (g_cls gSizeError)))) (pw_or1 (pt_not (pt_val (b_isE w.K T.isinstance (pv 6) (g_VE T.ValueError))))))))
            (pss_one (ps_ret pe_bl))
            pss_nil)
          (pss_one (ps_if (pt_cmpR (op_neD hr.units) (pe_df d_law_flags (hr.mono (by decide)) pass0 (pa_cons (pv 6) pa_nil)) (pe_lc (own := [("spot", 7)]) (g := gName 7) rfl sclaw.nd (pi_range1 (by rfl) T.range (pa_cons pe_int pa_nil)) (blkOk_by (own := [("spot", 7)]) (N := Nlaw) (sc := defScope slaw) (by decide +kernel)) (fun _ _ _ _ _ => gn 7 sclaw.nd) (fun _ _ _ _ _ => pts_nil) (fun _ _ _ _ _ => (pe_cmpR op_eq (pv 7) (pv 5) (nomark _)))) (nomark _))
            (pss_one (ps_ret pe_bl))
            pss_nil))))))
      (pss_one (ps_if (PW.pt (pw_or (pt_cmpR op_ne (b_reprA hgu hr.units T.repr (pe_xvE w.K (pe_mkE dxSizeError (hr.mono (by decide)) pass0 (pa_cons (pv 3) pa_nil)))) (b_reprA hgu hr.units T.repr (pv 3)) (nomark _)) (pw_or1 (pt_cmpR op_ne (b_reprA hgu hr.units T.repr (pe_xvE w.K (pe_mkEK dxKSizeError (hr.mono (by decide)) pass0 (pk_cons (pv 3) pk_nil)))) (b_reprA hgu hr.units T.repr (pv 3)) (nomark _)))))
        (pss_one (ps_ret pe_bl))
        pss_nil))))))
    (pss_one (ps_ret (pe_cmpR (op_eqD hr.units) (pe_df d_law_flags (hr.mono (by decide)) pass0 (pa_cons (pe_mkE dxSizeError (hr.mono (by decide)) pass0 (pa_cons pe_str pa_nil)) pa_nil)) (pe_op op_rep (pe_lst (pa_cons pe_bl pa_nil)) pe_int) (nomark _)))))), ?_⟩
  try dsimp only [L2.cxOf, L2.Cx.nox]
  walk_at "gg"
  refine bag hns fun o u hb => ?_
  walk_at "gg"
  refine ls_forR (lr_1 ?_)
  walk_at "gg"
  generalize hN : (4 : Int) + (if (ns.length : Int) < 8 then (ns.length : Int) else 8) = N
  have hN1 : 0 ≤ N ∧ N ≤ 12 := by rw [← hN]; split <;> omega
  refine ⟨by omega, by omega, ?_⟩
  refine ⟨fun t Γ S => ∃ (o' u' : Own) (x2 x3 x4 x5 x6 x7 : Option Ent), S = [o', u'] ∧ Bag (2 * t) o' u' ∧ Γ = [some (.d (.scr ns)), some (.own 1), x2, x3, x4, x5, x6, x7], ⟨o, u, none, none, none, none, none, none, rfl, hb, rfl⟩, ?_, ?_⟩
  · rintro t _ _ ht ⟨o', u', x2, x3, x4, x5, x6, x7, rfl, hb', rfl⟩
    walk_at "gg"
    refine rr_int (powW (b := 10) (by decide) (by decide) (by decide)) ?_
    rw [e20]
    walk_at "gg"
    refine draw _ hb' (by omega) (by decide) (by decide) fun d4 o4 u4 a0 a1 h4 => ?_
    walk_at "gg"
    refine draw _ h4 (by omega) (by decide) (by decide) fun d6 o6 u6 b0 b1 h6 => ?_
    walk_at "gg"
    obtain ⟨th, hth, zt, hrp⟩ := ix_any (ds := [D.non, .lst [.int 1, .int 0], .str "text", .int d4, .int 0, .int (-1)]) (i := d6) (Rp w) b0 (by show d6 < 6; omega) (things a0 a1)
    refine rr_ixT hth ?_
    walk_at "gg"
    refine Gm.r0 th ⟨rfl, rfl⟩ fun e S' ⟨q1, q2⟩ => ⟨_, q2, q1, ?_⟩
    walk_at "gg"
    refine ls_forR (lr_1 ?_)
    walk_at "gg"
    refine ⟨by decide, by decide, ?_⟩
    refine ⟨fun i Γ S => ∃ (y5 y6 y7 : Option Ent), S = [o6, u6] ∧ Γ = [some (.d (.scr ns)), some (.own 1), some (.d (.int (0 + t))), some (.d th), some (.d (madeD [r1, r3, r2, r5, r0, r4, r6, r7, r8, r9] th)), y5, y6, y7], ⟨_, _, _, rfl, rfl⟩, ?_, ?_⟩
    · rintro i _ _ hi ⟨y5, y6, y7, rfl, rfl⟩
      walk_at "gg"
      refine ls_forT ?_
      walk_at "gg"
      obtain ⟨c, hc⟩ : ∃ c : Addr, [r1, r3, r2, r5, r0, r4, r6, r7, r8, r9][i]? = some c := ⟨_, List.getElem?_eq_getElem (show i < 10 by omega)⟩
      obtain ⟨Z, k1, k2⟩ := hZ i c hc
      refine rr_ixL (d := .tup [.eob c th, .eob c th]) ?_ ?_
      · unfold atI ixN
        rw [if_pos (by omega), if_pos (by show (0 : Int) + i < 10; omega), show ((0 : Int) + i).toNat = i by omega]
        show (List.map _ _)[i]? = _
        rw [List.getElem?_map, hc]
        rfl
      refine ⟨_, rfl, fun _ Γ S => ∃ (y6 y7 : Option Ent), S = [o6, u6] ∧ Γ = [some (.d (.scr ns)), some (.own 1), some (.d (.int (0 + t))), some (.d th), some (.d (madeD [r1, r3, r2, r5, r0, r4, r6, r7, r8, r9] th)), some (.d (.int (0 + i))), y6, y7], ⟨_, _, rfl, rfl⟩, ?_, ?_⟩
      · rintro m d _ _ hd ⟨y6, y7, rfl, rfl⟩
        have ed : d = .eob c th := by
          have := List.mem_of_getElem? hd
          simpa using this
        subst ed
        walk_at "gg"
        refine le_xvE (u := th) Z.xf Z.val ?_
        walk_at "gg"
        refine ⟨rfl, ?_⟩
        walk_at "gg"
        refine hrp _ _ ?_
        walk_at "gg"
        refine hrp _ _ ?_
        walk_at "gg"
        refine ⟨fun hb => absurd hb (by simp), fun _ => ?_⟩
        walk_at "gg"
        refine rc_isE Z.ex rfl k1 ?_
        walk_at "gg"
        refine ⟨fun z => Bool.noConfusion z, fun _ => ?_⟩
        walk_at "gg"
        refine rc_isE Z.ex rfl k2 ?_
        walk_at "gg"
        refine ⟨fun z => Bool.noConfusion z, fun _ => ?_⟩
        walk_at "gg"
        refine Gm.r0 (c, i, th) ⟨rfl, rfl, Z⟩ fun e S' ⟨q1, q2⟩ => ⟨_, q2, q1, ?_⟩
        walk_at "gg"
        refine le_lcRD (F := fun j => .bl (decide (j = i))) (lr_1 ?_)
        walk_at "gg"
        refine ⟨by decide, by decide, by decide, fun j acc hj => ?_, ?_⟩
        · walk_at "gg"
          exact ⟨congrArg (fun b => Ent.d (D.bl b)) (decide_eq_decide.mpr ⟨fun h => by injection h; omega, fun h => by rw [h]⟩), rfl⟩
        walk_at "gg"
        refine rr_neB (ps := (List.range 10).map fun j => decide (j = i)) (qs := (List.range 10).map fun j => decide (j = i)) ?_
        rw [decide_eq_true rfl]
        walk_at "gg"
        refine ⟨fun z => Bool.noConfusion z, fun _ => ?_⟩
        walk_at "gg"
        exact ⟨_, _, rfl, rfl⟩
      · rintro _ _ ⟨y6, y7, rfl, rfl⟩
        exact ⟨_, _, _, rfl, rfl⟩
    · rintro _ _ ⟨y5, y6, y7, rfl, rfl⟩
      walk_at "gg"
      refine le_xvE (u := th) hS.xf hS.val ?_
      walk_at "gg"
      refine ⟨rfl, ?_⟩
      walk_at "gg"
      refine hrp _ _ ?_
      walk_at "gg"
      refine hrp _ _ ?_
      walk_at "gg"
      refine ⟨fun hb => absurd hb (by simp), fun _ => ?_⟩
      walk_at "gg"
      refine le_xvE (u := th) hS.xf hS.val ?_
      walk_at "gg"
      refine ⟨rfl, ?_⟩
      walk_at "gg"
      refine hrp _ _ ?_
      walk_at "gg"
      refine hrp _ _ ?_
      walk_at "gg"
      refine ⟨fun hb => absurd hb (by simp), fun _ => ?_⟩
      walk_at "gg"
      exact ⟨o6, u6, _, _, _, _, _, _, rfl, h6.mono (by omega), rfl⟩
  · rintro _ _ ⟨o', u', x2, x3, x4, x5, x6, x7, rfl, hb', rfl⟩
    walk_at "gg"
    refine Gm.r0 (CS, 10, D.str "a") ⟨rfl, rfl, hS⟩ fun e S' ⟨q1, q2⟩ => ⟨_, q2, q1, ?_⟩
    walk_at "gg"
    refine rr_rep (ds := [.bl false]) (.inl rfl) (by decide) (by decide) (by decide) ?_
    refine rr_eqB (ps := (List.range 10).map fun j => decide (j = 10)) (qs := List.replicate 10 false) ?_
    rw [show ((List.range 10).map fun j => decide (j = 10)) = List.replicate 10 false by decide, decide_eq_true rfl]
    exact hp _ _ rfl
end

section
theorem all_mk {l : PySem.W.OpenLaw} {w : World} {K : PySem.W.Frag} {h : Heap} {mg : Str → Option Value} {fa f1 f2 f3 f4 f5 CS f6 r1 r3 r2 r5 r0 r4 r6 r7 r8 r9 : Addr} (X : K.In h) (G : h.Ns mainGlobals mg) (hfa : mg "law" = some (.ref fa))
    {od1 an1 : Option Addr} {sl1 : Array (Option Value)} {oc1 kV1 dc1 pm1 cd1 ct1 : Value}
    {od2 an2 : Option Addr} {sl2 : Array (Option Value)} {oc2 kV2 dc2 pm2 cd2 ct2 : Value}
    {od3 an3 : Option Addr} {sl3 : Array (Option Value)} {oc3 kV3 dc3 pm3 cd3 ct3 : Value}
    {od4 an4 : Option Addr} {sl4 : Array (Option Value)} {oc4 kV4 dc4 pm4 cd4 ct4 : Value}
    {od5 an5 : Option Addr} {sl5 : Array (Option Value)} {oc5 kV5 dc5 pm5 cd5 ct5 : Value}
    {nmCS qCS : Str} {NCS : Addr} {bsCS bmCS : List Value} {snCS : List Str} {subCS : List Value} {abCS : Bool} {colCS : Option Bool} {ddCS : Option Addr} {u0CS u1CS u2CS u3CS u5CS : Option Value}
    {od6 an6 : Option Addr} {sl6 : Array (Option Value)} {oc6 kV6 dc6 pm6 cd6 ct6 : Value}
    {nmr1 qr1 : Str} {Nr1 : Addr} {bsr1 bmr1 : List Value} {snr1 : List Str} {subr1 : List Value} {abr1 : Bool} {colr1 : Option Bool} {ddr1 : Option Addr} {u0r1 u1r1 u2r1 u3r1 u5r1 : Option Value}
    {nmr3 qr3 : Str} {Nr3 : Addr} {bsr3 bmr3 : List Value} {snr3 : List Str} {subr3 : List Value} {abr3 : Bool} {colr3 : Option Bool} {ddr3 : Option Addr} {u0r3 u1r3 u2r3 u3r3 u5r3 : Option Value}
    {nmr2 qr2 : Str} {Nr2 : Addr} {bsr2 bmr2 : List Value} {snr2 : List Str} {subr2 : List Value} {abr2 : Bool} {colr2 : Option Bool} {ddr2 : Option Addr} {u0r2 u1r2 u2r2 u3r2 u5r2 : Option Value}
    {nmr5 qr5 : Str} {Nr5 : Addr} {bsr5 bmr5 : List Value} {snr5 : List Str} {subr5 : List Value} {abr5 : Bool} {colr5 : Option Bool} {ddr5 : Option Addr} {u0r5 u1r5 u2r5 u3r5 u5r5 : Option Value}
    {nmr0 qr0 : Str} {Nr0 : Addr} {bsr0 bmr0 : List Value} {snr0 : List Str} {subr0 : List Value} {abr0 : Bool} {colr0 : Option Bool} {ddr0 : Option Addr} {u0r0 u1r0 u2r0 u3r0 u5r0 : Option Value}
    {nmr4 qr4 : Str} {Nr4 : Addr} {bsr4 bmr4 : List Value} {snr4 : List Str} {subr4 : List Value} {abr4 : Bool} {colr4 : Option Bool} {ddr4 : Option Addr} {u0r4 u1r4 u2r4 u3r4 u5r4 : Option Value}
    {nmr6 qr6 : Str} {Nr6 : Addr} {bsr6 bmr6 : List Value} {snr6 : List Str} {subr6 : List Value} {abr6 : Bool} {colr6 : Option Bool} {ddr6 : Option Addr} {u0r6 u1r6 u2r6 u3r6 u5r6 : Option Value}
    {nmr7 qr7 : Str} {Nr7 : Addr} {bsr7 bmr7 : List Value} {snr7 : List Str} {subr7 : List Value} {abr7 : Bool} {colr7 : Option Bool} {ddr7 : Option Addr} {u0r7 u1r7 u2r7 u3r7 u5r7 : Option Value}
    {nmr8 qr8 : Str} {Nr8 : Addr} {bsr8 bmr8 : List Value} {snr8 : List Str} {subr8 : List Value} {abr8 : Bool} {colr8 : Option Bool} {ddr8 : Option Addr} {u0r8 u1r8 u2r8 u3r8 u5r8 : Option Value}
    {nmr9 qr9 : Str} {Nr9 : Addr} {bsr9 bmr9 : List Value} {snr9 : List Str} {subr9 : List Value} {abr9 : Bool} {colr9 : Option Bool} {ddr9 : Option Addr} {u0r9 u1r9 u2r9 u3r9 u5r9 : Option Value}
    (a1 : PySem.W.nsIn K mainGlobals "_law_bag" = some (some (.ref f1)))
    (l1 : K.lookup f1 = some ⟨oc1, od1, .func (PySem.W.fnOf "_law_bag" "_law_bag" (defArgs s_law_bag) (defBody s_law_bag) (defScope s_law_bag) .none kV1 dc1 pm1 an1 cd1 ct1), sl1⟩)
    (c1 : PySem.W.codeIn K cd1 "_law_bag" = true)
    (k1 : PySem.W.keepIn K (.ref f1) = true)
    (a2 : PySem.W.nsIn K mainGlobals "_law_draw" = some (some (.ref f2)))
    (l2 : K.lookup f2 = some ⟨oc2, od2, .func (PySem.W.fnOf "_law_draw" "_law_draw" (defArgs s_law_draw) (defBody s_law_draw) (defScope s_law_draw) .none kV2 dc2 pm2 an2 cd2 ct2), sl2⟩)
    (c2 : PySem.W.codeIn K cd2 "_law_draw" = true)
    (k2 : PySem.W.keepIn K (.ref f2) = true)
    (a3 : PySem.W.nsIn K mainGlobals "_law_made" = some (some (.ref f3)))
    (l3 : K.lookup f3 = some ⟨oc3, od3, .func (PySem.W.fnOf "_law_made" "_law_made" (defArgs s_law_made) (defBody s_law_made) (defScope s_law_made) .none kV3 dc3 pm3 an3 cd3 ct3), sl3⟩)
    (c3 : PySem.W.codeIn K cd3 "_law_made" = true)
    (k3 : PySem.W.keepIn K (.ref f3) = true)
    (a4 : PySem.W.nsIn K mainGlobals "_law_flags" = some (some (.ref f4)))
    (l4 : K.lookup f4 = some ⟨oc4, od4, .func (PySem.W.fnOf "_law_flags" "_law_flags" (defArgs s_law_flags) (defBody s_law_flags) (defScope s_law_flags) .none kV4 dc4 pm4 an4 cd4 ct4), sl4⟩)
    (c4 : PySem.W.codeIn K cd4 "_law_flags" = true)
    (k4 : PySem.W.keepIn K (.ref f4) = true)
    (a5 : PySem.W.nsIn K mainGlobals "law" = some (some (.ref f5)))
    (l5 : K.lookup f5 = some ⟨oc5, od5, .func (PySem.W.fnOf "law" "law" (defArgs slaw) (defBody slaw) (defScope slaw) .none kV5 dc5 pm5 an5 cd5 ct5), sl5⟩)
    (c5 : PySem.W.codeIn K cd5 "law" = true)
    (k5 : PySem.W.keepIn K (.ref f5) = true)
    (aCS : PySem.W.nsIn K mainGlobals "SizeError" = some (some (.ref CS)))
    (lkCS : K.lookup CS = some (excClassObj nmCS qCS CS NCS bsCS bmCS true snCS subCS abCS colCS ddCS u0CS u1CS u2CS u3CS u5CS "ValueError.__new__"))
    (rvCS : PySem.HandSPX.refsVE bmCS = true)
    (saCS : PySem.W.findIn K (.ref CS) "__setattr__" = some (some (.builtin "object.__setattr__")))
    (xeCS : PySem.W.subIn K (.ref CS) (.type "BaseException") = some true)
    (tyCS : PySem.W.typeIn K (.ref CS) = some (.type "type"))
    (kcCS : PySem.W.keepIn K (.ref CS) = true)
    (vaCS : PySem.W.findIn K (.ref CS) "value" = some none)
    (a6 : PySem.W.findIn K (.ref CS) "__init__" = some (some (.ref f6)))
    (l6 : K.lookup f6 = some ⟨oc6, od6, .func (PySem.W.fnOf "__init__" "SizeError.__init__" (defArgs sSizeErrorinit) (defBody sSizeErrorinit) (defScope sSizeErrorinit) .none kV6 dc6 pm6 an6 cd6 ct6), sl6⟩)
    (c6 : PySem.W.codeIn K cd6 "SizeError.__init__" = true)
    (k6 : PySem.W.keepIn K (.ref f6) = true)
    (tyf : PySem.W.typeIn K (.ref f6) = some (.type "function"))
    (gaCS : PySem.W.findIn K (.ref CS) "__getattribute__" = some (some (.builtin "BaseException.__getattribute__")))
    (gtCS : PySem.W.findIn K (.ref CS) "__getattr__" = some none)
    (hdCS : PySem.W.hasDictIn K CS = true)
    (ckCS : PySem.W.findIn K (.ref CS) "__class__" = some (some (.builtin "object.__class__")))
    (cnCS : PySem.W.specialIn K (.builtin "object.__class__") "__get__" = some (some (.builtin "getset_descriptor.__get__")))
    (ctCS : PySem.W.takesIn K (.builtin "object.__class__") = some true)
    (mrCS : PySem.W.mroIn K CS (.type "object") = some true)
    (ar1 : PySem.W.nsIn K mainGlobals "InvalidLine" = some (some (.ref r1)))
    (lkr1 : K.lookup r1 = some (excClassObj nmr1 qr1 r1 Nr1 bsr1 bmr1 true snr1 subr1 abr1 colr1 ddr1 u0r1 u1r1 u2r1 u3r1 u5r1 "ValueError.__new__"))
    (rvr1 : PySem.HandSPX.refsVE bmr1 = true)
    (sar1 : PySem.W.findIn K (.ref r1) "__setattr__" = some (some (.builtin "object.__setattr__")))
    (xer1 : PySem.W.subIn K (.ref r1) (.type "BaseException") = some true)
    (tyr1 : PySem.W.typeIn K (.ref r1) = some (.type "type"))
    (kcr1 : PySem.W.keepIn K (.ref r1) = true)
    (var1 : PySem.W.findIn K (.ref r1) "value" = some none)
    (inr1 : PySem.W.findIn K (.ref r1) "__init__" = some (some (.ref f6)))
    (gar1 : PySem.W.findIn K (.ref r1) "__getattribute__" = some (some (.builtin "BaseException.__getattribute__")))
    (gtr1 : PySem.W.findIn K (.ref r1) "__getattr__" = some none)
    (hdr1 : PySem.W.hasDictIn K r1 = true)
    (ckr1 : PySem.W.findIn K (.ref r1) "__class__" = some (some (.builtin "object.__class__")))
    (cnr1 : PySem.W.specialIn K (.builtin "object.__class__") "__get__" = some (some (.builtin "getset_descriptor.__get__")))
    (ctr1 : PySem.W.takesIn K (.builtin "object.__class__") = some true)
    (mrr1 : PySem.W.mroIn K r1 (.type "object") = some true)
    (ar3 : PySem.W.nsIn K mainGlobals "InvalidPipeline" = some (some (.ref r3)))
    (lkr3 : K.lookup r3 = some (excClassObj nmr3 qr3 r3 Nr3 bsr3 bmr3 true snr3 subr3 abr3 colr3 ddr3 u0r3 u1r3 u2r3 u3r3 u5r3 "ValueError.__new__"))
    (rvr3 : PySem.HandSPX.refsVE bmr3 = true)
    (sar3 : PySem.W.findIn K (.ref r3) "__setattr__" = some (some (.builtin "object.__setattr__")))
    (xer3 : PySem.W.subIn K (.ref r3) (.type "BaseException") = some true)
    (tyr3 : PySem.W.typeIn K (.ref r3) = some (.type "type"))
    (kcr3 : PySem.W.keepIn K (.ref r3) = true)
    (var3 : PySem.W.findIn K (.ref r3) "value" = some none)
    (inr3 : PySem.W.findIn K (.ref r3) "__init__" = some (some (.ref f6)))
    (gar3 : PySem.W.findIn K (.ref r3) "__getattribute__" = some (some (.builtin "BaseException.__getattribute__")))
    (gtr3 : PySem.W.findIn K (.ref r3) "__getattr__" = some none)
    (hdr3 : PySem.W.hasDictIn K r3 = true)
    (ckr3 : PySem.W.findIn K (.ref r3) "__class__" = some (some (.builtin "object.__class__")))
    (cnr3 : PySem.W.specialIn K (.builtin "object.__class__") "__get__" = some (some (.builtin "getset_descriptor.__get__")))
    (ctr3 : PySem.W.takesIn K (.builtin "object.__class__") = some true)
    (mrr3 : PySem.W.mroIn K r3 (.type "object") = some true)
    (ar2 : PySem.W.nsIn K mainGlobals "InvalidNumber" = some (some (.ref r2)))
    (lkr2 : K.lookup r2 = some (excClassObj nmr2 qr2 r2 Nr2 bsr2 bmr2 true snr2 subr2 abr2 colr2 ddr2 u0r2 u1r2 u2r2 u3r2 u5r2 "ValueError.__new__"))
    (rvr2 : PySem.HandSPX.refsVE bmr2 = true)
    (sar2 : PySem.W.findIn K (.ref r2) "__setattr__" = some (some (.builtin "object.__setattr__")))
    (xer2 : PySem.W.subIn K (.ref r2) (.type "BaseException") = some true)
    (tyr2 : PySem.W.typeIn K (.ref r2) = some (.type "type"))
    (kcr2 : PySem.W.keepIn K (.ref r2) = true)
    (var2 : PySem.W.findIn K (.ref r2) "value" = some none)
    (inr2 : PySem.W.findIn K (.ref r2) "__init__" = some (some (.ref f6)))
    (gar2 : PySem.W.findIn K (.ref r2) "__getattribute__" = some (some (.builtin "BaseException.__getattribute__")))
    (gtr2 : PySem.W.findIn K (.ref r2) "__getattr__" = some none)
    (hdr2 : PySem.W.hasDictIn K r2 = true)
    (ckr2 : PySem.W.findIn K (.ref r2) "__class__" = some (some (.builtin "object.__class__")))
    (cnr2 : PySem.W.specialIn K (.builtin "object.__class__") "__get__" = some (some (.builtin "getset_descriptor.__get__")))
    (ctr2 : PySem.W.takesIn K (.builtin "object.__class__") = some true)
    (mrr2 : PySem.W.mroIn K r2 (.type "object") = some true)
    (ar5 : PySem.W.nsIn K mainGlobals "InvalidRow" = some (some (.ref r5)))
    (lkr5 : K.lookup r5 = some (excClassObj nmr5 qr5 r5 Nr5 bsr5 bmr5 true snr5 subr5 abr5 colr5 ddr5 u0r5 u1r5 u2r5 u3r5 u5r5 "ValueError.__new__"))
    (rvr5 : PySem.HandSPX.refsVE bmr5 = true)
    (sar5 : PySem.W.findIn K (.ref r5) "__setattr__" = some (some (.builtin "object.__setattr__")))
    (xer5 : PySem.W.subIn K (.ref r5) (.type "BaseException") = some true)
    (tyr5 : PySem.W.typeIn K (.ref r5) = some (.type "type"))
    (kcr5 : PySem.W.keepIn K (.ref r5) = true)
    (var5 : PySem.W.findIn K (.ref r5) "value" = some none)
    (inr5 : PySem.W.findIn K (.ref r5) "__init__" = some (some (.ref f6)))
    (gar5 : PySem.W.findIn K (.ref r5) "__getattribute__" = some (some (.builtin "BaseException.__getattribute__")))
    (gtr5 : PySem.W.findIn K (.ref r5) "__getattr__" = some none)
    (hdr5 : PySem.W.hasDictIn K r5 = true)
    (ckr5 : PySem.W.findIn K (.ref r5) "__class__" = some (some (.builtin "object.__class__")))
    (cnr5 : PySem.W.specialIn K (.builtin "object.__class__") "__get__" = some (some (.builtin "getset_descriptor.__get__")))
    (ctr5 : PySem.W.takesIn K (.builtin "object.__class__") = some true)
    (mrr5 : PySem.W.mroIn K r5 (.type "object") = some true)
    (ar0 : PySem.W.nsIn K mainGlobals "InvalidCell" = some (some (.ref r0)))
    (lkr0 : K.lookup r0 = some (excClassObj nmr0 qr0 r0 Nr0 bsr0 bmr0 true snr0 subr0 abr0 colr0 ddr0 u0r0 u1r0 u2r0 u3r0 u5r0 "ValueError.__new__"))
    (rvr0 : PySem.HandSPX.refsVE bmr0 = true)
    (sar0 : PySem.W.findIn K (.ref r0) "__setattr__" = some (some (.builtin "object.__setattr__")))
    (xer0 : PySem.W.subIn K (.ref r0) (.type "BaseException") = some true)
    (tyr0 : PySem.W.typeIn K (.ref r0) = some (.type "type"))
    (kcr0 : PySem.W.keepIn K (.ref r0) = true)
    (var0 : PySem.W.findIn K (.ref r0) "value" = some none)
    (inr0 : PySem.W.findIn K (.ref r0) "__init__" = some (some (.ref f6)))
    (gar0 : PySem.W.findIn K (.ref r0) "__getattribute__" = some (some (.builtin "BaseException.__getattribute__")))
    (gtr0 : PySem.W.findIn K (.ref r0) "__getattr__" = some none)
    (hdr0 : PySem.W.hasDictIn K r0 = true)
    (ckr0 : PySem.W.findIn K (.ref r0) "__class__" = some (some (.builtin "object.__class__")))
    (cnr0 : PySem.W.specialIn K (.builtin "object.__class__") "__get__" = some (some (.builtin "getset_descriptor.__get__")))
    (ctr0 : PySem.W.takesIn K (.builtin "object.__class__") = some true)
    (mrr0 : PySem.W.mroIn K r0 (.type "object") = some true)
    (ar4 : PySem.W.nsIn K mainGlobals "InvalidPlaces" = some (some (.ref r4)))
    (lkr4 : K.lookup r4 = some (excClassObj nmr4 qr4 r4 Nr4 bsr4 bmr4 true snr4 subr4 abr4 colr4 ddr4 u0r4 u1r4 u2r4 u3r4 u5r4 "ValueError.__new__"))
    (rvr4 : PySem.HandSPX.refsVE bmr4 = true)
    (sar4 : PySem.W.findIn K (.ref r4) "__setattr__" = some (some (.builtin "object.__setattr__")))
    (xer4 : PySem.W.subIn K (.ref r4) (.type "BaseException") = some true)
    (tyr4 : PySem.W.typeIn K (.ref r4) = some (.type "type"))
    (kcr4 : PySem.W.keepIn K (.ref r4) = true)
    (var4 : PySem.W.findIn K (.ref r4) "value" = some none)
    (inr4 : PySem.W.findIn K (.ref r4) "__init__" = some (some (.ref f6)))
    (gar4 : PySem.W.findIn K (.ref r4) "__getattribute__" = some (some (.builtin "BaseException.__getattribute__")))
    (gtr4 : PySem.W.findIn K (.ref r4) "__getattr__" = some none)
    (hdr4 : PySem.W.hasDictIn K r4 = true)
    (ckr4 : PySem.W.findIn K (.ref r4) "__class__" = some (some (.builtin "object.__class__")))
    (cnr4 : PySem.W.specialIn K (.builtin "object.__class__") "__get__" = some (some (.builtin "getset_descriptor.__get__")))
    (ctr4 : PySem.W.takesIn K (.builtin "object.__class__") = some true)
    (mrr4 : PySem.W.mroIn K r4 (.type "object") = some true)
    (ar6 : PySem.W.nsIn K mainGlobals "NotFitting" = some (some (.ref r6)))
    (lkr6 : K.lookup r6 = some (excClassObj nmr6 qr6 r6 Nr6 bsr6 bmr6 true snr6 subr6 abr6 colr6 ddr6 u0r6 u1r6 u2r6 u3r6 u5r6 "ValueError.__new__"))
    (rvr6 : PySem.HandSPX.refsVE bmr6 = true)
    (sar6 : PySem.W.findIn K (.ref r6) "__setattr__" = some (some (.builtin "object.__setattr__")))
    (xer6 : PySem.W.subIn K (.ref r6) (.type "BaseException") = some true)
    (tyr6 : PySem.W.typeIn K (.ref r6) = some (.type "type"))
    (kcr6 : PySem.W.keepIn K (.ref r6) = true)
    (var6 : PySem.W.findIn K (.ref r6) "value" = some none)
    (inr6 : PySem.W.findIn K (.ref r6) "__init__" = some (some (.ref f6)))
    (gar6 : PySem.W.findIn K (.ref r6) "__getattribute__" = some (some (.builtin "BaseException.__getattribute__")))
    (gtr6 : PySem.W.findIn K (.ref r6) "__getattr__" = some none)
    (hdr6 : PySem.W.hasDictIn K r6 = true)
    (ckr6 : PySem.W.findIn K (.ref r6) "__class__" = some (some (.builtin "object.__class__")))
    (cnr6 : PySem.W.specialIn K (.builtin "object.__class__") "__get__" = some (some (.builtin "getset_descriptor.__get__")))
    (ctr6 : PySem.W.takesIn K (.builtin "object.__class__") = some true)
    (mrr6 : PySem.W.mroIn K r6 (.type "object") = some true)
    (ar7 : PySem.W.nsIn K mainGlobals "NotSteady" = some (some (.ref r7)))
    (lkr7 : K.lookup r7 = some (excClassObj nmr7 qr7 r7 Nr7 bsr7 bmr7 true snr7 subr7 abr7 colr7 ddr7 u0r7 u1r7 u2r7 u3r7 u5r7 "ValueError.__new__"))
    (rvr7 : PySem.HandSPX.refsVE bmr7 = true)
    (sar7 : PySem.W.findIn K (.ref r7) "__setattr__" = some (some (.builtin "object.__setattr__")))
    (xer7 : PySem.W.subIn K (.ref r7) (.type "BaseException") = some true)
    (tyr7 : PySem.W.typeIn K (.ref r7) = some (.type "type"))
    (kcr7 : PySem.W.keepIn K (.ref r7) = true)
    (var7 : PySem.W.findIn K (.ref r7) "value" = some none)
    (inr7 : PySem.W.findIn K (.ref r7) "__init__" = some (some (.ref f6)))
    (gar7 : PySem.W.findIn K (.ref r7) "__getattribute__" = some (some (.builtin "BaseException.__getattribute__")))
    (gtr7 : PySem.W.findIn K (.ref r7) "__getattr__" = some none)
    (hdr7 : PySem.W.hasDictIn K r7 = true)
    (ckr7 : PySem.W.findIn K (.ref r7) "__class__" = some (some (.builtin "object.__class__")))
    (cnr7 : PySem.W.specialIn K (.builtin "object.__class__") "__get__" = some (some (.builtin "getset_descriptor.__get__")))
    (ctr7 : PySem.W.takesIn K (.builtin "object.__class__") = some true)
    (mrr7 : PySem.W.mroIn K r7 (.type "object") = some true)
    (ar8 : PySem.W.nsIn K mainGlobals "NothingToUndo" = some (some (.ref r8)))
    (lkr8 : K.lookup r8 = some (excClassObj nmr8 qr8 r8 Nr8 bsr8 bmr8 true snr8 subr8 abr8 colr8 ddr8 u0r8 u1r8 u2r8 u3r8 u5r8 "ValueError.__new__"))
    (rvr8 : PySem.HandSPX.refsVE bmr8 = true)
    (sar8 : PySem.W.findIn K (.ref r8) "__setattr__" = some (some (.builtin "object.__setattr__")))
    (xer8 : PySem.W.subIn K (.ref r8) (.type "BaseException") = some true)
    (tyr8 : PySem.W.typeIn K (.ref r8) = some (.type "type"))
    (kcr8 : PySem.W.keepIn K (.ref r8) = true)
    (var8 : PySem.W.findIn K (.ref r8) "value" = some none)
    (inr8 : PySem.W.findIn K (.ref r8) "__init__" = some (some (.ref f6)))
    (gar8 : PySem.W.findIn K (.ref r8) "__getattribute__" = some (some (.builtin "BaseException.__getattribute__")))
    (gtr8 : PySem.W.findIn K (.ref r8) "__getattr__" = some none)
    (hdr8 : PySem.W.hasDictIn K r8 = true)
    (ckr8 : PySem.W.findIn K (.ref r8) "__class__" = some (some (.builtin "object.__class__")))
    (cnr8 : PySem.W.specialIn K (.builtin "object.__class__") "__get__" = some (some (.builtin "getset_descriptor.__get__")))
    (ctr8 : PySem.W.takesIn K (.builtin "object.__class__") = some true)
    (mrr8 : PySem.W.mroIn K r8 (.type "object") = some true)
    (ar9 : PySem.W.nsIn K mainGlobals "Unreadable" = some (some (.ref r9)))
    (lkr9 : K.lookup r9 = some (excClassObj nmr9 qr9 r9 Nr9 bsr9 bmr9 true snr9 subr9 abr9 colr9 ddr9 u0r9 u1r9 u2r9 u3r9 u5r9 "ValueError.__new__"))
    (rvr9 : PySem.HandSPX.refsVE bmr9 = true)
    (sar9 : PySem.W.findIn K (.ref r9) "__setattr__" = some (some (.builtin "object.__setattr__")))
    (xer9 : PySem.W.subIn K (.ref r9) (.type "BaseException") = some true)
    (tyr9 : PySem.W.typeIn K (.ref r9) = some (.type "type"))
    (kcr9 : PySem.W.keepIn K (.ref r9) = true)
    (var9 : PySem.W.findIn K (.ref r9) "value" = some none)
    (inr9 : PySem.W.findIn K (.ref r9) "__init__" = some (some (.ref f6)))
    (gar9 : PySem.W.findIn K (.ref r9) "__getattribute__" = some (some (.builtin "BaseException.__getattribute__")))
    (gtr9 : PySem.W.findIn K (.ref r9) "__getattr__" = some none)
    (hdr9 : PySem.W.hasDictIn K r9 = true)
    (ckr9 : PySem.W.findIn K (.ref r9) "__class__" = some (some (.builtin "object.__class__")))
    (cnr9 : PySem.W.specialIn K (.builtin "object.__class__") "__get__" = some (some (.builtin "getset_descriptor.__get__")))
    (ctr9 : PySem.W.takesIn K (.builtin "object.__class__") = some true)
    (mrr9 : PySem.W.mroIn K r9 (.type "object") = some true)
    (b_sorted : PySem.W.nsIn K mainGlobals "sorted" = some none)
    (b_set : PySem.W.nsIn K mainGlobals "set" = some none)
    (b_reversed : PySem.W.nsIn K mainGlobals "reversed" = some none)
    (b_len : PySem.W.nsIn K mainGlobals "len" = some none)
    (b_int : PySem.W.nsIn K mainGlobals "int" = some none)
    (b_range : PySem.W.nsIn K mainGlobals "range" = some none)
    (b_abs : PySem.W.nsIn K mainGlobals "abs" = some none)
    (b_max : PySem.W.nsIn K mainGlobals "max" = some none)
    (b_min : PySem.W.nsIn K mainGlobals "min" = some none)
    (b_list : PySem.W.nsIn K mainGlobals "list" = some none)
    (b_isinstance : PySem.W.nsIn K mainGlobals "isinstance" = some none)
    (b_tuple : PySem.W.nsIn K mainGlobals "tuple" = some none)
    (b_enumerate : PySem.W.nsIn K mainGlobals "enumerate" = some none)
    (b_ValueError : PySem.W.nsIn K mainGlobals "ValueError" = some none)
    (b_repr : PySem.W.nsIn K mainGlobals "repr" = some none)
    (ktr1_r1 : PySem.W.kitOne K (.ref r1) (.ref r1) = some true)
    (ktr1_r3 : PySem.W.kitOne K (.ref r1) (.ref r3) = some false)
    (ktr1_r2 : PySem.W.kitOne K (.ref r1) (.ref r2) = some false)
    (ktr1_r5 : PySem.W.kitOne K (.ref r1) (.ref r5) = some false)
    (ktr1_r0 : PySem.W.kitOne K (.ref r1) (.ref r0) = some false)
    (ktr1_r4 : PySem.W.kitOne K (.ref r1) (.ref r4) = some false)
    (ktr1_r6 : PySem.W.kitOne K (.ref r1) (.ref r6) = some false)
    (ktr1_r7 : PySem.W.kitOne K (.ref r1) (.ref r7) = some false)
    (ktr1_r8 : PySem.W.kitOne K (.ref r1) (.ref r8) = some false)
    (ktr1_r9 : PySem.W.kitOne K (.ref r1) (.ref r9) = some false)
    (kcsr1 : PySem.W.kitOne K (.ref r1) (.ref CS) = some true)
    (kver1 : PySem.W.kitOne K (.ref r1) (.type "ValueError") = some true)
    (ktr3_r1 : PySem.W.kitOne K (.ref r3) (.ref r1) = some false)
    (ktr3_r3 : PySem.W.kitOne K (.ref r3) (.ref r3) = some true)
    (ktr3_r2 : PySem.W.kitOne K (.ref r3) (.ref r2) = some false)
    (ktr3_r5 : PySem.W.kitOne K (.ref r3) (.ref r5) = some false)
    (ktr3_r0 : PySem.W.kitOne K (.ref r3) (.ref r0) = some false)
    (ktr3_r4 : PySem.W.kitOne K (.ref r3) (.ref r4) = some false)
    (ktr3_r6 : PySem.W.kitOne K (.ref r3) (.ref r6) = some false)
    (ktr3_r7 : PySem.W.kitOne K (.ref r3) (.ref r7) = some false)
    (ktr3_r8 : PySem.W.kitOne K (.ref r3) (.ref r8) = some false)
    (ktr3_r9 : PySem.W.kitOne K (.ref r3) (.ref r9) = some false)
    (kcsr3 : PySem.W.kitOne K (.ref r3) (.ref CS) = some true)
    (kver3 : PySem.W.kitOne K (.ref r3) (.type "ValueError") = some true)
    (ktr2_r1 : PySem.W.kitOne K (.ref r2) (.ref r1) = some false)
    (ktr2_r3 : PySem.W.kitOne K (.ref r2) (.ref r3) = some false)
    (ktr2_r2 : PySem.W.kitOne K (.ref r2) (.ref r2) = some true)
    (ktr2_r5 : PySem.W.kitOne K (.ref r2) (.ref r5) = some false)
    (ktr2_r0 : PySem.W.kitOne K (.ref r2) (.ref r0) = some false)
    (ktr2_r4 : PySem.W.kitOne K (.ref r2) (.ref r4) = some false)
    (ktr2_r6 : PySem.W.kitOne K (.ref r2) (.ref r6) = some false)
    (ktr2_r7 : PySem.W.kitOne K (.ref r2) (.ref r7) = some false)
    (ktr2_r8 : PySem.W.kitOne K (.ref r2) (.ref r8) = some false)
    (ktr2_r9 : PySem.W.kitOne K (.ref r2) (.ref r9) = some false)
    (kcsr2 : PySem.W.kitOne K (.ref r2) (.ref CS) = some true)
    (kver2 : PySem.W.kitOne K (.ref r2) (.type "ValueError") = some true)
    (ktr5_r1 : PySem.W.kitOne K (.ref r5) (.ref r1) = some false)
    (ktr5_r3 : PySem.W.kitOne K (.ref r5) (.ref r3) = some false)
    (ktr5_r2 : PySem.W.kitOne K (.ref r5) (.ref r2) = some false)
    (ktr5_r5 : PySem.W.kitOne K (.ref r5) (.ref r5) = some true)
    (ktr5_r0 : PySem.W.kitOne K (.ref r5) (.ref r0) = some false)
    (ktr5_r4 : PySem.W.kitOne K (.ref r5) (.ref r4) = some false)
    (ktr5_r6 : PySem.W.kitOne K (.ref r5) (.ref r6) = some false)
    (ktr5_r7 : PySem.W.kitOne K (.ref r5) (.ref r7) = some false)
    (ktr5_r8 : PySem.W.kitOne K (.ref r5) (.ref r8) = some false)
    (ktr5_r9 : PySem.W.kitOne K (.ref r5) (.ref r9) = some false)
    (kcsr5 : PySem.W.kitOne K (.ref r5) (.ref CS) = some true)
    (kver5 : PySem.W.kitOne K (.ref r5) (.type "ValueError") = some true)
    (ktr0_r1 : PySem.W.kitOne K (.ref r0) (.ref r1) = some false)
    (ktr0_r3 : PySem.W.kitOne K (.ref r0) (.ref r3) = some false)
    (ktr0_r2 : PySem.W.kitOne K (.ref r0) (.ref r2) = some false)
    (ktr0_r5 : PySem.W.kitOne K (.ref r0) (.ref r5) = some false)
    (ktr0_r0 : PySem.W.kitOne K (.ref r0) (.ref r0) = some true)
    (ktr0_r4 : PySem.W.kitOne K (.ref r0) (.ref r4) = some false)
    (ktr0_r6 : PySem.W.kitOne K (.ref r0) (.ref r6) = some false)
    (ktr0_r7 : PySem.W.kitOne K (.ref r0) (.ref r7) = some false)
    (ktr0_r8 : PySem.W.kitOne K (.ref r0) (.ref r8) = some false)
    (ktr0_r9 : PySem.W.kitOne K (.ref r0) (.ref r9) = some false)
    (kcsr0 : PySem.W.kitOne K (.ref r0) (.ref CS) = some true)
    (kver0 : PySem.W.kitOne K (.ref r0) (.type "ValueError") = some true)
    (ktr4_r1 : PySem.W.kitOne K (.ref r4) (.ref r1) = some false)
    (ktr4_r3 : PySem.W.kitOne K (.ref r4) (.ref r3) = some false)
    (ktr4_r2 : PySem.W.kitOne K (.ref r4) (.ref r2) = some false)
    (ktr4_r5 : PySem.W.kitOne K (.ref r4) (.ref r5) = some false)
    (ktr4_r0 : PySem.W.kitOne K (.ref r4) (.ref r0) = some false)
    (ktr4_r4 : PySem.W.kitOne K (.ref r4) (.ref r4) = some true)
    (ktr4_r6 : PySem.W.kitOne K (.ref r4) (.ref r6) = some false)
    (ktr4_r7 : PySem.W.kitOne K (.ref r4) (.ref r7) = some false)
    (ktr4_r8 : PySem.W.kitOne K (.ref r4) (.ref r8) = some false)
    (ktr4_r9 : PySem.W.kitOne K (.ref r4) (.ref r9) = some false)
    (kcsr4 : PySem.W.kitOne K (.ref r4) (.ref CS) = some true)
    (kver4 : PySem.W.kitOne K (.ref r4) (.type "ValueError") = some true)
    (ktr6_r1 : PySem.W.kitOne K (.ref r6) (.ref r1) = some false)
    (ktr6_r3 : PySem.W.kitOne K (.ref r6) (.ref r3) = some false)
    (ktr6_r2 : PySem.W.kitOne K (.ref r6) (.ref r2) = some false)
    (ktr6_r5 : PySem.W.kitOne K (.ref r6) (.ref r5) = some false)
    (ktr6_r0 : PySem.W.kitOne K (.ref r6) (.ref r0) = some false)
    (ktr6_r4 : PySem.W.kitOne K (.ref r6) (.ref r4) = some false)
    (ktr6_r6 : PySem.W.kitOne K (.ref r6) (.ref r6) = some true)
    (ktr6_r7 : PySem.W.kitOne K (.ref r6) (.ref r7) = some false)
    (ktr6_r8 : PySem.W.kitOne K (.ref r6) (.ref r8) = some false)
    (ktr6_r9 : PySem.W.kitOne K (.ref r6) (.ref r9) = some false)
    (kcsr6 : PySem.W.kitOne K (.ref r6) (.ref CS) = some true)
    (kver6 : PySem.W.kitOne K (.ref r6) (.type "ValueError") = some true)
    (ktr7_r1 : PySem.W.kitOne K (.ref r7) (.ref r1) = some false)
    (ktr7_r3 : PySem.W.kitOne K (.ref r7) (.ref r3) = some false)
    (ktr7_r2 : PySem.W.kitOne K (.ref r7) (.ref r2) = some false)
    (ktr7_r5 : PySem.W.kitOne K (.ref r7) (.ref r5) = some false)
    (ktr7_r0 : PySem.W.kitOne K (.ref r7) (.ref r0) = some false)
    (ktr7_r4 : PySem.W.kitOne K (.ref r7) (.ref r4) = some false)
    (ktr7_r6 : PySem.W.kitOne K (.ref r7) (.ref r6) = some false)
    (ktr7_r7 : PySem.W.kitOne K (.ref r7) (.ref r7) = some true)
    (ktr7_r8 : PySem.W.kitOne K (.ref r7) (.ref r8) = some false)
    (ktr7_r9 : PySem.W.kitOne K (.ref r7) (.ref r9) = some false)
    (kcsr7 : PySem.W.kitOne K (.ref r7) (.ref CS) = some true)
    (kver7 : PySem.W.kitOne K (.ref r7) (.type "ValueError") = some true)
    (ktr8_r1 : PySem.W.kitOne K (.ref r8) (.ref r1) = some false)
    (ktr8_r3 : PySem.W.kitOne K (.ref r8) (.ref r3) = some false)
    (ktr8_r2 : PySem.W.kitOne K (.ref r8) (.ref r2) = some false)
    (ktr8_r5 : PySem.W.kitOne K (.ref r8) (.ref r5) = some false)
    (ktr8_r0 : PySem.W.kitOne K (.ref r8) (.ref r0) = some false)
    (ktr8_r4 : PySem.W.kitOne K (.ref r8) (.ref r4) = some false)
    (ktr8_r6 : PySem.W.kitOne K (.ref r8) (.ref r6) = some false)
    (ktr8_r7 : PySem.W.kitOne K (.ref r8) (.ref r7) = some false)
    (ktr8_r8 : PySem.W.kitOne K (.ref r8) (.ref r8) = some true)
    (ktr8_r9 : PySem.W.kitOne K (.ref r8) (.ref r9) = some false)
    (kcsr8 : PySem.W.kitOne K (.ref r8) (.ref CS) = some true)
    (kver8 : PySem.W.kitOne K (.ref r8) (.type "ValueError") = some true)
    (ktr9_r1 : PySem.W.kitOne K (.ref r9) (.ref r1) = some false)
    (ktr9_r3 : PySem.W.kitOne K (.ref r9) (.ref r3) = some false)
    (ktr9_r2 : PySem.W.kitOne K (.ref r9) (.ref r2) = some false)
    (ktr9_r5 : PySem.W.kitOne K (.ref r9) (.ref r5) = some false)
    (ktr9_r0 : PySem.W.kitOne K (.ref r9) (.ref r0) = some false)
    (ktr9_r4 : PySem.W.kitOne K (.ref r9) (.ref r4) = some false)
    (ktr9_r6 : PySem.W.kitOne K (.ref r9) (.ref r6) = some false)
    (ktr9_r7 : PySem.W.kitOne K (.ref r9) (.ref r7) = some false)
    (ktr9_r8 : PySem.W.kitOne K (.ref r9) (.ref r8) = some false)
    (ktr9_r9 : PySem.W.kitOne K (.ref r9) (.ref r9) = some true)
    (kcsr9 : PySem.W.kitOne K (.ref r9) (.ref CS) = some true)
    (kver9 : PySem.W.kitOne K (.ref r9) (.type "ValueError") = some true)
    (ktCS_r1 : PySem.W.kitOne K (.ref CS) (.ref r1) = some false)
    (ktCS_r3 : PySem.W.kitOne K (.ref CS) (.ref r3) = some false)
    (ktCS_r2 : PySem.W.kitOne K (.ref CS) (.ref r2) = some false)
    (ktCS_r5 : PySem.W.kitOne K (.ref CS) (.ref r5) = some false)
    (ktCS_r0 : PySem.W.kitOne K (.ref CS) (.ref r0) = some false)
    (ktCS_r4 : PySem.W.kitOne K (.ref CS) (.ref r4) = some false)
    (ktCS_r6 : PySem.W.kitOne K (.ref CS) (.ref r6) = some false)
    (ktCS_r7 : PySem.W.kitOne K (.ref CS) (.ref r7) = some false)
    (ktCS_r8 : PySem.W.kitOne K (.ref CS) (.ref r8) = some false)
    (ktCS_r9 : PySem.W.kitOne K (.ref CS) (.ref r9) = some false)
    : ∃ fd : FuncData, (∀ (s : Shared) (v : Value), BindsTo s fd ⟨[v], []⟩ [("script", v)]) ∧ ∀ base : Heap, K.In base → base.Ns mainGlobals mg → FnOkG l.prog w K mg base CX0 5 fa fd ["script"] (spD K dsLaw) := by
  have e := hfa.symm.trans (PySem.W.mg_of X G a5)
  cases e
  have T : Blt mg := ⟨PySem.W.mg_none_of X G b_sorted, PySem.W.mg_none_of X G b_set, PySem.W.mg_none_of X G b_reversed, PySem.W.mg_none_of X G b_len, PySem.W.mg_none_of X G b_int, PySem.W.mg_none_of X G b_range, PySem.W.mg_none_of X G b_abs, PySem.W.mg_none_of X G b_max, PySem.W.mg_none_of X G b_min, PySem.W.mg_none_of X G b_list, PySem.W.mg_none_of X G b_isinstance, PySem.W.mg_none_of X G b_tuple, PySem.W.mg_none_of X G b_enumerate, PySem.W.mg_none_of X G b_ValueError⟩
  have F_law_bag := fun_mk (st := s_law_bag) l1 c1 k1
  have F_law_draw := fun_mk (st := s_law_draw) l2 c2 k2
  have F_law_made := fun_mk (st := s_law_made) l3 c3 k3
  have F_law_flags := fun_mk (st := s_law_flags) l4 c4 k4
  have Flaw := fun_mk (st := slaw) l5 c5 k5
  have FSizeErrorinit := fun_mk (st := sSizeErrorinit) l6 c6 k6
  have B_law_bag := F_law_bag.binds (ps := ["script"]) fun _ _ _ _ _ _ us hl => match us, hl with | [_], _ => rfl
  have B_law_draw := F_law_draw.binds (ps := ["bag", "many"]) fun _ _ _ _ _ _ us hl => match us, hl with | [_, _], _ => rfl
  have B_law_made := F_law_made.binds (ps := ["thing"]) fun _ _ _ _ _ _ us hl => match us, hl with | [_], _ => rfl
  have B_law_flags := F_law_flags.binds (ps := ["e"]) fun _ _ _ _ _ _ us hl => match us, hl with | [_], _ => rfl
  have BSizeErrorinit := FSizeErrorinit.binds (ps := ["self", "value"]) fun _ _ _ _ _ _ us hl => match us, hl with | [_, _], _ => rfl
  refine ⟨PySem.W.fnOf "law" "law" (defArgs slaw) (defBody slaw) (defScope slaw) .none kV5 dc5 pm5 an5 cd5 ct5, fun s v => .of_eq rfl, fun base _ _ => ?_⟩
  have g_law_bag := PySem.W.mg_of X G a1
  have g_law_draw := PySem.W.mg_of X G a2
  have g_law_made := PySem.W.mg_of X G a3
  have g_law_flags := PySem.W.mg_of X G a4
  have gxinit := ok_xinit (P := l.prog) (w0 := w) (mg := mg) (base := base) FSizeErrorinit
  have gCS := PySem.W.mg_of X G aCS
  have oxCS : OexC K CS := ⟨⟨_, _, _, _, _, _, _, _, _, _, _, _, _, _, _, lkCS, rvCS⟩, saCS, xeCS, tyCS, kcCS⟩
  have dxCS : Xt l.prog w K mg base 1 "SizeError" CS := ⟨oxCS, vaCS, gCS, _, _, a6, tyf, gxinit, BSizeErrorinit⟩
  have exCS : ExcC K CS := ⟨gaCS, gtCS, xeCS, hdCS, ckCS, cnCS, ctCS, mrCS⟩
  have xfCS : XfC K CS := ⟨gaCS, gtCS, xeCS, hdCS⟩
  have gr1 := PySem.W.mg_of X G ar1
  have oxr1 : OexC K r1 := ⟨⟨_, _, _, _, _, _, _, _, _, _, _, _, _, _, _, lkr1, rvr1⟩, sar1, xer1, tyr1, kcr1⟩
  have dxr1 : Xt l.prog w K mg base 1 "InvalidLine" r1 := ⟨oxr1, var1, gr1, _, _, inr1, tyf, gxinit, BSizeErrorinit⟩
  have exr1 : ExcC K r1 := ⟨gar1, gtr1, xer1, hdr1, ckr1, cnr1, ctr1, mrr1⟩
  have xfr1 : XfC K r1 := ⟨gar1, gtr1, xer1, hdr1⟩
  have gr3 := PySem.W.mg_of X G ar3
  have oxr3 : OexC K r3 := ⟨⟨_, _, _, _, _, _, _, _, _, _, _, _, _, _, _, lkr3, rvr3⟩, sar3, xer3, tyr3, kcr3⟩
  have dxr3 : Xt l.prog w K mg base 1 "InvalidPipeline" r3 := ⟨oxr3, var3, gr3, _, _, inr3, tyf, gxinit, BSizeErrorinit⟩
  have exr3 : ExcC K r3 := ⟨gar3, gtr3, xer3, hdr3, ckr3, cnr3, ctr3, mrr3⟩
  have xfr3 : XfC K r3 := ⟨gar3, gtr3, xer3, hdr3⟩
  have gr2 := PySem.W.mg_of X G ar2
  have oxr2 : OexC K r2 := ⟨⟨_, _, _, _, _, _, _, _, _, _, _, _, _, _, _, lkr2, rvr2⟩, sar2, xer2, tyr2, kcr2⟩
  have dxr2 : Xt l.prog w K mg base 1 "InvalidNumber" r2 := ⟨oxr2, var2, gr2, _, _, inr2, tyf, gxinit, BSizeErrorinit⟩
  have exr2 : ExcC K r2 := ⟨gar2, gtr2, xer2, hdr2, ckr2, cnr2, ctr2, mrr2⟩
  have xfr2 : XfC K r2 := ⟨gar2, gtr2, xer2, hdr2⟩
  have gr5 := PySem.W.mg_of X G ar5
  have oxr5 : OexC K r5 := ⟨⟨_, _, _, _, _, _, _, _, _, _, _, _, _, _, _, lkr5, rvr5⟩, sar5, xer5, tyr5, kcr5⟩
  have dxr5 : Xt l.prog w K mg base 1 "InvalidRow" r5 := ⟨oxr5, var5, gr5, _, _, inr5, tyf, gxinit, BSizeErrorinit⟩
  have exr5 : ExcC K r5 := ⟨gar5, gtr5, xer5, hdr5, ckr5, cnr5, ctr5, mrr5⟩
  have xfr5 : XfC K r5 := ⟨gar5, gtr5, xer5, hdr5⟩
  have gr0 := PySem.W.mg_of X G ar0
  have oxr0 : OexC K r0 := ⟨⟨_, _, _, _, _, _, _, _, _, _, _, _, _, _, _, lkr0, rvr0⟩, sar0, xer0, tyr0, kcr0⟩
  have dxr0 : Xt l.prog w K mg base 1 "InvalidCell" r0 := ⟨oxr0, var0, gr0, _, _, inr0, tyf, gxinit, BSizeErrorinit⟩
  have exr0 : ExcC K r0 := ⟨gar0, gtr0, xer0, hdr0, ckr0, cnr0, ctr0, mrr0⟩
  have xfr0 : XfC K r0 := ⟨gar0, gtr0, xer0, hdr0⟩
  have gr4 := PySem.W.mg_of X G ar4
  have oxr4 : OexC K r4 := ⟨⟨_, _, _, _, _, _, _, _, _, _, _, _, _, _, _, lkr4, rvr4⟩, sar4, xer4, tyr4, kcr4⟩
  have dxr4 : Xt l.prog w K mg base 1 "InvalidPlaces" r4 := ⟨oxr4, var4, gr4, _, _, inr4, tyf, gxinit, BSizeErrorinit⟩
  have exr4 : ExcC K r4 := ⟨gar4, gtr4, xer4, hdr4, ckr4, cnr4, ctr4, mrr4⟩
  have xfr4 : XfC K r4 := ⟨gar4, gtr4, xer4, hdr4⟩
  have gr6 := PySem.W.mg_of X G ar6
  have oxr6 : OexC K r6 := ⟨⟨_, _, _, _, _, _, _, _, _, _, _, _, _, _, _, lkr6, rvr6⟩, sar6, xer6, tyr6, kcr6⟩
  have dxr6 : Xt l.prog w K mg base 1 "NotFitting" r6 := ⟨oxr6, var6, gr6, _, _, inr6, tyf, gxinit, BSizeErrorinit⟩
  have exr6 : ExcC K r6 := ⟨gar6, gtr6, xer6, hdr6, ckr6, cnr6, ctr6, mrr6⟩
  have xfr6 : XfC K r6 := ⟨gar6, gtr6, xer6, hdr6⟩
  have gr7 := PySem.W.mg_of X G ar7
  have oxr7 : OexC K r7 := ⟨⟨_, _, _, _, _, _, _, _, _, _, _, _, _, _, _, lkr7, rvr7⟩, sar7, xer7, tyr7, kcr7⟩
  have dxr7 : Xt l.prog w K mg base 1 "NotSteady" r7 := ⟨oxr7, var7, gr7, _, _, inr7, tyf, gxinit, BSizeErrorinit⟩
  have exr7 : ExcC K r7 := ⟨gar7, gtr7, xer7, hdr7, ckr7, cnr7, ctr7, mrr7⟩
  have xfr7 : XfC K r7 := ⟨gar7, gtr7, xer7, hdr7⟩
  have gr8 := PySem.W.mg_of X G ar8
  have oxr8 : OexC K r8 := ⟨⟨_, _, _, _, _, _, _, _, _, _, _, _, _, _, _, lkr8, rvr8⟩, sar8, xer8, tyr8, kcr8⟩
  have dxr8 : Xt l.prog w K mg base 1 "NothingToUndo" r8 := ⟨oxr8, var8, gr8, _, _, inr8, tyf, gxinit, BSizeErrorinit⟩
  have exr8 : ExcC K r8 := ⟨gar8, gtr8, xer8, hdr8, ckr8, cnr8, ctr8, mrr8⟩
  have xfr8 : XfC K r8 := ⟨gar8, gtr8, xer8, hdr8⟩
  have gr9 := PySem.W.mg_of X G ar9
  have oxr9 : OexC K r9 := ⟨⟨_, _, _, _, _, _, _, _, _, _, _, _, _, _, _, lkr9, rvr9⟩, sar9, xer9, tyr9, kcr9⟩
  have dxr9 : Xt l.prog w K mg base 1 "Unreadable" r9 := ⟨oxr9, var9, gr9, _, _, inr9, tyf, gxinit, BSizeErrorinit⟩
  have exr9 : ExcC K r9 := ⟨gar9, gtr9, xer9, hdr9, ckr9, cnr9, ctr9, mrr9⟩
  have xfr9 : XfC K r9 := ⟨gar9, gtr9, xer9, hdr9⟩
  have QE54 : ErrT mg CS r0 r1 r2 r3 r4 r5 r6 r7 r8 r9 := ⟨gCS, gr0, gr1, gr2, gr3, gr4, gr5, gr6, gr7, gr8, gr9⟩
  have kbx := Fun_kb (ps := ["self", "value"]) (ks := ["value"]) (n := 1) (pm := [0]) FSizeErrorinit (by decide) fun _ _ _ _ _ _ us ws h1 h2 => match us, ws, h1, h2 with | [_], [_], _, _ => rfl
  have EM : EoM l.prog w K mg base CS r0 r1 r2 r3 r4 r5 r6 r7 r8 r9 := ⟨dxCS, ⟨oxCS, vaCS, gCS, _, _, a6, tyf, gxinit, kbx⟩, dxr1, ⟨oxr1, var1, gr1, _, _, inr1, tyf, gxinit, kbx⟩, dxr3, ⟨oxr3, var3, gr3, _, _, inr3, tyf, gxinit, kbx⟩, dxr2, ⟨oxr2, var2, gr2, _, _, inr2, tyf, gxinit, kbx⟩, dxr5, ⟨oxr5, var5, gr5, _, _, inr5, tyf, gxinit, kbx⟩, dxr0, ⟨oxr0, var0, gr0, _, _, inr0, tyf, gxinit, kbx⟩, dxr4, ⟨oxr4, var4, gr4, _, _, inr4, tyf, gxinit, kbx⟩, dxr6, ⟨oxr6, var6, gr6, _, _, inr6, tyf, gxinit, kbx⟩, dxr7, ⟨oxr7, var7, gr7, _, _, inr7, tyf, gxinit, kbx⟩, dxr8, ⟨oxr8, var8, gr8, _, _, inr8, tyf, gxinit, kbx⟩, dxr9, ⟨oxr9, var9, gr9, _, _, inr9, tyf, gxinit, kbx⟩⟩
  have Zr1 : EoC K [r1, r3, r2, r5, r0, r4, r6, r7, r8, r9] r1 0 := ⟨exr1, xfr1, var1, fun j c h => by
      match j, h with
      | 0, h => cases h; exact ktr1_r1
      | 1, h => cases h; exact ktr1_r3
      | 2, h => cases h; exact ktr1_r2
      | 3, h => cases h; exact ktr1_r5
      | 4, h => cases h; exact ktr1_r0
      | 5, h => cases h; exact ktr1_r4
      | 6, h => cases h; exact ktr1_r6
      | 7, h => cases h; exact ktr1_r7
      | 8, h => cases h; exact ktr1_r8
      | 9, h => cases h; exact ktr1_r9
      | j + 10, h => simp at h⟩
  have Zr3 : EoC K [r1, r3, r2, r5, r0, r4, r6, r7, r8, r9] r3 1 := ⟨exr3, xfr3, var3, fun j c h => by
      match j, h with
      | 0, h => cases h; exact ktr3_r1
      | 1, h => cases h; exact ktr3_r3
      | 2, h => cases h; exact ktr3_r2
      | 3, h => cases h; exact ktr3_r5
      | 4, h => cases h; exact ktr3_r0
      | 5, h => cases h; exact ktr3_r4
      | 6, h => cases h; exact ktr3_r6
      | 7, h => cases h; exact ktr3_r7
      | 8, h => cases h; exact ktr3_r8
      | 9, h => cases h; exact ktr3_r9
      | j + 10, h => simp at h⟩
  have Zr2 : EoC K [r1, r3, r2, r5, r0, r4, r6, r7, r8, r9] r2 2 := ⟨exr2, xfr2, var2, fun j c h => by
      match j, h with
      | 0, h => cases h; exact ktr2_r1
      | 1, h => cases h; exact ktr2_r3
      | 2, h => cases h; exact ktr2_r2
      | 3, h => cases h; exact ktr2_r5
      | 4, h => cases h; exact ktr2_r0
      | 5, h => cases h; exact ktr2_r4
      | 6, h => cases h; exact ktr2_r6
      | 7, h => cases h; exact ktr2_r7
      | 8, h => cases h; exact ktr2_r8
      | 9, h => cases h; exact ktr2_r9
      | j + 10, h => simp at h⟩
  have Zr5 : EoC K [r1, r3, r2, r5, r0, r4, r6, r7, r8, r9] r5 3 := ⟨exr5, xfr5, var5, fun j c h => by
      match j, h with
      | 0, h => cases h; exact ktr5_r1
      | 1, h => cases h; exact ktr5_r3
      | 2, h => cases h; exact ktr5_r2
      | 3, h => cases h; exact ktr5_r5
      | 4, h => cases h; exact ktr5_r0
      | 5, h => cases h; exact ktr5_r4
      | 6, h => cases h; exact ktr5_r6
      | 7, h => cases h; exact ktr5_r7
      | 8, h => cases h; exact ktr5_r8
      | 9, h => cases h; exact ktr5_r9
      | j + 10, h => simp at h⟩
  have Zr0 : EoC K [r1, r3, r2, r5, r0, r4, r6, r7, r8, r9] r0 4 := ⟨exr0, xfr0, var0, fun j c h => by
      match j, h with
      | 0, h => cases h; exact ktr0_r1
      | 1, h => cases h; exact ktr0_r3
      | 2, h => cases h; exact ktr0_r2
      | 3, h => cases h; exact ktr0_r5
      | 4, h => cases h; exact ktr0_r0
      | 5, h => cases h; exact ktr0_r4
      | 6, h => cases h; exact ktr0_r6
      | 7, h => cases h; exact ktr0_r7
      | 8, h => cases h; exact ktr0_r8
      | 9, h => cases h; exact ktr0_r9
      | j + 10, h => simp at h⟩
  have Zr4 : EoC K [r1, r3, r2, r5, r0, r4, r6, r7, r8, r9] r4 5 := ⟨exr4, xfr4, var4, fun j c h => by
      match j, h with
      | 0, h => cases h; exact ktr4_r1
      | 1, h => cases h; exact ktr4_r3
      | 2, h => cases h; exact ktr4_r2
      | 3, h => cases h; exact ktr4_r5
      | 4, h => cases h; exact ktr4_r0
      | 5, h => cases h; exact ktr4_r4
      | 6, h => cases h; exact ktr4_r6
      | 7, h => cases h; exact ktr4_r7
      | 8, h => cases h; exact ktr4_r8
      | 9, h => cases h; exact ktr4_r9
      | j + 10, h => simp at h⟩
  have Zr6 : EoC K [r1, r3, r2, r5, r0, r4, r6, r7, r8, r9] r6 6 := ⟨exr6, xfr6, var6, fun j c h => by
      match j, h with
      | 0, h => cases h; exact ktr6_r1
      | 1, h => cases h; exact ktr6_r3
      | 2, h => cases h; exact ktr6_r2
      | 3, h => cases h; exact ktr6_r5
      | 4, h => cases h; exact ktr6_r0
      | 5, h => cases h; exact ktr6_r4
      | 6, h => cases h; exact ktr6_r6
      | 7, h => cases h; exact ktr6_r7
      | 8, h => cases h; exact ktr6_r8
      | 9, h => cases h; exact ktr6_r9
      | j + 10, h => simp at h⟩
  have Zr7 : EoC K [r1, r3, r2, r5, r0, r4, r6, r7, r8, r9] r7 7 := ⟨exr7, xfr7, var7, fun j c h => by
      match j, h with
      | 0, h => cases h; exact ktr7_r1
      | 1, h => cases h; exact ktr7_r3
      | 2, h => cases h; exact ktr7_r2
      | 3, h => cases h; exact ktr7_r5
      | 4, h => cases h; exact ktr7_r0
      | 5, h => cases h; exact ktr7_r4
      | 6, h => cases h; exact ktr7_r6
      | 7, h => cases h; exact ktr7_r7
      | 8, h => cases h; exact ktr7_r8
      | 9, h => cases h; exact ktr7_r9
      | j + 10, h => simp at h⟩
  have Zr8 : EoC K [r1, r3, r2, r5, r0, r4, r6, r7, r8, r9] r8 8 := ⟨exr8, xfr8, var8, fun j c h => by
      match j, h with
      | 0, h => cases h; exact ktr8_r1
      | 1, h => cases h; exact ktr8_r3
      | 2, h => cases h; exact ktr8_r2
      | 3, h => cases h; exact ktr8_r5
      | 4, h => cases h; exact ktr8_r0
      | 5, h => cases h; exact ktr8_r4
      | 6, h => cases h; exact ktr8_r6
      | 7, h => cases h; exact ktr8_r7
      | 8, h => cases h; exact ktr8_r8
      | 9, h => cases h; exact ktr8_r9
      | j + 10, h => simp at h⟩
  have Zr9 : EoC K [r1, r3, r2, r5, r0, r4, r6, r7, r8, r9] r9 9 := ⟨exr9, xfr9, var9, fun j c h => by
      match j, h with
      | 0, h => cases h; exact ktr9_r1
      | 1, h => cases h; exact ktr9_r3
      | 2, h => cases h; exact ktr9_r2
      | 3, h => cases h; exact ktr9_r5
      | 4, h => cases h; exact ktr9_r0
      | 5, h => cases h; exact ktr9_r4
      | 6, h => cases h; exact ktr9_r6
      | 7, h => cases h; exact ktr9_r7
      | 8, h => cases h; exact ktr9_r8
      | 9, h => cases h; exact ktr9_r9
      | j + 10, h => simp at h⟩
  have ZCS : EoC K [r1, r3, r2, r5, r0, r4, r6, r7, r8, r9] CS 10 := ⟨exCS, xfCS, vaCS, fun j c h => by
      match j, h with
      | 0, h => cases h; exact ktCS_r1
      | 1, h => cases h; exact ktCS_r3
      | 2, h => cases h; exact ktCS_r2
      | 3, h => cases h; exact ktCS_r5
      | 4, h => cases h; exact ktCS_r0
      | 5, h => cases h; exact ktCS_r4
      | 6, h => cases h; exact ktCS_r6
      | 7, h => cases h; exact ktCS_r7
      | 8, h => cases h; exact ktCS_r8
      | 9, h => cases h; exact ktCS_r9
      | j + 10, h => simp at h⟩
  have hZ : ∀ (j : Nat) (c : Addr), [r1, r3, r2, r5, r0, r4, r6, r7, r8, r9][j]? = some c → EoC K [r1, r3, r2, r5, r0, r4, r6, r7, r8, r9] c j ∧ PySem.W.kitOne K (.ref c) (.ref CS) = some true ∧ PySem.W.kitOne K (.ref c) (.type "ValueError") = some true := fun j c h => by
      match j, h with
      | 0, h => cases h; exact ⟨Zr1, kcsr1, kver1⟩
      | 1, h => cases h; exact ⟨Zr3, kcsr3, kver3⟩
      | 2, h => cases h; exact ⟨Zr2, kcsr2, kver2⟩
      | 3, h => cases h; exact ⟨Zr5, kcsr5, kver5⟩
      | 4, h => cases h; exact ⟨Zr0, kcsr0, kver0⟩
      | 5, h => cases h; exact ⟨Zr4, kcsr4, kver4⟩
      | 6, h => cases h; exact ⟨Zr6, kcsr6, kver6⟩
      | 7, h => cases h; exact ⟨Zr7, kcsr7, kver7⟩
      | 8, h => cases h; exact ⟨Zr8, kcsr8, kver8⟩
      | 9, h => cases h; exact ⟨Zr9, kcsr9, kver9⟩
      | j + 10, h => simp at h
  have dbag : Df l.prog w K mg base CX0 1 "_law_bag" 1 dsBag := ⟨_, _, _, rfl, ok_bag F_law_bag T, g_law_bag, F_law_bag.kp, B_law_bag⟩
  have dbdraw : Df l.prog w K mg base CX0 1 "_law_draw" 2 dsDraw := ⟨_, _, _, rfl, ok_draw F_law_draw T, g_law_draw, F_law_draw.kp, B_law_draw⟩
  have dmade54 : Df l.prog w K mg base CX0 3 "_law_made" 1 (dsMade [r1, r3, r2, r5, r0, r4, r6, r7, r8, r9]) := ⟨_, _, _, rfl, ok_made F_law_made T EM, g_law_made, F_law_made.kp, B_law_made⟩
  have dflags54 : Df l.prog w K mg base CX0 1 "_law_flags" 1 (dsFlags K [r1, r3, r2, r5, r0, r4, r6, r7, r8, r9]) := ⟨_, _, _, rfl, ok_flags F_law_flags T QE54, g_law_flags, F_law_flags.kp, B_law_flags⟩
  exact ok_law Flaw ⟨T, PySem.W.mg_none_of X G b_repr⟩ QE54 EM hZ ZCS dbag dbdraw dmade54 dflags54
end
theorem walk {l : PySem.W.OpenLaw} {q : Program} {loose : List Str} {XP : (Str → Option Value) → Heap → Prop} {YP : World → Heap → Prop} {d : DefRec} {K : Params → PySem.W.Frag} (hn : l.most = some 63) (hdf : d.params.defaults = [])
    (hY : ∀ (w : World) (h : Heap), YP w h → (K w.params).In h)
    (F : ∀ (w : World) (mg : Str → Option Value) (fa : Addr) (h : Heap), (K w.params).In h → h.Ns mainGlobals mg → mg d.name = some (.ref fa) →
      ∃ fd : FuncData, (∀ (s : Shared) (u : Value), BindsTo s fd ⟨[u], []⟩ [("script", u)]) ∧ ∀ base : Heap, (K w.params).In base → base.Ns mainGlobals mg → FnOkG l.prog w (K w.params) mg base CX0 5 fa fd ["script"] (spD (K w.params) dsLaw)) :
    PySem.W.WalkO q loose XP YP l.row.toRowW d [] (fun f vs => PySem.call f vs) :=
  walkG (n := 63) (k := 5) (x := "script") (sp := fun w => spD (K w.params) dsLaw) hn (by decide) hdf ⟨rfl, by decide, by decide⟩ hY F fun _ _ _ ns hl _ hS => law_sp hS ⟨ns, ⟨rfl, rfl, hl⟩, fun e S' h => h⟩
end My
open PySem PySem.W PyProof.Rows
set_option maxRecDepth 100000 in
set_option maxHeartbeats 0 in
theorem PySem.Challenge.cw_fitsizes_k54_errors_made_holds : PySem.Challenge.rw_fitsizes_k54_errors_made.Holds := by
  w_on; o_law; k_head; (case hw => w_witness2)
  k_fill
  refine My.walk (l := PySem.Challenge.rw_fitsizes_k54_errors_made) rfl rfl (fun w h Y => PySem.W.kIn_of Y) ?F
  case F =>
    intro w mg fa h KX G hmg
    refine' My.all_mk KX G hmg ?a1 ?l1 ?c1 ?k1 ?a2 ?l2 ?c2 ?k2 ?a3 ?l3 ?c3 ?k3 ?a4 ?l4 ?c4 ?k4 ?a5 ?l5 ?c5 ?k5 ?aCS ?lkCS ?rvCS ?saCS ?xeCS ?tyCS ?kcCS ?vaCS ?a6 ?l6 ?c6 ?k6 ?tyf ?gaCS ?gtCS ?hdCS ?ckCS ?cnCS ?ctCS ?mrCS ?ar1 ?lkr1 ?rvr1 ?sar1 ?xer1 ?tyr1 ?kcr1 ?var1 ?inr1 ?gar1 ?gtr1 ?hdr1 ?ckr1 ?cnr1 ?ctr1 ?mrr1 ?ar3 ?lkr3 ?rvr3 ?sar3 ?xer3 ?tyr3 ?kcr3 ?var3 ?inr3 ?gar3 ?gtr3 ?hdr3 ?ckr3 ?cnr3 ?ctr3 ?mrr3 ?ar2 ?lkr2 ?rvr2 ?sar2 ?xer2 ?tyr2 ?kcr2 ?var2 ?inr2 ?gar2 ?gtr2 ?hdr2 ?ckr2 ?cnr2 ?ctr2 ?mrr2 ?ar5 ?lkr5 ?rvr5 ?sar5 ?xer5 ?tyr5 ?kcr5 ?var5 ?inr5 ?gar5 ?gtr5 ?hdr5 ?ckr5 ?cnr5 ?ctr5 ?mrr5 ?ar0 ?lkr0 ?rvr0 ?sar0 ?xer0 ?tyr0 ?kcr0 ?var0 ?inr0 ?gar0 ?gtr0 ?hdr0 ?ckr0 ?cnr0 ?ctr0 ?mrr0 ?ar4 ?lkr4 ?rvr4 ?sar4 ?xer4 ?tyr4 ?kcr4 ?var4 ?inr4 ?gar4 ?gtr4 ?hdr4 ?ckr4 ?cnr4 ?ctr4 ?mrr4 ?ar6 ?lkr6 ?rvr6 ?sar6 ?xer6 ?tyr6 ?kcr6 ?var6 ?inr6 ?gar6 ?gtr6 ?hdr6 ?ckr6 ?cnr6 ?ctr6 ?mrr6 ?ar7 ?lkr7 ?rvr7 ?sar7 ?xer7 ?tyr7 ?kcr7 ?var7 ?inr7 ?gar7 ?gtr7 ?hdr7 ?ckr7 ?cnr7 ?ctr7 ?mrr7 ?ar8 ?lkr8 ?rvr8 ?sar8 ?xer8 ?tyr8 ?kcr8 ?var8 ?inr8 ?gar8 ?gtr8 ?hdr8 ?ckr8 ?cnr8 ?ctr8 ?mrr8 ?ar9 ?lkr9 ?rvr9 ?sar9 ?xer9 ?tyr9 ?kcr9 ?var9 ?inr9 ?gar9 ?gtr9 ?hdr9 ?ckr9 ?cnr9 ?ctr9 ?mrr9 ?b_sorted ?b_set ?b_reversed ?b_len ?b_int ?b_range ?b_abs ?b_max ?b_min ?b_list ?b_isinstance ?b_tuple ?b_enumerate ?b_ValueError ?b_repr ?ktr1_r1 ?ktr1_r3 ?ktr1_r2 ?ktr1_r5 ?ktr1_r0 ?ktr1_r4 ?ktr1_r6 ?ktr1_r7 ?ktr1_r8 ?ktr1_r9 ?kcsr1 ?kver1 ?ktr3_r1 ?ktr3_r3 ?ktr3_r2 ?ktr3_r5 ?ktr3_r0 ?ktr3_r4 ?ktr3_r6 ?ktr3_r7 ?ktr3_r8 ?ktr3_r9 ?kcsr3 ?kver3 ?ktr2_r1 ?ktr2_r3 ?ktr2_r2 ?ktr2_r5 ?ktr2_r0 ?ktr2_r4 ?ktr2_r6 ?ktr2_r7 ?ktr2_r8 ?ktr2_r9 ?kcsr2 ?kver2 ?ktr5_r1 ?ktr5_r3 ?ktr5_r2 ?ktr5_r5 ?ktr5_r0 ?ktr5_r4 ?ktr5_r6 ?ktr5_r7 ?ktr5_r8 ?ktr5_r9 ?kcsr5 ?kver5 ?ktr0_r1 ?ktr0_r3 ?ktr0_r2 ?ktr0_r5 ?ktr0_r0 ?ktr0_r4 ?ktr0_r6 ?ktr0_r7 ?ktr0_r8 ?ktr0_r9 ?kcsr0 ?kver0 ?ktr4_r1 ?ktr4_r3 ?ktr4_r2 ?ktr4_r5 ?ktr4_r0 ?ktr4_r4 ?ktr4_r6 ?ktr4_r7 ?ktr4_r8 ?ktr4_r9 ?kcsr4 ?kver4 ?ktr6_r1 ?ktr6_r3 ?ktr6_r2 ?ktr6_r5 ?ktr6_r0 ?ktr6_r4 ?ktr6_r6 ?ktr6_r7 ?ktr6_r8 ?ktr6_r9 ?kcsr6 ?kver6 ?ktr7_r1 ?ktr7_r3 ?ktr7_r2 ?ktr7_r5 ?ktr7_r0 ?ktr7_r4 ?ktr7_r6 ?ktr7_r7 ?ktr7_r8 ?ktr7_r9 ?kcsr7 ?kver7 ?ktr8_r1 ?ktr8_r3 ?ktr8_r2 ?ktr8_r5 ?ktr8_r0 ?ktr8_r4 ?ktr8_r6 ?ktr8_r7 ?ktr8_r8 ?ktr8_r9 ?kcsr8 ?kver8 ?ktr9_r1 ?ktr9_r3 ?ktr9_r2 ?ktr9_r5 ?ktr9_r0 ?ktr9_r4 ?ktr9_r6 ?ktr9_r7 ?ktr9_r8 ?ktr9_r9 ?kcsr9 ?kver9 ?ktCS_r1 ?ktCS_r3 ?ktCS_r2 ?ktCS_r5 ?ktCS_r0 ?ktCS_r4 ?ktCS_r6 ?ktCS_r7 ?ktCS_r8 ?ktCS_r9
    (case a1 => first | k_is | kit_is | rfl)
    (case l1 => first | k_is | kit_is | rfl)
    (case c1 => first | k_is | kit_is | rfl)
    (case k1 => first | k_is | kit_is | rfl)
    (case a2 => first | k_is | kit_is | rfl)
    (case l2 => first | k_is | kit_is | rfl)
    (case c2 => first | k_is | kit_is | rfl)
    (case k2 => first | k_is | kit_is | rfl)
    (case a3 => first | k_is | kit_is | rfl)
    (case l3 => first | k_is | kit_is | rfl)
    (case c3 => first | k_is | kit_is | rfl)
    (case k3 => first | k_is | kit_is | rfl)
    (case a4 => first | k_is | kit_is | rfl)
    (case l4 => first | k_is | kit_is | rfl)
    (case c4 => first | k_is | kit_is | rfl)
    (case k4 => first | k_is | kit_is | rfl)
    (case a5 => first | k_is | kit_is | rfl)
    (case l5 => first | k_is | kit_is | rfl)
    (case c5 => first | k_is | kit_is | rfl)
    (case k5 => first | k_is | kit_is | rfl)
    (case aCS => first | k_is | kit_is | rfl)
    (case lkCS => first | k_is | kit_is | rfl)
    (case rvCS => first | k_is | kit_is | rfl)
    (case saCS => first | k_is | kit_is | rfl)
    (case xeCS => first | k_is | kit_is | rfl)
    (case tyCS => first | k_is | kit_is | rfl)
    (case kcCS => first | k_is | kit_is | rfl)
    (case vaCS => first | k_is | kit_is | rfl)
    (case a6 => first | k_is | kit_is | rfl)
    (case l6 => first | k_is | kit_is | rfl)
    (case c6 => first | k_is | kit_is | rfl)
    (case k6 => first | k_is | kit_is | rfl)
    (case tyf => first | k_is | kit_is | rfl)
    (case gaCS => first | k_is | kit_is | rfl)
    (case gtCS => first | k_is | kit_is | rfl)
    (case hdCS => first | k_is | kit_is | rfl)
    (case ckCS => first | k_is | kit_is | rfl)
    (case cnCS => first | k_is | kit_is | rfl)
    (case ctCS => first | k_is | kit_is | rfl)
    (case mrCS => first | k_is | kit_is | rfl)
    (case ar1 => first | k_is | kit_is | rfl)
    (case lkr1 => first | k_is | kit_is | rfl)
    (case rvr1 => first | k_is | kit_is | rfl)
    (case sar1 => first | k_is | kit_is | rfl)
    (case xer1 => first | k_is | kit_is | rfl)
    (case tyr1 => first | k_is | kit_is | rfl)
    (case kcr1 => first | k_is | kit_is | rfl)
    (case var1 => first | k_is | kit_is | rfl)
    (case inr1 => first | k_is | kit_is | rfl)
    (case gar1 => first | k_is | kit_is | rfl)
    (case gtr1 => first | k_is | kit_is | rfl)
    (case hdr1 => first | k_is | kit_is | rfl)
    (case ckr1 => first | k_is | kit_is | rfl)
    (case cnr1 => first | k_is | kit_is | rfl)
    (case ctr1 => first | k_is | kit_is | rfl)
    (case mrr1 => first | k_is | kit_is | rfl)
    (case ar3 => first | k_is | kit_is | rfl)
    (case lkr3 => first | k_is | kit_is | rfl)
    (case rvr3 => first | k_is | kit_is | rfl)
    (case sar3 => first | k_is | kit_is | rfl)
    (case xer3 => first | k_is | kit_is | rfl)
    (case tyr3 => first | k_is | kit_is | rfl)
    (case kcr3 => first | k_is | kit_is | rfl)
    (case var3 => first | k_is | kit_is | rfl)
    (case inr3 => first | k_is | kit_is | rfl)
    (case gar3 => first | k_is | kit_is | rfl)
    (case gtr3 => first | k_is | kit_is | rfl)
    (case hdr3 => first | k_is | kit_is | rfl)
    (case ckr3 => first | k_is | kit_is | rfl)
    (case cnr3 => first | k_is | kit_is | rfl)
    (case ctr3 => first | k_is | kit_is | rfl)
    (case mrr3 => first | k_is | kit_is | rfl)
    (case ar2 => first | k_is | kit_is | rfl)
    (case lkr2 => first | k_is | kit_is | rfl)
    (case rvr2 => first | k_is | kit_is | rfl)
    (case sar2 => first | k_is | kit_is | rfl)
    (case xer2 => first | k_is | kit_is | rfl)
    (case tyr2 => first | k_is | kit_is | rfl)
    (case kcr2 => first | k_is | kit_is | rfl)
    (case var2 => first | k_is | kit_is | rfl)
    (case inr2 => first | k_is | kit_is | rfl)
    (case gar2 => first | k_is | kit_is | rfl)
    (case gtr2 => first | k_is | kit_is | rfl)
    (case hdr2 => first | k_is | kit_is | rfl)
    (case ckr2 => first | k_is | kit_is | rfl)
    (case cnr2 => first | k_is | kit_is | rfl)
    (case ctr2 => first | k_is | kit_is | rfl)
    (case mrr2 => first | k_is | kit_is | rfl)
    (case ar5 => first | k_is | kit_is | rfl)
    (case lkr5 => first | k_is | kit_is | rfl)
    (case rvr5 => first | k_is | kit_is | rfl)
    (case sar5 => first | k_is | kit_is | rfl)
    (case xer5 => first | k_is | kit_is | rfl)
    (case tyr5 => first | k_is | kit_is | rfl)
    (case kcr5 => first | k_is | kit_is | rfl)
    (case var5 => first | k_is | kit_is | rfl)
    (case inr5 => first | k_is | kit_is | rfl)
    (case gar5 => first | k_is | kit_is | rfl)
    (case gtr5 => first | k_is | kit_is | rfl)
    (case hdr5 => first | k_is | kit_is | rfl)
    (case ckr5 => first | k_is | kit_is | rfl)
    (case cnr5 => first | k_is | kit_is | rfl)
    (case ctr5 => first | k_is | kit_is | rfl)
    (case mrr5 => first | k_is | kit_is | rfl)
    (case ar0 => first | k_is | kit_is | rfl)
    (case lkr0 => first | k_is | kit_is | rfl)
    (case rvr0 => first | k_is | kit_is | rfl)
    (case sar0 => first | k_is | kit_is | rfl)
    (case xer0 => first | k_is | kit_is | rfl)
    (case tyr0 => first | k_is | kit_is | rfl)
    (case kcr0 => first | k_is | kit_is | rfl)
    (case var0 => first | k_is | kit_is | rfl)
    (case inr0 => first | k_is | kit_is | rfl)
    (case gar0 => first | k_is | kit_is | rfl)
    (case gtr0 => first | k_is | kit_is | rfl)
    (case hdr0 => first | k_is | kit_is | rfl)
    (case ckr0 => first | k_is | kit_is | rfl)
    (case cnr0 => first | k_is | kit_is | rfl)
    (case ctr0 => first | k_is | kit_is | rfl)
    (case mrr0 => first | k_is | kit_is | rfl)
    (case ar4 => first | k_is | kit_is | rfl)
    (case lkr4 => first | k_is | kit_is | rfl)
    (case rvr4 => first | k_is | kit_is | rfl)
    (case sar4 => first | k_is | kit_is | rfl)
    (case xer4 => first | k_is | kit_is | rfl)
    (case tyr4 => first | k_is | kit_is | rfl)
    (case kcr4 => first | k_is | kit_is | rfl)
    (case var4 => first | k_is | kit_is | rfl)
    (case inr4 => first | k_is | kit_is | rfl)
    (case gar4 => first | k_is | kit_is | rfl)
    (case gtr4 => first | k_is | kit_is | rfl)
    (case hdr4 => first | k_is | kit_is | rfl)
    (case ckr4 => first | k_is | kit_is | rfl)
    (case cnr4 => first | k_is | kit_is | rfl)
    (case ctr4 => first | k_is | kit_is | rfl)
    (case mrr4 => first | k_is | kit_is | rfl)
    (case ar6 => first | k_is | kit_is | rfl)
    (case lkr6 => first | k_is | kit_is | rfl)
    (case rvr6 => first | k_is | kit_is | rfl)
    (case sar6 => first | k_is | kit_is | rfl)
    (case xer6 => first | k_is | kit_is | rfl)
    (case tyr6 => first | k_is | kit_is | rfl)
    (case kcr6 => first | k_is | kit_is | rfl)
    (case var6 => first | k_is | kit_is | rfl)
    (case inr6 => first | k_is | kit_is | rfl)
    (case gar6 => first | k_is | kit_is | rfl)
    (case gtr6 => first | k_is | kit_is | rfl)
    (case hdr6 => first | k_is | kit_is | rfl)
    (case ckr6 => first | k_is | kit_is | rfl)
    (case cnr6 => first | k_is | kit_is | rfl)
    (case ctr6 => first | k_is | kit_is | rfl)
    (case mrr6 => first | k_is | kit_is | rfl)
    (case ar7 => first | k_is | kit_is | rfl)
    (case lkr7 => first | k_is | kit_is | rfl)
    (case rvr7 => first | k_is | kit_is | rfl)
    (case sar7 => first | k_is | kit_is | rfl)
    (case xer7 => first | k_is | kit_is | rfl)
    (case tyr7 => first | k_is | kit_is | rfl)
    (case kcr7 => first | k_is | kit_is | rfl)
    (case var7 => first | k_is | kit_is | rfl)
    (case inr7 => first | k_is | kit_is | rfl)
    (case gar7 => first | k_is | kit_is | rfl)
    (case gtr7 => first | k_is | kit_is | rfl)
    (case hdr7 => first | k_is | kit_is | rfl)
    (case ckr7 => first | k_is | kit_is | rfl)
    (case cnr7 => first | k_is | kit_is | rfl)
    (case ctr7 => first | k_is | kit_is | rfl)
    (case mrr7 => first | k_is | kit_is | rfl)
    (case ar8 => first | k_is | kit_is | rfl)
    (case lkr8 => first | k_is | kit_is | rfl)
    (case rvr8 => first | k_is | kit_is | rfl)
    (case sar8 => first | k_is | kit_is | rfl)
    (case xer8 => first | k_is | kit_is | rfl)
    (case tyr8 => first | k_is | kit_is | rfl)
    (case kcr8 => first | k_is | kit_is | rfl)
    (case var8 => first | k_is | kit_is | rfl)
    (case inr8 => first | k_is | kit_is | rfl)
    (case gar8 => first | k_is | kit_is | rfl)
    (case gtr8 => first | k_is | kit_is | rfl)
    (case hdr8 => first | k_is | kit_is | rfl)
    (case ckr8 => first | k_is | kit_is | rfl)
    (case cnr8 => first | k_is | kit_is | rfl)
    (case ctr8 => first | k_is | kit_is | rfl)
    (case mrr8 => first | k_is | kit_is | rfl)
    (case ar9 => first | k_is | kit_is | rfl)
    (case lkr9 => first | k_is | kit_is | rfl)
    (case rvr9 => first | k_is | kit_is | rfl)
    (case sar9 => first | k_is | kit_is | rfl)
    (case xer9 => first | k_is | kit_is | rfl)
    (case tyr9 => first | k_is | kit_is | rfl)
    (case kcr9 => first | k_is | kit_is | rfl)
    (case var9 => first | k_is | kit_is | rfl)
    (case inr9 => first | k_is | kit_is | rfl)
    (case gar9 => first | k_is | kit_is | rfl)
    (case gtr9 => first | k_is | kit_is | rfl)
    (case hdr9 => first | k_is | kit_is | rfl)
    (case ckr9 => first | k_is | kit_is | rfl)
    (case cnr9 => first | k_is | kit_is | rfl)
    (case ctr9 => first | k_is | kit_is | rfl)
    (case mrr9 => first | k_is | kit_is | rfl)
    (case b_sorted => first | k_is | kit_is | rfl)
    (case b_set => first | k_is | kit_is | rfl)
    (case b_reversed => first | k_is | kit_is | rfl)
    (case b_len => first | k_is | kit_is | rfl)
    (case b_int => first | k_is | kit_is | rfl)
    (case b_range => first | k_is | kit_is | rfl)
    (case b_abs => first | k_is | kit_is | rfl)
    (case b_max => first | k_is | kit_is | rfl)
    (case b_min => first | k_is | kit_is | rfl)
    (case b_list => first | k_is | kit_is | rfl)
    (case b_isinstance => first | k_is | kit_is | rfl)
    (case b_tuple => first | k_is | kit_is | rfl)
    (case b_enumerate => first | k_is | kit_is | rfl)
    (case b_ValueError => first | k_is | kit_is | rfl)
    (case b_repr => first | k_is | kit_is | rfl)
    (case ktr1_r1 => first | k_is | kit_is | rfl)
    (case ktr1_r3 => first | k_is | kit_is | rfl)
    (case ktr1_r2 => first | k_is | kit_is | rfl)
    (case ktr1_r5 => first | k_is | kit_is | rfl)
    (case ktr1_r0 => first | k_is | kit_is | rfl)
    (case ktr1_r4 => first | k_is | kit_is | rfl)
    (case ktr1_r6 => first | k_is | kit_is | rfl)
    (case ktr1_r7 => first | k_is | kit_is | rfl)
    (case ktr1_r8 => first | k_is | kit_is | rfl)
    (case ktr1_r9 => first | k_is | kit_is | rfl)
    (case kcsr1 => first | k_is | kit_is | rfl)
    (case kver1 => first | k_is | kit_is | rfl)
    (case ktr3_r1 => first | k_is | kit_is | rfl)
    (case ktr3_r3 => first | k_is | kit_is | rfl)
    (case ktr3_r2 => first | k_is | kit_is | rfl)
    (case ktr3_r5 => first | k_is | kit_is | rfl)
    (case ktr3_r0 => first | k_is | kit_is | rfl)
    (case ktr3_r4 => first | k_is | kit_is | rfl)
    (case ktr3_r6 => first | k_is | kit_is | rfl)
    (case ktr3_r7 => first | k_is | kit_is | rfl)
    (case ktr3_r8 => first | k_is | kit_is | rfl)
    (case ktr3_r9 => first | k_is | kit_is | rfl)
    (case kcsr3 => first | k_is | kit_is | rfl)
    (case kver3 => first | k_is | kit_is | rfl)
    (case ktr2_r1 => first | k_is | kit_is | rfl)
    (case ktr2_r3 => first | k_is | kit_is | rfl)
    (case ktr2_r2 => first | k_is | kit_is | rfl)
    (case ktr2_r5 => first | k_is | kit_is | rfl)
    (case ktr2_r0 => first | k_is | kit_is | rfl)
    (case ktr2_r4 => first | k_is | kit_is | rfl)
    (case ktr2_r6 => first | k_is | kit_is | rfl)
    (case ktr2_r7 => first | k_is | kit_is | rfl)
    (case ktr2_r8 => first | k_is | kit_is | rfl)
    (case ktr2_r9 => first | k_is | kit_is | rfl)
    (case kcsr2 => first | k_is | kit_is | rfl)
    (case kver2 => first | k_is | kit_is | rfl)
    (case ktr5_r1 => first | k_is | kit_is | rfl)
    (case ktr5_r3 => first | k_is | kit_is | rfl)
    (case ktr5_r2 => first | k_is | kit_is | rfl)
    (case ktr5_r5 => first | k_is | kit_is | rfl)
    (case ktr5_r0 => first | k_is | kit_is | rfl)
    (case ktr5_r4 => first | k_is | kit_is | rfl)
    (case ktr5_r6 => first | k_is | kit_is | rfl)
    (case ktr5_r7 => first | k_is | kit_is | rfl)
    (case ktr5_r8 => first | k_is | kit_is | rfl)
    (case ktr5_r9 => first | k_is | kit_is | rfl)
    (case kcsr5 => first | k_is | kit_is | rfl)
    (case kver5 => first | k_is | kit_is | rfl)
    (case ktr0_r1 => first | k_is | kit_is | rfl)
    (case ktr0_r3 => first | k_is | kit_is | rfl)
    (case ktr0_r2 => first | k_is | kit_is | rfl)
    (case ktr0_r5 => first | k_is | kit_is | rfl)
    (case ktr0_r0 => first | k_is | kit_is | rfl)
    (case ktr0_r4 => first | k_is | kit_is | rfl)
    (case ktr0_r6 => first | k_is | kit_is | rfl)
    (case ktr0_r7 => first | k_is | kit_is | rfl)
    (case ktr0_r8 => first | k_is | kit_is | rfl)
    (case ktr0_r9 => first | k_is | kit_is | rfl)
    (case kcsr0 => first | k_is | kit_is | rfl)
    (case kver0 => first | k_is | kit_is | rfl)
    (case ktr4_r1 => first | k_is | kit_is | rfl)
    (case ktr4_r3 => first | k_is | kit_is | rfl)
    (case ktr4_r2 => first | k_is | kit_is | rfl)
    (case ktr4_r5 => first | k_is | kit_is | rfl)
    (case ktr4_r0 => first | k_is | kit_is | rfl)
    (case ktr4_r4 => first | k_is | kit_is | rfl)
    (case ktr4_r6 => first | k_is | kit_is | rfl)
    (case ktr4_r7 => first | k_is | kit_is | rfl)
    (case ktr4_r8 => first | k_is | kit_is | rfl)
    (case ktr4_r9 => first | k_is | kit_is | rfl)
    (case kcsr4 => first | k_is | kit_is | rfl)
    (case kver4 => first | k_is | kit_is | rfl)
    (case ktr6_r1 => first | k_is | kit_is | rfl)
    (case ktr6_r3 => first | k_is | kit_is | rfl)
    (case ktr6_r2 => first | k_is | kit_is | rfl)
    (case ktr6_r5 => first | k_is | kit_is | rfl)
    (case ktr6_r0 => first | k_is | kit_is | rfl)
    (case ktr6_r4 => first | k_is | kit_is | rfl)
    (case ktr6_r6 => first | k_is | kit_is | rfl)
    (case ktr6_r7 => first | k_is | kit_is | rfl)
    (case ktr6_r8 => first | k_is | kit_is | rfl)
    (case ktr6_r9 => first | k_is | kit_is | rfl)
    (case kcsr6 => first | k_is | kit_is | rfl)
    (case kver6 => first | k_is | kit_is | rfl)
    (case ktr7_r1 => first | k_is | kit_is | rfl)
    (case ktr7_r3 => first | k_is | kit_is | rfl)
    (case ktr7_r2 => first | k_is | kit_is | rfl)
    (case ktr7_r5 => first | k_is | kit_is | rfl)
    (case ktr7_r0 => first | k_is | kit_is | rfl)
    (case ktr7_r4 => first | k_is | kit_is | rfl)
    (case ktr7_r6 => first | k_is | kit_is | rfl)
    (case ktr7_r7 => first | k_is | kit_is | rfl)
    (case ktr7_r8 => first | k_is | kit_is | rfl)
    (case ktr7_r9 => first | k_is | kit_is | rfl)
    (case kcsr7 => first | k_is | kit_is | rfl)
    (case kver7 => first | k_is | kit_is | rfl)
    (case ktr8_r1 => first | k_is | kit_is | rfl)
    (case ktr8_r3 => first | k_is | kit_is | rfl)
    (case ktr8_r2 => first | k_is | kit_is | rfl)
    (case ktr8_r5 => first | k_is | kit_is | rfl)
    (case ktr8_r0 => first | k_is | kit_is | rfl)
    (case ktr8_r4 => first | k_is | kit_is | rfl)
    (case ktr8_r6 => first | k_is | kit_is | rfl)
    (case ktr8_r7 => first | k_is | kit_is | rfl)
    (case ktr8_r8 => first | k_is | kit_is | rfl)
    (case ktr8_r9 => first | k_is | kit_is | rfl)
    (case kcsr8 => first | k_is | kit_is | rfl)
    (case kver8 => first | k_is | kit_is | rfl)
    (case ktr9_r1 => first | k_is | kit_is | rfl)
    (case ktr9_r3 => first | k_is | kit_is | rfl)
    (case ktr9_r2 => first | k_is | kit_is | rfl)
    (case ktr9_r5 => first | k_is | kit_is | rfl)
    (case ktr9_r0 => first | k_is | kit_is | rfl)
    (case ktr9_r4 => first | k_is | kit_is | rfl)
    (case ktr9_r6 => first | k_is | kit_is | rfl)
    (case ktr9_r7 => first | k_is | kit_is | rfl)
    (case ktr9_r8 => first | k_is | kit_is | rfl)
    (case ktr9_r9 => first | k_is | kit_is | rfl)
    (case kcsr9 => first | k_is | kit_is | rfl)
    (case kver9 => first | k_is | kit_is | rfl)
    (case ktCS_r1 => first | k_is | kit_is | rfl)
    (case ktCS_r3 => first | k_is | kit_is | rfl)
    (case ktCS_r2 => first | k_is | kit_is | rfl)
    (case ktCS_r5 => first | k_is | kit_is | rfl)
    (case ktCS_r0 => first | k_is | kit_is | rfl)
    (case ktCS_r4 => first | k_is | kit_is | rfl)
    (case ktCS_r6 => first | k_is | kit_is | rfl)
    (case ktCS_r7 => first | k_is | kit_is | rfl)
    (case ktCS_r8 => first | k_is | kit_is | rfl)
    (case ktCS_r9 => first | k_is | kit_is | rfl)
#print axioms PySem.Challenge.cw_fitsizes_k54_errors_made_holds
