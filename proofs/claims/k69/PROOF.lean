import PyProof.Rows.All
import Wide.All
import OpenK.AllK
import Wide.FinOn
import HandS.Base
import HandS.Call
import HandS.List
import HandS.Comp
import HandS.Ends
import HandS.Dict
import HandS.Iter
import HandS.Text
import HandS.Words
import HandS.WordsList
import HandS.WordsDict
import HandS.Deep
import HandS.IsInst
import HandS.TupAny
import HandS.TupLe
import HandS.Wide
import HandS.Rev
import HandS.Style
import HandS.Conv
import KE.KDictKeyed
import HandS.Lambda
import HandS.Nested
import HandS.NestedK
import HandS.More
import HandS.RevTup
import KE.KDictList
import HandS.CallLocal
import HandS.EndTab
import KE.KNestM
import HandS.AnyAll
import HandS.HeadWalk
import HandS.Head0
import HandS.Head1
import HandS.Head2
import HandS.HeadHook1
import HandS.HeadHook2
import HandS.HeadHook3
import HandS.HeadHook4
import HandS.TryOnly
import KE.SortData
import KE.DataMinMax
import HandS.SortKw
import HandS.Flow
import PySem.Challenge.RW_leastplans_k69_sorted_counted_by_halves
set_option Elab.async false
set_option linter.all false
set_option maxRecDepth 100000
/-! Ml: values by content, a store of what may change, and what a piece of a program computes over them. -/
namespace Ml
open L2 PyProof.Rows PySem PySem.Spec
/-- the written part, the program, the world -/
structure Kx where
  f : PySem.W.Frag
  p : Program
  w : World
  b : Heap
  t : List NdefX.NTab
abbrev kx (tb : List NdefX.NTab) (X : Cx) : Kx := ⟨X.K, X.prog, X.w, X.base, tb⟩
/-- a def within a def -/
structure NDef where
  name : Str
  qual : Str
  st : Stmt
  ps : List Str
  fr : List Str
abbrev NDef.nf (n : NDef) (cl : List (Str × Addr)) (c : Addr) : NdefX.NF := NdefX.NF.of n.st n.name n.qual cl c
/-- a value: what never changes by its content, what may change by its number in the store -/
inductive D where
  | non | bl (b : Bool) | int (i : Int) | str (z : Str) | tup (xs : List D) | rl (xs : List D) | ref (n : Nat) | gl (z : Str)
/-- what may change -/
inductive O : Type where
  | lst (xs : List D)
  | dk (kvs : List (Key × D))
  | dn (lk : Bool) (kvs : List (D × D))
  | ins (C : Addr) (fs : List (Str × D))
  | dkl (kvs : List (Key × D))
  | fn (id : Nat) (nd : NDef) (ws : List D)
  | junk
abbrev Sto := List O
abbrev Sl := List (Option D)
/-- a list that nothing changes (the script that a law is handed) -/
def RoL (K : PySem.W.Frag) (H : Hp) (a : Addr) (xs : List V) : Prop := (∃ o, H a = some (.frz o (.lst xs))) ∨ ∀ H' : Hp, SqL K H' a xs
theorem RoL.sq {K : PySem.W.Frag} {H : Hp} {a : Addr} {xs : List V} (h : RoL K H a xs) : SqL K H a xs := by
  rcases h with ⟨o, h⟩ | h
  · exact .inl (.inr ⟨o, h⟩)
  · exact h H
mutual
/-- v is the value d in the heap H, m telling where the store's things stand -/
def Rp (K : Kx) (H : Hp) (m : List Addr) : D → V → Prop
  | .non, v => v = .non
  | .bl b, v => v = .bl b
  | .int i, v => v = .int i
  | .str z, v => v = .str z
  | .tup xs, v => ∃ a vs, v = .ref a ∧ SqT K.f H a vs ∧ Rps K H m xs vs
  | .rl xs, v => ∃ a vs, v = .ref a ∧ RoL K.f H a vs ∧ Rps K H m xs vs
  | .ref n, v => ∃ a, m[n]? = some a ∧ v = .ref a
  | .gl z, v => ∃ a, v = .ref a ∧ PySem.W.nsIn K.f mainGlobals z = some (some (.ref a))
def Rps (K : Kx) (H : Hp) (m : List Addr) : List D → List V → Prop
  | [], vs => vs = []
  | x :: xs, vs => ∃ v r, vs = v :: r ∧ Rp K H m x v ∧ Rps K H m xs r
end
/-- later: more things, all tuples as they were -/
structure Ext0 (K : Kx) (H : Hp) (m : List Addr) (H' : Hp) (m' : List Addr) : Prop where
  pre : ∃ r, m' = m ++ r
  tup : ∀ a vs, SqT K.f H a vs → SqT K.f H' a vs
  rol : ∀ a vs, RoL K.f H a vs → RoL K.f H' a vs
/-- .. and what is locked stays as it is -/
structure Ext (K : Kx) (H : Hp) (m : List Addr) (H' : Hp) (m' : List Addr) : Prop extends Ext0 K H m H' m' where
  frz : ∀ a od u, H a = some (.frz od u) → H' a = some (.frz od u)
theorem Ext.refl {K H m} : Ext K H m H m := ⟨⟨⟨[], by simp⟩, fun _ _ h => h, fun _ _ h => h⟩, fun _ _ _ h => h⟩
theorem Ext0.trans {K H m H1 m1 H2 m2} (a : Ext0 K H m H1 m1) (b : Ext0 K H1 m1 H2 m2) : Ext0 K H m H2 m2 := by
  obtain ⟨⟨r, rfl⟩, t, u⟩ := a
  obtain ⟨⟨r', rfl⟩, t', u'⟩ := b
  exact ⟨⟨r ++ r', by simp⟩, fun x vs h => t' x vs (t x vs h), fun x vs h => u' x vs (u x vs h)⟩
theorem Ext.trans {K H m H1 m1 H2 m2} (a : Ext K H m H1 m1) (b : Ext K H1 m1 H2 m2) : Ext K H m H2 m2 := ⟨a.toExt0.trans b.toExt0, fun x o u h => b.frz x o u (a.frz x o u h)⟩
theorem Ext.get {K H m H' m'} (e : Ext K H m H' m') {n : Nat} {a : Addr} (h : m[n]? = some a) : m'[n]? = some a := by
  obtain ⟨⟨⟨r, rfl⟩, _⟩, _⟩ := e
  obtain ⟨hl, _⟩ := List.getElem?_eq_some_iff.mp h
  rw [List.getElem?_append_left hl]
  exact h
mutual
theorem Rp.mono0 {K H m H' m'} (e : Ext0 K H m H' m') : ∀ (d : D) (v : V), Rp K H m d v → Rp K H' m' d v
  | .non, v, h => by simpa [Rp] using h
  | .bl b, v, h => by simpa [Rp] using h
  | .int i, v, h => by simpa [Rp] using h
  | .str z, v, h => by simpa [Rp] using h
  | .tup xs, v, h => by
    rw [Rp] at h ⊢
    obtain ⟨a, vs, r, s, q⟩ := h
    exact ⟨a, vs, r, e.tup a vs s, Rps.mono0 e xs vs q⟩
  | .rl xs, v, h => by
    rw [Rp] at h ⊢
    obtain ⟨a, vs, r, s, q⟩ := h
    exact ⟨a, vs, r, e.rol a vs s, Rps.mono0 e xs vs q⟩
  | .ref n, v, h => by
    rw [Rp] at h ⊢
    obtain ⟨a, r, s⟩ := h
    obtain ⟨⟨z, rfl⟩, _⟩ := e
    obtain ⟨hl, _⟩ := List.getElem?_eq_some_iff.mp r
    exact ⟨a, by rw [List.getElem?_append_left hl]; exact r, s⟩
  | .gl z, v, h => by simpa [Rp] using h
theorem Rps.mono0 {K H m H' m'} (e : Ext0 K H m H' m') : ∀ (d : List D) (v : List V), Rps K H m d v → Rps K H' m' d v
  | [], v, h => by simpa [Rps] using h
  | x :: xs, v, h => by
    rw [Rps] at h ⊢
    obtain ⟨w, r, q, s, t⟩ := h
    exact ⟨w, r, q, Rp.mono0 e x w s, Rps.mono0 e xs r t⟩
end
theorem Rp.mono {K H m H' m'} (e : Ext K H m H' m') (d : D) (v : V) (h : Rp K H m d v) : Rp K H' m' d v := Rp.mono0 e.toExt0 d v h
theorem Rps.mono {K H m H' m'} (e : Ext K H m H' m') (d : List D) (v : List V) (h : Rps K H m d v) : Rps K H' m' d v := Rps.mono0 e.toExt0 d v h
section
variable {K : Kx} {H : Hp} {m : List Addr}
theorem Rps.length : ∀ {xs : List D} {vs : List V}, Rps K H m xs vs → vs.length = xs.length
  | [], vs, h => by rw [Rps] at h; subst h; rfl
  | x :: xs, vs, h => by
    rw [Rps] at h
    obtain ⟨w, r, rfl, _, t⟩ := h
    simp [Rps.length t]
theorem Rps.get : ∀ {xs : List D} {vs : List V} {i : Nat} {x : D}, Rps K H m xs vs → xs[i]? = some x → ∃ v, vs[i]? = some v ∧ Rp K H m x v
  | [], vs, i, x, h, e => by simp at e
  | y :: xs, vs, 0, x, h, e => by
    rw [Rps] at h
    obtain ⟨w, r, rfl, s, t⟩ := h
    simp at e; subst e
    exact ⟨w, rfl, s⟩
  | y :: xs, vs, i + 1, x, h, e => by
    rw [Rps] at h
    obtain ⟨w, r, rfl, s, t⟩ := h
    have e' : xs[i]? = some x := by simpa using e
    obtain ⟨v, a, b⟩ := Rps.get (i := i) t e'
    exact ⟨v, by simpa using a, b⟩
theorem Rps.getV {xs : List D} {vs : List V} {i : Nat} {v : V} (h : Rps K H m xs vs) (e : vs[i]? = some v) : ∃ x, xs[i]? = some x ∧ Rp K H m x v := by
  obtain ⟨hl, _⟩ := List.getElem?_eq_some_iff.mp e
  have hx : i < xs.length := by rw [← h.length]; exact hl
  obtain ⟨w, a, b⟩ := h.get (List.getElem?_eq_getElem hx)
  rw [a] at e; cases e
  exact ⟨_, List.getElem?_eq_getElem hx, b⟩
theorem Rps.append : ∀ {xs ys : List D} {vs ws : List V}, Rps K H m xs vs → Rps K H m ys ws → Rps K H m (xs ++ ys) (vs ++ ws)
  | [], ys, vs, ws, h, g => by rw [Rps] at h; subst h; exact g
  | x :: xs, ys, vs, ws, h, g => by
    rw [Rps] at h
    obtain ⟨w, r, rfl, s, t⟩ := h
    show Rps K H m (x :: (xs ++ ys)) _
    rw [Rps]
    exact ⟨w, r ++ ws, rfl, s, Rps.append t g⟩
theorem Rps.one {x : D} {v : V} (h : Rp K H m x v) : Rps K H m [x] [v] := by
  rw [Rps]; exact ⟨v, [], rfl, h, by rw [Rps]⟩
theorem Rps.cons {x : D} {v : V} {xs : List D} {vs : List V} (h : Rp K H m x v) (g : Rps K H m xs vs) : Rps K H m (x :: xs) (v :: vs) := by
  rw [Rps]; exact ⟨v, vs, rfl, h, g⟩
theorem Rps.nil : Rps K H m [] [] := by rw [Rps]
theorem Rps.take : ∀ (n : Nat) {xs : List D} {vs : List V}, Rps K H m xs vs → Rps K H m (xs.take n) (vs.take n)
  | 0, xs, vs, h => by simpa using Rps.nil
  | n + 1, [], vs, h => by rw [Rps] at h; subst h; simpa using Rps.nil
  | n + 1, x :: xs, vs, h => by
    rw [Rps] at h
    obtain ⟨w, r, rfl, s, t⟩ := h
    simpa using Rps.cons s (Rps.take n t)
theorem Rps.drop : ∀ (n : Nat) {xs : List D} {vs : List V}, Rps K H m xs vs → Rps K H m (xs.drop n) (vs.drop n)
  | 0, xs, vs, h => by simpa using h
  | n + 1, [], vs, h => by rw [Rps] at h; subst h; simpa using Rps.nil
  | n + 1, x :: xs, vs, h => by
    rw [Rps] at h
    obtain ⟨w, r, rfl, s, t⟩ := h
    simpa using Rps.drop n t
theorem Rps.reverse {xs : List D} {vs : List V} (h : Rps K H m xs vs) : Rps K H m xs.reverse vs.reverse := by
  induction xs generalizing vs with
  | nil => rw [Rps] at h; subst h; exact Rps.nil
  | cons x xs ih =>
    rw [Rps] at h
    obtain ⟨w, r, rfl, s, t⟩ := h
    rw [List.reverse_cons]; rw [List.reverse_cons]
    exact (ih t).append (Rps.one s)
theorem Rps.set {x : D} {v : V} (h : Rp K H m x v) : ∀ (n : Nat) {xs : List D} {vs : List V}, Rps K H m xs vs → Rps K H m (xs.set n x) (vs.set n v)
  | n, [], vs, g => by rw [Rps] at g; subst g; simpa using Rps.nil
  | 0, y :: xs, vs, g => by
    rw [Rps] at g
    obtain ⟨w, r, rfl, s, t⟩ := g
    simpa using Rps.cons h t
  | n + 1, y :: xs, vs, g => by
    rw [Rps] at g
    obtain ⟨w, r, rfl, s, t⟩ := g
    simpa using Rps.cons s (Rps.set h n t)
theorem Rps.rep {x : D} {v : V} (h : Rp K H m x v) : ∀ n : Nat, Rps K H m (List.replicate n x) (List.replicate n v)
  | 0 => Rps.nil
  | n + 1 => by rw [List.replicate_succ, List.replicate_succ]; exact Rps.cons h (Rps.rep h n)
end
/-- values by key -/
def Rkv {κ : Type} (K : Kx) (H : Hp) (m : List Addr) : List (κ × D) → List (κ × V) → Prop := Paired fun p q => p.1 = q.1 ∧ Rp K H m p.2 q.2
theorem Rkv.mono0 {κ : Type} {K H m H' m'} (e : Ext0 K H m H' m') {a : List (κ × D)} {b : List (κ × V)} (h : Rkv K H m a b) : Rkv K H' m' a b :=
  Paired.mapP h fun _ _ q => ⟨q.1, q.2.mono0 e⟩
theorem Rkv.mono {κ : Type} {K H m H' m'} (e : Ext K H m H' m') {a : List (κ × D)} {b : List (κ × V)} (h : Rkv K H m a b) : Rkv K H' m' a b := Rkv.mono0 e.toExt0 h
mutual
/-- a value as a key of a dict -/
def nk : D → Option NestedKey
  | .non => some .none
  | .bl b => some (.num (if b = true then 1 else 0))
  | .int i => some (.num i)
  | .str z => some (.text z)
  | .tup xs => match nks xs with
    | some ks => some (.tup ks)
    | none => none
  | .rl _ => none
  | .ref _ => none
  | .gl _ => none
def nks : List D → Option (List NestedKey)
  | [] => some []
  | x :: xs => match nk x, nks xs with
    | some k, some ks => some (k :: ks)
    | _, _ => none
end
/-- the object of a dict whose keys are tuples -/
def dnF (P : Program) (w : World) (a : Addr) (xs : List (NestedKey × Addr × V)) : Heap → Prop := fun h => (a == sysModules) = false ∧ xs.length ≤ sizeLine ∧
  ∃ ys : List (NestedKey × Addr × Value), Paired (fun (p : NestedKey × Addr × V) (q : NestedKey × Addr × Value) => p.1 = q.1 ∧ p.2.1 = q.2.1 ∧ RelV p.2.2 q.2.2) xs ys ∧
    ∃ o es ep, h.get? a = some o ∧ o.ExactDict ∧ o.data = .dict es ep ∧ es.toList = ys.map (entryOfKey (nestedKind P w)) ∧ (ys.map (·.1)).Nodup
/-- its entries -/
def Rdn (K : Kx) (H : Hp) (m : List Addr) : List (D × D) → List (NestedKey × Addr × V) → Prop :=
  Paired fun p q => nk p.1 = some q.1 ∧ q.1.depth ≤ 8 ∧ Rp K H m p.1 (.ref q.2.1) ∧ Rp K H m p.2 q.2.2
theorem Rdn.mono0 {K H m H' m'} (e : Ext0 K H m H' m') {a : List (D × D)} {b : List (NestedKey × Addr × V)} (h : Rdn K H m a b) : Rdn K H' m' a b :=
  Paired.mapP h fun _ _ q => ⟨q.1, q.2.1, q.2.2.1.mono0 e, q.2.2.2.mono0 e⟩
theorem Rdn.mono {K H m H' m'} (e : Ext K H m H' m') {a : List (D × D)} {b : List (NestedKey × Addr × V)} (h : Rdn K H m a b) : Rdn K H' m' a b := Rdn.mono0 e.toExt0 h
/-- no tuple -/
def NoTup : HO → Prop
  | .tup _ => False
  | .frz _ (.tup _) => False
  | .frz _ (.lst _) => False
  | .tbl _ => False
  | _ => True
/-- cells that hold these values, in the part of the heap that stays -/
structure CellsIn (b : Heap) (cl : List (Str × Addr)) (fr : List Str) (vs : List V) : Prop where
  inj : ∀ y z c, cl.lookup y = some c → cl.lookup z = some c → y = z
  all : ∀ y c, cl.lookup y = some c → ∃ v, b.IsCell c v
  len : vs.length = fr.length
  has : ∀ (i : Nat) (y : Str), fr[i]? = some y → ∃ c, cl.lookup y = some c ∧ ∀ v, vs[i]? = some v → ∃ u, RelV v u ∧ b.IsCell c (some u)
/-- what stands at a -/
def OR (K : Kx) (H : Hp) (m : List Addr) (a : Addr) : O → Prop
  | .lst xs => ∃ vs, H a = some (.lst vs) ∧ Rps K H m xs vs
  | .dk kvs => ∃ ws, H a = some (.dK ws) ∧ Rkv K H m kvs ws
  | .dn false kvs => ∃ xs, H a = some (.ext (dnF K.p K.w a xs)) ∧ Rdn K H m kvs xs
  | .dn true kvs => ∃ od xs, H a = some (.frz od (.ext (dnF K.p K.w a xs))) ∧ Rdn K H m kvs xs
  | .ins C fs => ∃ dx ws, H a = some (.ins C dx ws) ∧ Rkv K H m fs ws
  | .dkl kvs => ∃ od ws, H a = some (.frz od (.dK ws)) ∧ Rkv K H m kvs ws
  | .fn _ nd ws => ∃ cl c vs, H a = some (NdefX.FnO a (nd.nf cl c)) ∧ H c = some (LamX.CodeO c nd.qual) ∧ c ∉ m ∧ CellsIn K.b cl nd.fr vs ∧ Rps K H m ws vs
  | .junk => ∃ F : NdefX.NF, H a = some (NdefX.FnO a F)
/-- the tables of code objects, none of these in the store -/
def TbOk (t : List NdefX.NTab) (H : Hp) (m : List Addr) : Prop := ∀ p ∈ t, ∃ ps : Array Value, H p.1 = some (.tbl ps) ∧ TriplesOk ps.toList ∧
  ∀ (pos : Pos) (cv : Value), codeAmong pos ps.toList = some cv → ∃ c, cv = .ref c ∧ H c = some (LamX.CodeO c (p.2 pos.line pos.col)) ∧ c ∉ m
/-- the store S stands at m -/
structure SR (K : Kx) (H : Hp) (m : List Addr) (S : Sto) : Prop where
  tb : TbOk K.t H m
  len : m.length = S.length
  nd : m.Nodup
  at_ : ∀ (n : Nat) (a : Addr) (o : O), m[n]? = some a → S[n]? = some o → OR K H m a o
theorem OR.there {K H m a o} (h : OR K H m a o) : ∃ u, H a = some u ∧ NoTup u := by
  cases o with
  | lst xs => obtain ⟨vs, e, _⟩ := h; exact ⟨_, e, trivial⟩
  | dk kvs => obtain ⟨vs, e, _⟩ := h; exact ⟨_, e, trivial⟩
  | dn lk kvs =>
    cases lk with
    | false => obtain ⟨xs, e, _⟩ := h; exact ⟨_, e, trivial⟩
    | true => obtain ⟨od, xs, e, _⟩ := h; exact ⟨_, e, trivial⟩
  | ins C fs => obtain ⟨dx, ws, e, _⟩ := h; exact ⟨_, e, trivial⟩
  | dkl kvs => obtain ⟨od, ws, e, _⟩ := h; exact ⟨_, e, trivial⟩
  | fn i nd ws => obtain ⟨_, _, _, e, _⟩ := h; exact ⟨_, e, True.intro⟩
  | junk => obtain ⟨_, e⟩ := h; exact ⟨_, e, True.intro⟩
theorem SR.addr {K H m S} (h : SR K H m S) {n : Nat} {o : O} (e : S[n]? = some o) : ∃ a, m[n]? = some a ∧ OR K H m a o := by
  obtain ⟨hl, _⟩ := List.getElem?_eq_some_iff.mp e
  have hm : n < m.length := by rw [h.len]; exact hl
  exact ⟨m[n], List.getElem?_eq_getElem hm, h.at_ n _ o (List.getElem?_eq_getElem hm) e⟩
/-- tuples stay -/
theorem sqT_new {K : Kx} {H : Hp} {p : Addr} {o : HO} (hp : H p = none) {a : Addr} {vs : List V} (h : SqT K.f H a vs) : SqT K.f (upd H p o) a vs := by
  rcases h with (h | ⟨ob, h⟩) | h
  · exact .inl (.inl (by rw [upd_ne (ne_of_none h hp)]; exact h))
  · exact .inl (.inr ⟨ob, by rw [upd_ne (ne_of_none h hp)]; exact h⟩)
  · exact .inr h
theorem sqT_upd {K : Kx} {H : Hp} {p : Addr} {o u : HO} (hp : H p = some u) (hm : NoTup u) {a : Addr} {vs : List V} (h : SqT K.f H a vs) : SqT K.f (upd H p o) a vs := by
  have ne : ∀ {w : HO}, H a = some w → ¬ NoTup w → a ≠ p := fun {w} e n z => by subst z; rw [e] at hp; cases hp; exact n hm
  rcases h with (h | ⟨ob, h⟩) | h
  · exact .inl (.inl (by rw [upd_ne (ne h fun z => z)]; exact h))
  · exact .inl (.inr ⟨ob, by rw [upd_ne (ne h fun z => z)]; exact h⟩)
  · exact .inr h
/-- neither a tuple nor locked -/
def Free : HO → Prop
  | .tup _ => False
  | .frz _ _ => False
  | .tbl _ => False
  | _ => True
theorem Free.noTup {u : HO} (h : Free u) : NoTup u := by cases u <;> first | exact h | exact trivial | exact h.elim
theorem rol_new {K : Kx} {H : Hp} {p : Addr} {o : HO} (hp : H p = none) {a : Addr} {vs : List V} (h : RoL K.f H a vs) : RoL K.f (upd H p o) a vs := by
  rcases h with ⟨ob, h⟩ | h
  · exact .inl ⟨ob, by rw [upd_ne (ne_of_none h hp)]; exact h⟩
  · exact .inr h
theorem rol_upd {K : Kx} {H : Hp} {p : Addr} {o u : HO} (hp : H p = some u) (hm : NoTup u) {a : Addr} {vs : List V} (h : RoL K.f H a vs) : RoL K.f (upd H p o) a vs := by
  rcases h with ⟨ob, h⟩ | h
  · exact .inl ⟨ob, by rw [upd_ne (fun z => by subst z; rw [h] at hp; cases hp; exact hm)]; exact h⟩
  · exact .inr h
theorem Ext.new {K H m} {p : Addr} {o : HO} (hp : H p = none) : Ext K H m (upd H p o) m := ⟨⟨⟨[], by simp⟩, fun _ _ h => sqT_new hp h, fun _ _ h => rol_new hp h⟩, fun a od u h => by rw [upd_ne (ne_of_none h hp)]; exact h⟩
theorem Ext.newM {K H m} {p : Addr} {o : HO} (hp : H p = none) : Ext K H m (upd H p o) (m ++ [p]) := ⟨⟨⟨[p], rfl⟩, fun _ _ h => sqT_new hp h, fun _ _ h => rol_new hp h⟩, fun a od u h => by rw [upd_ne (ne_of_none h hp)]; exact h⟩
theorem Ext0.upd {K H m} {p : Addr} {o u : HO} (hp : H p = some u) (hm : NoTup u) : Ext0 K H m (upd H p o) m := ⟨⟨[], by simp⟩, fun _ _ h => sqT_upd hp hm h, fun _ _ h => rol_upd hp hm h⟩
theorem Ext.upd {K H m} {p : Addr} {o u : HO} (hp : H p = some u) (hm : Free u) : Ext K H m (upd H p o) m :=
  ⟨Ext0.upd hp hm.noTup, fun a od w h => by rw [upd_ne fun z => by subst z; rw [h] at hp; cases hp; exact hm]; exact h⟩
theorem OR.moved {K H m H' m' a o} (e : Ext0 K H m H' m') (h : OR K H m a o) (k : ∀ u, H a = some u → H' a = some u) (kc : ∀ c u, c ∉ m → H c = some u → H' c = some u ∧ c ∉ m' := by intro _ _ z w; exact ⟨w, z⟩) : OR K H' m' a o := by
  cases o with
  | lst xs => obtain ⟨vs, q, r⟩ := h; exact ⟨vs, k _ q, r.mono0 e⟩
  | dk kvs => obtain ⟨vs, q, r⟩ := h; exact ⟨vs, k _ q, r.mono0 e⟩
  | dn lk kvs =>
    cases lk with
    | false => obtain ⟨xs, q, r⟩ := h; exact ⟨xs, k _ q, r.mono0 e⟩
    | true => obtain ⟨od, xs, q, r⟩ := h; exact ⟨od, xs, k _ q, r.mono0 e⟩
  | ins C fs => obtain ⟨dx, ws, q, r⟩ := h; exact ⟨dx, ws, k _ q, r.mono0 e⟩
  | dkl kvs => obtain ⟨od, ws, q, r⟩ := h; exact ⟨od, ws, k _ q, r.mono0 e⟩
  | fn i nd ws =>
    obtain ⟨cl, c, vs, q, r, z, w, x⟩ := h
    exact ⟨cl, c, vs, k _ q, (kc _ _ z r).1, (kc _ _ z r).2, w, x.mono0 e⟩
  | junk => obtain ⟨F, q⟩ := h; exact ⟨F, k _ q⟩
theorem TbOk.moved {t H m H' m'} (h : TbOk t H m) (k : ∀ P ps, H P = some (.tbl ps) → H' P = some (.tbl ps)) (kc : ∀ c u, c ∉ m → H c = some u → H' c = some u ∧ c ∉ m') : TbOk t H' m' := fun p hp => by
  obtain ⟨ps, h1, h2, h3⟩ := h p hp
  refine ⟨ps, k _ _ h1, h2, fun pos cv e => ?_⟩
  obtain ⟨c, e1, e2, e3⟩ := h3 pos cv e
  exact ⟨c, e1, (kc _ _ e3 e2).1, (kc _ _ e3 e2).2⟩
theorem SR.none {K H m S} (h : SR K H m S) {p : Addr} (hp : H p = Option.none) : p ∉ m := fun hm => by
  obtain ⟨n, hl, e⟩ := List.getElem_of_mem hm
  have hS : n < S.length := by rw [← h.len]; exact hl
  obtain ⟨u, q, _⟩ := (h.at_ n p S[n] (by rw [List.getElem?_eq_getElem hl, e]) (List.getElem?_eq_getElem hS)).there
  rw [hp] at q; cases q
/-- a new tuple (or anything that the store doesn't tell) -/
theorem SR.new {K H m S} (h : SR K H m S) {p : Addr} {o : HO} (hp : H p = Option.none) : SR K (upd H p o) m S :=
  have k : ∀ (b : Addr) (u : HO), H b = some u → upd H p o b = some u := fun b u q => by rw [upd_ne (ne_of_none q hp)]; exact q
  ⟨h.tb.moved (fun _ _ q => k _ _ q) fun _ _ z q => ⟨k _ _ q, z⟩, h.len, h.nd, fun n a u e1 e2 => (h.at_ n a u e1 e2).moved (Ext.new hp).toExt0 (fun w q => k _ _ q) fun _ _ z q => ⟨k _ _ q, z⟩⟩
/-- a new thing of the store -/
theorem SR.newM {K H m S} (h : SR K H m S) {p : Addr} {o : HO} {u : O} (hp : H p = Option.none) (new : OR K (upd H p o) (m ++ [p]) p u) : SR K (upd H p o) (m ++ [p]) (S ++ [u]) := by
  have kc : ∀ (c : Addr) (x : HO), c ∉ m → H c = some x → upd H p o c = some x ∧ c ∉ m ++ [p] := fun c x z q => ⟨by rw [upd_ne (ne_of_none q hp)]; exact q, fun y => by
    rcases List.mem_append.mp y with y | y
    · exact z y
    · have : c = p := by simpa using y
      rw [this, hp] at q; cases q⟩
  refine ⟨h.tb.moved (fun P ps q => by rw [upd_ne (ne_of_none q hp)]; exact q) kc, by simp [h.len], ?_, fun n a w e1 e2 => ?_⟩
  · rw [List.nodup_append]
    refine ⟨h.nd, by simp, fun a ha b hb z => ?_⟩
    have : b = p := by simpa using hb
    subst this; subst z
    exact h.none hp ha
  · by_cases hn : n < m.length
    · rw [List.getElem?_append_left hn] at e1
      rw [List.getElem?_append_left (by rw [← h.len]; exact hn)] at e2
      exact (h.at_ n a w e1 e2).moved (Ext.newM hp).toExt0 (fun x q => by rw [upd_ne (ne_of_none q hp)]; exact q) kc
    · have hn' : m.length ≤ n := Nat.le_of_not_lt hn
      rw [List.getElem?_append_right hn'] at e1
      rw [List.getElem?_append_right (by rw [← h.len]; exact hn')] at e2
      rw [h.len] at e1
      cases q : n - S.length with
      | zero =>
        rw [q] at e1 e2
        simp at e1 e2
        subst e1; subst e2
        exact new
      | succ k =>
        rw [q] at e1
        simp at e1
/-- a thing of the store is changed -/
theorem SR.upd {K H m S} (h : SR K H m S) {n : Nat} {p : Addr} {o : HO} {u : O} (hn : m[n]? = some p) (hl : n < S.length) (new : OR K (L2.upd H p o) m p u) : SR K (L2.upd H p o) m (S.set n u) := by
  obtain ⟨w, hw, hm⟩ := (h.at_ n p S[n] hn (List.getElem?_eq_getElem hl)).there
  have kc : ∀ (c : Addr) (x : HO), c ∉ m → H c = some x → L2.upd H p o c = some x ∧ c ∉ m := fun c x z q => ⟨by rw [upd_ne fun y => by subst y; exact z (List.mem_of_getElem? hn)]; exact q, z⟩
  have kt : ∀ (P : Addr) (ps : Array Value), H P = some (.tbl ps) → L2.upd H p o P = some (.tbl ps) := fun P ps q => by
    rw [upd_ne fun y => by subst y; rw [hw] at q; cases q; exact hm]; exact q
  refine ⟨h.tb.moved kt kc, by simp [h.len], h.nd, fun k a x e1 e2 => ?_⟩
  by_cases hk : k = n
  · subst hk
    rw [hn] at e1; cases e1
    rw [List.getElem?_set_self hl] at e2; cases e2
    exact new
  · rw [List.getElem?_set_ne (Ne.symm hk)] at e2
    have ne : a ≠ p := fun z => hk (nd_ix h.nd e1 (z ▸ hn))
    exact (h.at_ k a x e1 e2).moved (Ext0.upd hw hm) (fun y q => by rw [upd_ne ne]; exact q) kc
/-- the slots -/
structure SLR (K : Kx) (H : Hp) (m : List Addr) (γ : Sl) (σ : L2.St) : Prop where
  len : γ.length = σ.length
  at_ : ∀ (i : Nat) (d : D), γ[i]? = some (some d) → ∃ v, σ[i]? = some (some v) ∧ Rp K H m d v
theorem SLR.mono {K H m H' m' γ σ} (e : Ext K H m H' m') (h : SLR K H m γ σ) : SLR K H' m' γ σ :=
  ⟨h.len, fun i d q => let ⟨v, a, b⟩ := h.at_ i d q; ⟨v, a, b.mono e⟩⟩
theorem SLR.set {K H m γ σ} (h : SLR K H m γ σ) {i : Nat} {d : D} {v : V} (r : Rp K H m d v) : SLR K H m (γ.set i (some d)) (σ.set i (some v)) := by
  refine ⟨by simp [h.len], fun j e q => ?_⟩
  by_cases hj : j = i
  · subst hj
    have hl : j < γ.length := by
      have := (List.getElem?_eq_some_iff.mp q).1
      simpa using this
    rw [List.getElem?_set_self hl] at q
    cases q
    exact ⟨v, List.getElem?_set_self (by rw [← h.len]; exact hl), r⟩
  · rw [List.getElem?_set_ne (Ne.symm hj)] at q ⊢
    exact h.at_ j e q
theorem SLR.forget {K H m γ σ} (h : SLR K H m γ σ) {i : Nat} : SLR K H m (γ.set i none) (σ.set i none) := by
  refine ⟨by simp [h.len], fun j e q => ?_⟩
  by_cases hj : j = i
  · subst hj
    have hl : j < γ.length := by
      have := (List.getElem?_eq_some_iff.mp q).1
      simpa using this
    rw [List.getElem?_set_self hl] at q
    cases q
  · rw [List.getElem?_set_ne (Ne.symm hj)] at q ⊢
    exact h.at_ j e q
end Ml
namespace Ml
open L2 PyProof.Rows PySem PySem.Spec
abbrev EvM := Sl → Sto → Option (D × Sto)
abbrev CvM := Sl → Sto → Option (Bool × Sto)
abbrev AvM := Sl → Sto → Option (List D × Sto)
/-- what is wanted of a value and the store behind it -/
abbrev Fin (K : Kx) (H : Hp) (m : List Addr) (S' : Sto) (d : D) (Q : VK) : Prop :=
  ∀ w H' m', Ext K H m H' m' → SR K H' m' S' → Rp K H' m' d w → Q w H'
def tM (K : Kx) (e : EvM) : TE := fun σ H Q => ∃ m S γ d S', SR K H m S ∧ SLR K H m γ σ ∧ e γ S = some (d, S') ∧ Fin K H m S' d Q
def tTM (K : Kx) (c : CvM) : TT := fun σ H Q => ∃ m S γ b S', SR K H m S ∧ SLR K H m γ σ ∧ c γ S = some (b, S') ∧ ∀ H' m', Ext K H m H' m' → SR K H' m' S' → Q b H'
def tAM (K : Kx) (e : AvM) : TA := fun σ H Q => ∃ m S γ ds S', SR K H m S ∧ SLR K H m γ σ ∧ e γ S = some (ds, S') ∧ ∀ vs H' m', Ext K H m H' m' → SR K H' m' S' → Rps K H' m' ds vs → Q vs H'
section
variable {tb : List NdefX.NTab} {X : Cx}
theorem PE.imp {e : Expr} {t t' : TE} (h : PE X e t) (hi : ∀ σ H Q, t' σ H Q → t σ H Q) : PE X e t' := ⟨fun pins s σ H Q I q => h.run pins s σ H Q I (hi σ H Q q)⟩
theorem PT.imp {e : Expr} {t t' : TT} (h : PT X e t) (hi : ∀ σ H Q, t' σ H Q → t σ H Q) : PT X e t' := ⟨fun pins s σ H Q I q => h.run pins s σ H Q I (hi σ H Q q)⟩
theorem PW.imp {e : Expr} {t t' : TT} (h : PW X e t) (hi : ∀ σ H Q, t' σ H Q → t σ H Q) : PW X e t' := ⟨fun wh pins s σ H Q I q => h.run wh pins s σ H Q I (hi σ H Q q)⟩
theorem PA.imp {e : List Expr} {t t' : TA} (h : PA X e t) (hi : ∀ σ H Q, t' σ H Q → t σ H Q) : PA X e t' := ⟨fun pos pins s σ H Q I q => h.run pos pins s σ H Q I (hi σ H Q q)⟩
theorem PK.imp {e : List Keyword} {t t' : TA} (h : PK X e t) (hi : ∀ σ H Q, t' σ H Q → t σ H Q) : PK X e t' := ⟨fun pos pins s σ H Q I q => h.run pos pins s σ H Q I (hi σ H Q q)⟩
theorem PS.imp {e : Stmt} {t t' : TS} (h : PS X e t) (hi : ∀ D σ H, t' D σ H → t D σ H) : PS X e t' := ⟨fun pins s σ H D I q => h.run pins s σ H D I (hi D σ H q)⟩
theorem PSs.imp {e : List Stmt} {t t' : TS} (h : PSs X e t) (hi : ∀ D σ H, t' D σ H → t D σ H) : PSs X e t' := ⟨fun pins s σ H D I q => h.run pins s σ H D I (hi D σ H q)⟩
abbrev ME (tb : List NdefX.NTab) (X : Cx) (e : Expr) (m : EvM) : Prop := PE X e (tM (kx tb X) m)
abbrev MT (tb : List NdefX.NTab) (X : Cx) (e : Expr) (m : CvM) : Prop := PT X e (tTM (kx tb X) m)
abbrev MW (tb : List NdefX.NTab) (X : Cx) (e : Expr) (m : CvM) : Prop := PW X e (tTM (kx tb X) m)
abbrev MA (tb : List NdefX.NTab) (X : Cx) (e : List Expr) (m : AvM) : Prop := PA X e (tAM (kx tb X) m)
abbrev MK (tb : List NdefX.NTab) (X : Cx) (e : List Keyword) (m : AvM) : Prop := PK X e (tAM (kx tb X) m)
variable {K : Kx} {a b c : Expr} {ea eb ec : EvM} {pos : Pos}
/-! ### names, constants -/
def varM (i : Nat) : EvM := fun γ S => match γ[i]? with
  | some (some d) => some (d, S)
  | _ => none
def conM (d : D) : EvM := fun _ S => some (d, S)
theorem me_var (i : Nat) {x : Str} {p : Pos} (hN : X.N[i]? = some x := by rfl) (hv : Vis X.env.scope x := by first | exact Or.inl rfl | exact Or.inr (Or.inl rfl) | exact Or.inr (Or.inr rfl)) (hd : (x == ("__debug__" : Str)) = false := by decide)
    (hcd : (x == ("__classdict__" : Str)) = false := by decide) : ME tb X (.Name x p) (varM i) := by
  refine PE.imp (pe_var hN hv hd hcd) fun σ H Q h => ?_
  obtain ⟨m, S, γ, d, S', hS, hγ, e, q⟩ := h
  unfold varM at e
  split at e
  · rename_i d' hd'
    cases e
    obtain ⟨v, h1, h2⟩ := hγ.at_ i _ hd'
    exact ⟨v, h1, q v H m .refl hS h2⟩
  · cases e
theorem me_con {e : Expr} {v : V} {d : D} (h : PE X e (tC v)) (hr : ∀ H m, Rp (kx tb X) H m d v) : ME tb X e (conM d) := by
  refine PE.imp h fun σ H Q h => ?_
  obtain ⟨m, S, γ, d', S', hS, hγ, e, q⟩ := h
  cases e
  exact q v H m .refl hS (hr H m)
theorem me_int {i j p} : ME tb X (.Constant (.int i) j p) (conM (.int i)) := me_con pe_int fun _ _ => by rw [Rp]
theorem me_bl {i j p} : ME tb X (.Constant (.bool i) j p) (conM (.bl i)) := me_con pe_bl fun _ _ => by rw [Rp]
theorem me_non {j p} : ME tb X (.Constant .none j p) (conM .non) := me_con pe_non fun _ _ => by rw [Rp]
theorem me_str {i j p} : ME tb X (.Constant (.str i) j p) (conM (.str i)) := me_con pe_str fun _ _ => by rw [Rp]
/-! ### two values -/
def binM (F : D → D → Sto → Option (D × Sto)) (ea eb : EvM) : EvM := fun γ S => match ea γ S with
  | none => none
  | some (x, S1) => match eb γ S1 with
    | none => none
    | some (y, S2) => F x y S2
def FOk2 (K : Kx) (F : D → D → Sto → Option (D × Sto)) (r : R2) : Prop :=
  ∀ x y S d S', F x y S = some (d, S') → ∀ H m vx vy Q, SR K H m S → Rp K H m x vx → Rp K H m y vy → Fin K H m S' d Q → r vx vy H Q
theorem FOk2.or {F G : D → D → Sto → Option (D × Sto)} {r r' : R2} (h : FOk2 K F r) (h' : FOk2 K G r') : FOk2 K (fun x y S => (F x y S).or (G x y S)) (fun x y H Q => r x y H Q ∨ r' x y H Q) := by
  intro x y S d S' e H m vx vy Q hS hx hy q
  dsimp only at e
  cases hF : F x y S with
  | some p => rw [hF] at e; simp at e; subst e; exact .inl (h _ _ _ _ _ hF H m vx vy Q hS hx hy q)
  | none => rw [hF] at e; simp at e; exact .inr (h' _ _ _ _ _ e H m vx vy Q hS hx hy q)
theorem bin_core {F : D → D → Sto → Option (D × Sto)} {r : R2} (hF : FOk2 K F r) {σ : L2.St} {H : Hp} {Q : VK} (h : tM K (binM F ea eb) σ H Q) : tOp r (tM K ea) (tM K eb) σ H Q := by
  obtain ⟨m, S, γ, d, S', hS, hγ, e, q⟩ := h
  unfold binM at e
  cases h1 : ea γ S with
  | none => rw [h1] at e; cases e
  | some p =>
    obtain ⟨x, S1⟩ := p
    rw [h1] at e
    dsimp only at e
    cases h2 : eb γ S1 with
    | none => rw [h2] at e; cases e
    | some p2 =>
      obtain ⟨y, S2⟩ := p2
      rw [h2] at e
      refine ⟨m, S, γ, x, S1, hS, hγ, h1, fun v H1 m1 e1 hS1 hx => ?_⟩
      refine ⟨m1, S1, γ, y, S2, hS1, hγ.mono e1, h2, fun w H2 m2 e2 hS2 hy => ?_⟩
      exact hF x y S2 d S' e H2 m2 v w Q hS2 (hx.mono e2) hy fun u H3 m3 e3 => q u H3 m3 (e1.trans (e2.trans e3))
theorem me_bin {op : Operator} {F : D → D → Sto → Option (D × Sto)} {r : R2} (ho : OpR X (binaryOp op) r) (hF : FOk2 (kx tb X) F r) (ha : ME tb X a ea) (hb : ME tb X b eb) : ME tb X (.BinOp a op b pos) (binM F ea eb) :=
  PE.imp (pe_op ho ha hb) fun _ _ _ h => bin_core hF h
theorem me_cmp {op : CmpOp} {F : D → D → Sto → Option (D × Sto)} {r : R2} (ho : OpR X (compareOp op) r) (hF : FOk2 (kx tb X) F r) (ha : ME tb X a ea) (hb : ME tb X b eb) (hm : behindInMarks op b = false) : ME tb X (.Compare a [op] [b] pos) (binM F ea eb) :=
  PE.imp (pe_cmpR ho ha hb hm) fun _ _ _ h => bin_core hF h
/-- a value that is a bool, as a test -/
def tstM (e : EvM) : CvM := fun γ S => match e γ S with
  | some (.bl k, S') => some (k, S')
  | _ => none
theorem tst_core {e : EvM} {σ : L2.St} {H : Hp} {Q : Bool → Hp → Prop} (h : tTM K (tstM e) σ H Q) : tM K e σ H fun x H' => ∃ k, x = .bl k ∧ Q k H' := by
  obtain ⟨m, S, γ, d, S', hS, hγ, e1, q⟩ := h
  unfold tstM at e1
  split at e1
  · rename_i k S1 h1
    cases e1
    refine ⟨m, S, γ, _, _, hS, hγ, h1, fun w H' m' e2 hS' hw => ?_⟩
    rw [Rp] at hw
    exact ⟨_, hw, q H' m' e2 hS'⟩
  · cases e1
theorem mt_cmp {op : CmpOp} {F : D → D → Sto → Option (D × Sto)} {r : R2} (ho : OpR X (compareOp op) r) (hF : FOk2 (kx tb X) F r) (ha : ME tb X a ea) (hb : ME tb X b eb) (hm : behindInMarks op b = false) : MT tb X (.Compare a [op] [b] pos) (tstM (binM F ea eb)) :=
  PT.imp (pt_cmpR ho ha hb hm) fun σ H Q h => bin_core hF (tst_core h)
/-! ### the operators -/
def opI (C : Int → Int → Bool) (g : Int → Int → D) : D → D → Sto → Option (D × Sto)
  | .int i, .int j, S => if C i j then some (g i j, S) else none
  | _, _, _ => none
theorem Rp.int_iff {H m i v} : Rp K H m (.int i) v ↔ v = .int i := by rw [Rp]
theorem Rp.str_iff {H m i v} : Rp K H m (.str i) v ↔ v = .str i := by rw [Rp]
theorem Rp.bl_iff {H m i v} : Rp K H m (.bl i) v ↔ v = .bl i := by rw [Rp]
theorem Rp.non_iff {H m v} : Rp K H m .non v ↔ v = .non := by rw [Rp]
theorem Rp.tup_iff {H m xs v} : Rp K H m (.tup xs) v ↔ ∃ a vs, v = .ref a ∧ SqT K.f H a vs ∧ Rps K H m xs vs := by rw [Rp]
theorem Rp.ref_iff {H m n v} : Rp K H m (.ref n) v ↔ ∃ a, m[n]? = some a ∧ v = .ref a := by rw [Rp]
/-- a scalar answer, nothing changed -/
theorem fin_int {H m S i} {Q : VK} (hS : SR K H m S) (q : Fin K H m S (.int i) Q) : Q (.int i) H := q _ H m .refl hS (by rw [Rp])
theorem fin_bl {H m S i} {Q : VK} (hS : SR K H m S) (q : Fin K H m S (.bl i) Q) : Q (.bl i) H := q _ H m .refl hS (by rw [Rp])
theorem fin_str {H m S i} {Q : VK} (hS : SR K H m S) (q : Fin K H m S (.str i) Q) : Q (.str i) H := q _ H m .refl hS (by rw [Rp])
theorem fin_non {H m S} {Q : VK} (hS : SR K H m S) (q : Fin K H m S .non Q) : Q .non H := q _ H m .refl hS (by rw [Rp])
/-- a new tuple -/
theorem fin_tup {H m S xs vs} {Q : VK} (hS : SR K H m S) (hv : Rps K H m xs vs) (q : Fin K H m S (.tup xs) Q) : ∀ p, H p = none → Q (.ref p) (upd H p (.tup vs)) := fun p hp =>
  q _ _ m (.new hp) (hS.new hp) (by rw [Rp]; exact ⟨p, vs, rfl, SqT.of upd_same, hv.mono (.new hp)⟩)
/-- a new list -/
theorem fin_lst {H m S xs vs} {Q : VK} (hS : SR K H m S) (hv : Rps K H m xs vs) (q : Fin K H m (S ++ [.lst xs]) (.ref S.length) Q) : ∀ p, H p = none → Q (.ref p) (upd H p (.lst vs)) := fun p hp =>
  q _ _ (m ++ [p]) (.newM hp) (hS.newM hp ⟨vs, upd_same, hv.mono (.newM hp)⟩) (by rw [Rp]; exact ⟨p, by rw [← hS.len]; simp, rfl⟩)
/-- a list of the store is changed -/
theorem fin_set {H m S n a xs vs us d v} {Q : VK} (hS : SR K H m S) (hn : m[n]? = some a) (hl : H a = some (.lst vs)) (hx : n < S.length) (hv : Rps K H m xs us) (hd : Rp K H m d v) (q : Fin K H m (S.set n (.lst xs)) d Q) : Q v (upd H a (.lst us)) :=
  q _ _ m (.upd hl trivial) (hS.upd hn hx ⟨us, upd_same, hv.mono (.upd hl trivial)⟩) (hd.mono (.upd hl trivial))
theorem opI_ok {C : Int → Int → Bool} {g : Int → Int → D} {P : Int → Int → Prop} {gV : Int → Int → V} (hC : ∀ i j, C i j = true → P i j) (hg : ∀ i j H m, Rp K H m (g i j) (gV i j)) : FOk2 K (opI C g) (rI P gV) := by
  intro x y S d S' e H m vx vy Q hS hx hy q
  unfold opI at e
  split at e
  · rename_i i j
    split at e
    · rename_i hc
      cases e
      rw [Rp] at hx hy
      exact ⟨i, j, hx, hy, hC _ _ hc, q _ H m .refl hS (hg i j H m)⟩
    · cases e
  · cases e
theorem opI0_ok {g : Int → Int → D} {gV : Int → Int → V} (hg : ∀ i j H m, Rp K H m (g i j) (gV i j)) : FOk2 K (opI (fun _ _ => true) g) (rI0 gV) := by
  intro x y S d S' e H m vx vy Q hS hx hy q
  unfold opI at e
  split at e
  · rename_i i j
    simp at e
    obtain ⟨rfl, rfl⟩ := e
    rw [Rp] at hx hy
    exact ⟨i, j, hx, hy, q _ H m .refl hS (hg i j H m)⟩
  · cases e
/-- the list of the store at a number -/
theorem SR.lst {H : Hp} {m : List Addr} {S : Sto} {n : Nat} {xs : List D} (hS : SR K H m S) (e : S[n]? = some (.lst xs)) : ∃ a vs, m[n]? = some a ∧ H a = some (.lst vs) ∧ Rps K H m xs vs := by
  obtain ⟨a, h1, vs, h2, h3⟩ := hS.addr e
  exact ⟨a, vs, h1, h2, h3⟩
theorem lt_of {α : Type} {l : List α} {n : Nat} {x : α} (e : l[n]? = some x) : n < l.length := (List.getElem?_eq_some_iff.mp e).1
/-- + -/
def addL : D → D → Sto → Option (D × Sto)
  | .ref i, .ref j, S => match S[i]?, S[j]? with
    | some (.lst xs), some (.lst ys) => if xs.length + ys.length ≤ sizeLine then some (.ref S.length, S ++ [.lst (xs ++ ys)]) else none
    | _, _ => none
  | _, _, _ => none
def addS : D → D → Sto → Option (D × Sto)
  | .str i, .str j, S => if i.length + j.length ≤ sizeLine then some (.str (i ++ j), S) else none
  | _, _, _ => none
def addT : D → D → Sto → Option (D × Sto)
  | .tup xs, .tup ys, S => if xs.length + ys.length ≤ sizeLine then some (.tup (xs ++ ys), S) else none
  | _, _, _ => none
theorem addL_ok : FOk2 K addL rCat := by
  intro x y S d S' e H m vx vy Q hS hx hy q
  unfold addL at e
  split at e
  · rename_i i j
    split at e
    · rename_i xs ys h1 h2
      split at e
      · rename_i hz
        cases e
        rw [Rp] at hx hy
        obtain ⟨a, ea, rfl⟩ := hx
        obtain ⟨b, eb, rfl⟩ := hy
        obtain ⟨a', vs, m1, k1, r1⟩ := hS.lst h1
        obtain ⟨b', ws, m2, k2, r2⟩ := hS.lst h2
        rw [ea] at m1; cases m1
        rw [eb] at m2; cases m2
        exact ⟨a, b, vs, ws, rfl, rfl, k1, k2, by rw [r1.length, r2.length]; exact hz, fin_lst hS (r1.append r2) q⟩
      · cases e
    · cases e
  · cases e
theorem addS_ok : FOk2 K addS (fun x y H Q => ∃ i j, x = .str i ∧ y = .str j ∧ i.length + j.length ≤ sizeLine ∧ Q (.str (i ++ j)) H) := by
  intro x y S d S' e H m vx vy Q hS hx hy q
  unfold addS at e
  split at e
  · rename_i i j
    split at e
    · rename_i hz
      cases e
      rw [Rp] at hx hy
      exact ⟨i, j, hx, hy, hz, fin_str hS q⟩
    · cases e
  · cases e
theorem addT_ok : FOk2 K addT (rCatA K.f) := by
  intro x y S d S' e H m vx vy Q hS hx hy q
  unfold addT at e
  split at e
  · rename_i xs ys
    split at e
    · rename_i hz
      cases e
      rw [Rp] at hx hy
      obtain ⟨a, vs, rfl, ha, rx⟩ := hx
      obtain ⟨b, ws, rfl, hb, ry⟩ := hy
      refine ⟨a, b, vs, ws, rfl, rfl, ha, hb, by rw [rx.length, ry.length]; exact hz, fun z => ?_, fun _ z => ?_, fun _ _ => fin_tup hS (rx.append ry) q⟩
      · have hx0 : xs = [] := by
          have := rx.length
          rw [z] at this
          exact List.length_eq_zero_iff.mp this.symm
        subst hx0
        refine q _ H m .refl hS ?_
        rw [List.nil_append, Rp]
        exact ⟨b, ws, rfl, hb, ry⟩
      · have hy0 : ys = [] := by
          have := ry.length
          rw [z] at this
          exact List.length_eq_zero_iff.mp this.symm
        subst hy0
        refine q _ H m .refl hS ?_
        rw [List.append_nil, Rp]
        exact ⟨a, vs, rfl, ha, rx⟩
    · cases e
  · cases e
def addF : D → D → Sto → Option (D × Sto)
  | .int i, .int j, S => some (.int (i + j), S)
  | .str i, .str j, S => if i.length + j.length ≤ sizeLine then some (.str (i ++ j), S) else none
  | .tup xs, .tup ys, S => if xs.length + ys.length ≤ sizeLine then some (.tup (xs ++ ys), S) else none
  | .ref i, .ref j, S => match S[i]?, S[j]? with
    | some (.lst xs), some (.lst ys) => if xs.length + ys.length ≤ sizeLine then some (.ref S.length, S ++ [.lst (xs ++ ys)]) else none
    | _, _ => none
  | _, _, _ => none
theorem FOk2.of {F G : D → D → Sto → Option (D × Sto)} {r : R2} (h : FOk2 K F r) (e : ∀ x y S, G x y S = F x y S) : FOk2 K G r := by
  have : G = F := by funext x y S; exact e x y S
  rw [this]; exact h
theorem addF_ok : FOk2 K addF (fun x y H Q => rI0 (fun i j => .int (i + j)) x y H Q ∨ (∃ i j, x = .str i ∧ y = .str j ∧ i.length + j.length ≤ sizeLine ∧ Q (.str (i ++ j)) H) ∨ rCatA K.f x y H Q ∨ rCat x y H Q) :=
  ((opI0_ok (g := fun i j => .int (i + j)) (gV := fun i j => .int (i + j)) fun _ _ _ _ => by rw [Rp]).or (addS_ok.or (addT_ok.or addL_ok))).of fun x y S => by
    cases x <;> cases y <;> simp [addF, opI, addS, addT, addL]
theorem me_add (ha : ME tb X a ea) (hb : ME tb X b eb) : ME tb X (.BinOp a .Add b pos) (binM addF ea eb) :=
  me_bin (op_add.or (op_add_str.or (op_catA.or op_cat))) addF_ok ha hb
def subF := opI (fun _ _ => true) (fun i j => .int (i - j))
theorem me_sub (ha : ME tb X a ea) (hb : ME tb X b eb) : ME tb X (.BinOp a .Sub b pos) (binM subF ea eb) := me_bin op_sub (opI0_ok (gV := fun i j => .int (i - j)) fun _ _ _ _ => by rw [Rp]) ha hb
end
end Ml
namespace Ml
open L2 PyProof.Rows PySem PySem.Spec
section
variable {tb : List NdefX.NTab} {X : Cx} {K : Kx} {a b c : Expr} {ea eb ec : EvM} {pos : Pos}
/-! ### numbers -/
def mulOk (i j : Int) : Bool := decide (-(2 ^ 64) < i ∧ i < 2 ^ 64) || decide (-(2 ^ 64) < j ∧ j < 2 ^ 64) || decide (i.natAbs.log2 + j.natAbs.log2 < 1000000)
def mulF : D → D → Sto → Option (D × Sto)
  | .int i, .int j, S => if mulOk i j then some (.int (i * j), S) else none
  | _, _, _ => none
theorem mulF_ok : FOk2 K mulF (fun x y H Q => rI CMul (fun i j => .int (i * j)) x y H Q ∨ rI CMulW (fun i j => .int (i * j)) x y H Q) := by
  intro x y S d S' e H m vx vy Q hS hx hy q
  unfold mulF at e
  split at e
  · rename_i i j
    split at e
    · rename_i hc
      cases e
      simp only [Rp] at hx hy
      simp only [mulOk, Bool.or_eq_true, decide_eq_true_eq] at hc
      rcases hc with (hc | hc) | hc
      · exact .inl ⟨i, j, hx, hy, .inl hc, fin_int hS q⟩
      · exact .inl ⟨i, j, hx, hy, .inr hc, fin_int hS q⟩
      · exact .inr ⟨i, j, hx, hy, hc, fin_int hS q⟩
    · cases e
  · cases e
theorem me_mul (ha : ME tb X a ea) (hb : ME tb X b eb) : ME tb X (.BinOp a .Mult b pos) (binM mulF ea eb) := me_bin (op_mul.or op_mulW) mulF_ok ha hb
/-- xs * n -/
def repF : D → D → Sto → Option (D × Sto)
  | .ref n, .int k, S => match S[n]? with
    | some (.lst xs) => if 0 ≤ k ∧ k < 2 ^ 63 ∧ xs.length * k.toNat ≤ sizeLine then some (.ref S.length, S ++ [.lst (List.replicate k.toNat xs).flatten]) else none
    | _ => none
  | _, _, _ => none
theorem Rps.repl {H m} {xs : List D} {vs : List V} (h : Rps K H m xs vs) : ∀ k : Nat, Rps K H m (List.replicate k xs).flatten (List.replicate k vs).flatten
  | 0 => Rps.nil
  | k + 1 => by rw [List.replicate_succ, List.replicate_succ, List.flatten_cons, List.flatten_cons]; exact h.append (Rps.repl h k)
theorem repF_ok : FOk2 K repF rRep := by
  intro x y S d S' e H m vx vy Q hS hx hy q
  unfold repF at e
  split at e
  · rename_i n k
    split at e
    · rename_i xs h1
      split at e
      · rename_i hz
        cases e
        simp only [Rp] at hx hy
        obtain ⟨a, ea, rfl⟩ := hx
        obtain ⟨a', vs, m1, k1, r1⟩ := hS.lst h1
        rw [ea] at m1; cases m1
        subst hy
        exact ⟨a, k, vs, rfl, rfl, k1, by omega, hz.2.1, by rw [r1.length]; exact hz.2.2, fin_lst hS (r1.repl _) q⟩
      · cases e
    · cases e
  · cases e
theorem me_rep (ha : ME tb X a ea) (hb : ME tb X b eb) : ME tb X (.BinOp a .Mult b pos) (binM repF ea eb) := me_bin op_rep repF_ok ha hb
def fdivF : D → D → Sto → Option (D × Sto)
  | .int i, .int j, S => if 0 < j ∧ j.natAbs.log2 < 9000 then some (.int (i / j), S) else none
  | _, _, _ => none
theorem me_fdiv (ha : ME tb X a ea) (hb : ME tb X b eb) : ME tb X (.BinOp a .FloorDiv b pos) (binM fdivF ea eb) :=
  me_bin op_fdivW ((opI_ok (P := CDivW) (C := fun i j => decide (0 < j ∧ j.natAbs.log2 < 9000)) (g := fun i j => .int (i / j)) (gV := fun i j => .int (i / j)) (fun _ _ h => by have h2 := h; simp only [decide_eq_true_eq] at h2; exact h2) fun _ _ _ _ => by rw [Rp]).of fun x y S => by
    cases x <;> cases y <;> simp [fdivF, opI]) ha hb
def modF : D → D → Sto → Option (D × Sto)
  | .int i, .int j, S => if 0 < j then some (.int (i % j), S) else none
  | _, _, _ => none
theorem me_mod (ha : ME tb X a ea) (hb : ME tb X b eb) : ME tb X (.BinOp a .Mod b pos) (binM modF ea eb) :=
  me_bin op_mod ((opI_ok (P := fun _ j => 0 < j) (C := fun i j => decide (0 < j)) (g := fun i j => .int (i % j)) (gV := fun i j => .int (i % j)) (fun _ _ h => by have h2 := h; simp only [decide_eq_true_eq] at h2; exact h2) fun _ _ _ _ => by rw [Rp]).of fun x y S => by
    cases x <;> cases y <;> simp [modF, opI]) ha hb
def powF : D → D → Sto → Option (D × Sto)
  | .int i, .int j, S => if 0 ≤ j ∧ j ≤ 1000000 ∧ i.natAbs < 2 ^ 64 then some (.int (i ^ j.toNat), S) else none
  | _, _, _ => none
theorem me_pow (ha : ME tb X a ea) (hb : ME tb X b eb) : ME tb X (.BinOp a .Pow b pos) (binM powF ea eb) :=
  me_bin op_pow ((opI_ok (P := CPow) (C := fun i j => decide (0 ≤ j ∧ j ≤ 1000000 ∧ i.natAbs < 2 ^ 64)) (g := fun i j => .int (i ^ j.toNat)) (gV := fun i j => .int (i ^ j.toNat)) (fun _ _ h => by have h2 := h; simp only [decide_eq_true_eq] at h2; exact h2) fun _ _ _ _ => by rw [Rp]).of fun x y S => by
    cases x <;> cases y <;> simp [powF, opI]) ha hb
/-- -x -/
def negM (e : EvM) : EvM := fun γ S => match e γ S with
  | some (.int i, S') => some (.int (-i), S')
  | _ => none
theorem me_neg (ha : ME tb X a ea) : ME tb X (.UnaryOp .USub a pos) (negM ea) := by
  refine PE.imp (pe_un un_neg ha) fun σ H Q h => ?_
  obtain ⟨m, S, γ, d, S', hS, hγ, e1, q⟩ := h
  unfold negM at e1
  split at e1
  · rename_i i S1 h1
    cases e1
    refine ⟨m, S, γ, _, _, hS, hγ, h1, fun w H' m' e2 hS' hw => ?_⟩
    rw [Rp] at hw
    exact ⟨_, hw, q _ H' m' e2 hS' (by rw [Rp])⟩
  · cases e1
/-! ### comparisons by order -/
def strS (g : Str → Str → Bool) : D → D → Sto → Option (D × Sto)
  | .str i, .str j, S => some (.bl (g i j), S)
  | _, _, _ => none
theorem strS_ok {g : Str → Str → Bool} : FOk2 K (strS g) (fun x y H Q => ∃ i j, x = .str i ∧ y = .str j ∧ Q (.bl (g i j)) H) := by
  intro x y S d S' e H m vx vy Q hS hx hy q
  unfold strS at e
  split at e
  · cases e
    rw [Rp] at hx hy
    exact ⟨_, _, hx, hy, fin_bl hS q⟩
  · cases e
abbrev ltS (i j : Str) : Bool := decide (i.cps.toList < j.cps.toList)
def ordF (gi : Int → Int → Bool) (gs : Str → Str → Bool) : D → D → Sto → Option (D × Sto)
  | .int i, .int j, S => some (.bl (gi i j), S)
  | .str i, .str j, S => some (.bl (gs i j), S)
  | _, _, _ => none
theorem ordF_ok {gi : Int → Int → Bool} {gs : Str → Str → Bool} : FOk2 K (ordF gi gs) (fun x y H Q => rI0 (fun i j => .bl (gi i j)) x y H Q ∨ (∃ i j, x = .str i ∧ y = .str j ∧ Q (.bl (gs i j)) H)) :=
  ((opI0_ok (g := fun i j => .bl (gi i j)) (gV := fun i j => .bl (gi i j)) fun _ _ _ _ => by rw [Rp]).or strS_ok).of fun x y S => by
    cases x <;> cases y <;> simp [ordF, opI, strS]
def ltF := ordF (fun i j => decide (i < j)) ltS
def leF := ordF (fun i j => decide (i ≤ j)) (fun i j => !ltS j i)
def gtF := ordF (fun i j => decide (j < i)) (fun i j => ltS j i)
def geF := ordF (fun i j => decide (j ≤ i)) (fun i j => !ltS i j)
theorem ltF_ok : FOk2 K ltF (fun x y H Q => rI0 (fun i j => .bl (decide (i < j))) x y H Q ∨ (∃ i j, x = .str i ∧ y = .str j ∧ Q (.bl (decide (i.cps.toList < j.cps.toList))) H)) := ordF_ok
theorem leF_ok : FOk2 K leF (fun x y H Q => rI0 (fun i j => .bl (decide (i ≤ j))) x y H Q ∨ (∃ i j, x = .str i ∧ y = .str j ∧ Q (.bl (!decide (j.cps.toList < i.cps.toList))) H)) := ordF_ok
theorem gtF_ok : FOk2 K gtF (fun x y H Q => rI0 (fun i j => .bl (decide (j < i))) x y H Q ∨ (∃ i j, x = .str i ∧ y = .str j ∧ Q (.bl (decide (j.cps.toList < i.cps.toList))) H)) := ordF_ok
theorem geF_ok : FOk2 K geF (fun x y H Q => rI0 (fun i j => .bl (decide (j ≤ i))) x y H Q ∨ (∃ i j, x = .str i ∧ y = .str j ∧ Q (.bl (!decide (i.cps.toList < j.cps.toList))) H)) := ordF_ok
theorem or_lt : OpR X (compareOp .Lt) (fun x y H Q => rI0 (fun i j => .bl (decide (i < j))) x y H Q ∨ (∃ i j, x = .str i ∧ y = .str j ∧ Q (.bl (decide (i.cps.toList < j.cps.toList))) H)) := op_lt.or op_lt_str
theorem or_le : OpR X (compareOp .LtE) (fun x y H Q => rI0 (fun i j => .bl (decide (i ≤ j))) x y H Q ∨ (∃ i j, x = .str i ∧ y = .str j ∧ Q (.bl (!decide (j.cps.toList < i.cps.toList))) H)) := op_le.or op_le_str
theorem or_gt : OpR X (compareOp .Gt) (fun x y H Q => rI0 (fun i j => .bl (decide (j < i))) x y H Q ∨ (∃ i j, x = .str i ∧ y = .str j ∧ Q (.bl (decide (j.cps.toList < i.cps.toList))) H)) := op_gt.or op_gt_str
theorem or_ge : OpR X (compareOp .GtE) (fun x y H Q => rI0 (fun i j => .bl (decide (j ≤ i))) x y H Q ∨ (∃ i j, x = .str i ∧ y = .str j ∧ Q (.bl (!decide (i.cps.toList < j.cps.toList))) H)) := op_ge.or op_ge_str
/-! ### == -/
mutual
/-- a value that has no thing of the store in it, as data -/
def pyD : D → Option PyData
  | .non => some .none
  | .bl b => some (.bool b)
  | .int i => some (.int i)
  | .str z => some (.str z)
  | .tup xs => match pyDs xs with
    | some ds => some (.tuple ds)
    | none => none
  | .rl _ => none
  | .ref _ => none
  | .gl _ => none
def pyDs : List D → Option (List PyData)
  | [] => some []
  | x :: xs => match pyD x, pyDs xs with
    | some d0, some ds => some (d0 :: ds)
    | _, _ => none
end
/-- .. or a list of such -/
def pyO (S : Sto) : D → Option PyData
  | .ref n => match S[n]? with
    | some (.lst xs) => match pyDs xs with
      | some ds => some (.list ds)
      | none => none
    | _ => none
  | d => pyD d
mutual
theorem pyD_ok {H m} : ∀ (d : D) (v : V) (p : PyData), Rp K H m d v → pyD d = some p → Dp K.f H v p
  | .non, v, p, h, e => by rw [Rp] at h; rw [pyD] at e; cases e; subst h; exact .non
  | .bl b, v, p, h, e => by rw [Rp] at h; rw [pyD] at e; cases e; subst h; exact .bl b
  | .int i, v, p, h, e => by rw [Rp] at h; rw [pyD] at e; cases e; subst h; exact .int i
  | .str z, v, p, h, e => by rw [Rp] at h; rw [pyD] at e; cases e; subst h; exact .str z
  | .tup xs, v, p, h, e => by
    rw [Rp] at h
    obtain ⟨a, vs, rfl, ha, hv⟩ := h
    rw [pyD] at e
    cases h1 : pyDs xs with
    | none => rw [h1] at e; cases e
    | some ds =>
      rw [h1] at e
      cases e
      exact .tup ha (pyDs_ok xs vs ds hv h1)
  | .rl n, v, p, h, e => by rw [pyD] at e; cases e
  | .ref n, v, p, h, e => by rw [pyD] at e; cases e
  | .gl n, v, p, h, e => by rw [pyD] at e; cases e
theorem pyDs_ok {H m} : ∀ (d : List D) (v : List V) (p : List PyData), Rps K H m d v → pyDs d = some p → DpAll K.f H v p
  | [], v, p, h, e => by rw [Rps] at h; rw [pyDs] at e; cases e; subst h; exact .nil
  | x :: xs, v, p, h, e => by
    rw [Rps] at h
    obtain ⟨w, r, rfl, h1, h2⟩ := h
    rw [pyDs] at e
    cases e1 : pyD x with
    | none => rw [e1] at e; cases e
    | some d1 =>
      cases e2 : pyDs xs with
      | none => rw [e1, e2] at e; cases e
      | some d2 =>
        rw [e1, e2] at e
        cases e
        exact .cons (pyD_ok x w d1 h1 e1) (pyDs_ok xs r d2 h2 e2)
end
theorem pyO_ok {H m S} {d : D} {v : V} {p : PyData} (hS : SR K H m S) (h : Rp K H m d v) (e : pyO S d = some p) : Dp K.f H v p := by
  unfold pyO at e
  split at e
  · rename_i n
    split at e
    · rename_i xs h1
      split at e
      · rename_i ds h2
        cases e
        rw [Rp] at h
        obtain ⟨a, ea, rfl⟩ := h
        obtain ⟨a', vs, m1, k1, r1⟩ := hS.lst h1
        rw [ea] at m1; cases m1
        exact .lst (SqL.of k1) (pyDs_ok xs vs ds r1 h2)
      · cases e
    · cases e
  · exact pyD_ok d v p h e
/-- == of scalars of like kinds -/
def eqS : D → D → Option Bool
  | .non, .non => some true
  | .int i, .int j => some (i == j)
  | .bl i, .bl j => some (i == j)
  | .str i, .str j => some (i == j)
  | .non, .int _ => some false | .int _, .non => some false
  | .non, .bl _ => some false | .bl _, .non => some false
  | .non, .str _ => some false | .str _, .non => some false
  | .int _, .str _ => some false | .str _, .int _ => some false
  | .bl _, .str _ => some false | .str _, .bl _ => some false
  | _, _ => none
def eqB (S : Sto) (x y : D) : Option Bool := match eqS x y with
  | some b => some b
  | none => match pyO S x, pyO S y with
    | some p, some q => if SeqAt.shaped p && SeqAt.shaped q then some (PyData.eqv p q) else none
    | _, _ => none
theorem eqS_ok {H m} {x y : D} {b : Bool} {vx vy : V} (e : eqS x y = some b) (hx : Rp K H m x vx) (hy : Rp K H m y vy) : scal vx vy = true ∧ decide (vx = vy) = b := by
  cases x <;> cases y <;> simp only [eqS, Option.some.injEq, reduceCtorEq] at e <;> (simp only [Rp] at hx hy; subst hx; subst hy; subst e) <;> refine ⟨rfl, ?_⟩ <;> first | rfl | (rw [dec_int]) | (rw [dec_bl]) | (rw [dec_str]) | simp
def eqF : D → D → Sto → Option (D × Sto) := fun x y S => match eqB S x y with
  | some b => some (.bl b, S)
  | none => none
def neF : D → D → Sto → Option (D × Sto) := fun x y S => match eqB S x y with
  | some b => some (.bl (!b), S)
  | none => none
theorem eqB_ok {H m S} {x y : D} {b : Bool} {vx vy : V} (hS : SR K H m S) (e : eqB S x y = some b) (hx : Rp K H m x vx) (hy : Rp K H m y vy) :
    (scal vx vy = true ∧ decide (vx = vy) = b) ∨ ∃ p q, Dp K.f H vx p ∧ Dp K.f H vy q ∧ SeqAt.shaped p = true ∧ SeqAt.shaped q = true ∧ PyData.eqv p q = b := by
  unfold eqB at e
  split at e
  · rename_i b' h1
    cases e
    exact .inl (eqS_ok h1 hx hy)
  · split at e
    · rename_i p q h1 h2
      split at e
      · rename_i hs
        cases e
        rw [Bool.and_eq_true] at hs
        exact .inr ⟨p, q, pyO_ok hS hx h1, pyO_ok hS hy h2, hs.1, hs.2, rfl⟩
      · cases e
    · cases e
theorem eqF_ok : FOk2 K eqF (fun x y H Q => rEq x y H Q ∨ rEqD K.f x y H Q) := by
  intro x y S d S' e H m vx vy Q hS hx hy q
  unfold eqF at e
  split at e
  · rename_i b h1
    cases e
    rcases eqB_ok hS h1 hx hy with ⟨h2, h3⟩ | ⟨p, r, h2, h3, h4, h5, h6⟩
    · exact .inl ⟨h2, by rw [h3]; exact fin_bl hS q⟩
    · exact .inr ⟨p, r, h2, h3, h4, h5, by rw [h6]; exact fin_bl hS q⟩
  · cases e
theorem neF_ok : FOk2 K neF (fun x y H Q => rNe x y H Q ∨ rNeD K.f x y H Q) := by
  intro x y S d S' e H m vx vy Q hS hx hy q
  unfold neF at e
  split at e
  · rename_i b h1
    cases e
    rcases eqB_ok hS h1 hx hy with ⟨h2, h3⟩ | ⟨p, r, h2, h3, h4, h5, h6⟩
    · exact .inl ⟨h2, by rw [h3]; exact fin_bl hS q⟩
    · exact .inr ⟨p, r, h2, h3, h4, h5, by rw [h6]; exact fin_bl hS q⟩
  · cases e
theorem or_eq (hu : X.A.units + 64 < cLine) : OpR X (compareOp .Eq) (fun x y H Q => rEq x y H Q ∨ rEqD X.K x y H Q) := op_eq.or (op_eqD hu)
theorem or_ne (hu : X.A.units + 64 < cLine) : OpR X (compareOp .NotEq) (fun x y H Q => rNe x y H Q ∨ rNeD X.K x y H Q) := op_ne.or (op_neD hu)
/-! ### in -/
/-- x in a list of data -/
def inB (S : Sto) (x y : D) : Option Bool := match pyD x, pyO S y with
  | some p, some (.list ds) => if SeqAt.shaped p && SeqAt.shaped (.list ds) then some (ds.any fun z => PyData.eqv z p) else none
  | _, _ => none
/-- x in a tuple of flat values -/
def flatD : D → Bool
  | .non => true | .bl _ => true | .int _ => true | .str _ => true | _ => false
def eqFl : D → D → Bool
  | .non, .non => true
  | .bl a, .bl b => a == b
  | .bl a0, .int b => (if a0 then 1 else 0) == b
  | .int a0, .bl b => a0 == (if b then 1 else 0)
  | .int a, .int b => a == b
  | .str a, .str b => a == b
  | _, _ => false
def inT (x y : D) : Option Bool := match y with
  | .tup ys => if flatD x && ys.all flatD then some (ys.any fun z => eqFl z x) else none
  | _ => none
theorem flatD_ok {H m} {x : D} {v : V} (h : Rp K H m x v) : flatD x = true → flatV v = true := by
  cases x <;> simp only [flatD, Bool.false_eq_true, false_imp_iff, imp_true_iff, forall_const, true_imp_iff] <;> (try (rw [Rp] at h; subst h; rfl))
theorem eqFl_ok {H m} {x y : D} {v w : V} (h : Rp K H m x v) (h' : Rp K H m y w) (f : flatD x = true) (g : flatD y = true) : eqV v w = eqFl x y := by
  cases x <;> simp only [flatD, Bool.false_eq_true] at f <;> cases y <;> simp only [flatD, Bool.false_eq_true] at g <;> (simp only [Rp] at h h'; subst h; subst h'; rfl)
theorem flats_ok {H m} : ∀ {xs : List D} {vs : List V}, Rps K H m xs vs → xs.all flatD = true → vs.all flatV = true
  | [], vs, h, _ => by rw [Rps] at h; subst h; rfl
  | x :: xs, vs, h, f => by
    rw [Rps] at h
    obtain ⟨w, r, rfl, h1, h2⟩ := h
    simp only [List.all_cons, Bool.and_eq_true] at f ⊢
    exact ⟨flatD_ok h1 f.1, flats_ok h2 f.2⟩
theorem inV_ok {H m} {x : D} {v : V} (h : Rp K H m x v) (f : flatD x = true) : ∀ {xs : List D} {vs : List V}, Rps K H m xs vs → xs.all flatD = true → inV v vs = xs.any fun z => eqFl z x
  | [], vs, h, _ => by rw [Rps] at h; subst h; rfl
  | y :: xs, vs, h', g => by
    rw [Rps] at h'
    obtain ⟨w, r, rfl, h1, h2⟩ := h'
    simp only [List.all_cons, Bool.and_eq_true] at g
    have := inV_ok h f h2 g.2
    unfold inV at this ⊢
    rw [List.any_cons, List.any_cons, this, eqFl_ok h1 h g.1 f]
def inF (neg : Bool) : D → D → Sto → Option (D × Sto) := fun x y S => match inT x y with
  | some b => some (.bl (if neg then !b else b), S)
  | none => match inB S x y with
    | some b => some (.bl (if neg then !b else b), S)
    | none => none
theorem inT_ok {H m S neg} {x y : D} {b : Bool} {vx vy : V} {Q : VK} (hS : SR K H m S) (e : inT x y = some b) (hx : Rp K H m x vx) (hy : Rp K H m y vy) (q : Fin K H m S (.bl (if neg then !b else b)) Q) : rIn K.f neg vx vy H Q := by
  unfold inT at e
  split at e
  · rename_i ys
    split at e
    · rename_i hf
      cases e
      rw [Bool.and_eq_true] at hf
      rw [Rp] at hy
      obtain ⟨a, vs, rfl, ha, hv⟩ := hy
      refine ⟨a, vs, rfl, .inr ha, flatD_ok hx hf.1, flats_ok hv hf.2, ?_⟩
      rw [inV_ok hx hf.1 hv hf.2]
      exact fin_bl hS q
    · cases e
  · cases e
theorem inB_ok {H m S} {x y : D} {b : Bool} {vx vy : V} (hS : SR K H m S) (e : inB S x y = some b) (hx : Rp K H m x vx) (hy : Rp K H m y vy) :
    ∃ d ds, Dp K.f H vx d ∧ Dp K.f H vy (.list ds) ∧ SeqAt.shaped d = true ∧ SeqAt.shaped (.list ds) = true ∧ (ds.any fun z => PyData.eqv z d) = b := by
  unfold inB at e
  split at e
  · rename_i p ds h1 h2
    split at e
    · rename_i hs
      cases e
      rw [Bool.and_eq_true] at hs
      exact ⟨p, ds, pyD_ok _ _ _ hx h1, pyO_ok hS hy h2, hs.1, hs.2, rfl⟩
    · cases e
  · cases e
theorem inF_ok : FOk2 K (inF false) (fun x y H Q => rIn K.f false x y H Q ∨ rInD K.f x y H Q) := by
  intro x y S d S' e H m vx vy Q hS hx hy q
  unfold inF at e
  split at e
  · rename_i b h1
    cases e
    exact .inl (inT_ok hS h1 hx hy q)
  · split at e
    · rename_i b h1
      cases e
      obtain ⟨p, ds, h2, h3, h4, h5, h6⟩ := inB_ok hS h1 hx hy
      exact .inr ⟨p, ds, h2, h3, h4, h5, by rw [h6]; exact fin_bl hS q⟩
    · cases e
theorem notInF_ok : FOk2 K (inF true) (fun x y H Q => rIn K.f true x y H Q ∨ rNotInD K.f x y H Q) := by
  intro x y S d S' e H m vx vy Q hS hx hy q
  unfold inF at e
  split at e
  · rename_i b h1
    cases e
    exact .inl (inT_ok hS h1 hx hy q)
  · split at e
    · rename_i b h1
      cases e
      obtain ⟨p, ds, h2, h3, h4, h5, h6⟩ := inB_ok hS h1 hx hy
      exact .inr ⟨p, ds, h2, h3, h4, h5, by rw [h6]; exact fin_bl hS q⟩
    · cases e
theorem or_in (hu : X.A.units + 65 < cLine) : OpR X (compareOp .In) (fun x y H Q => rIn X.K false x y H Q ∨ rInD X.K x y H Q) := op_in_seq.or (op_inD hu)
theorem or_notIn (hu : X.A.units + 65 < cLine) : OpR X (compareOp .NotIn) (fun x y H Q => rIn X.K true x y H Q ∨ rNotInD X.K x y H Q) := op_notIn_seq.or (op_notInD hu)
/-! ### is None, is True -/
def isN : D → Bool
  | .non => true
  | _ => false
def isF (neg : Bool) : D → D → Sto → Option (D × Sto)
  | x, .non, S => some (.bl (if neg then !isN x else isN x), S)
  | _, _, _ => none
theorem isN_ok {H m} {x : D} {v : V} (h : Rp K H m x v) : decide (v = V.non) = isN x := by
  cases x with
  | non => rw [Rp] at h; subst h; rfl
  | bl b => rw [Rp] at h; subst h; rfl
  | int b => rw [Rp] at h; subst h; rfl
  | str b => rw [Rp] at h; subst h; rfl
  | tup b => rw [Rp] at h; obtain ⟨_, _, rfl, _⟩ := h; rfl
  | rl b => rw [Rp] at h; obtain ⟨_, _, rfl, _⟩ := h; rfl
  | ref b => rw [Rp] at h; obtain ⟨_, _, rfl⟩ := h; rfl
  | gl b => rw [Rp] at h; obtain ⟨_, rfl, _⟩ := h; rfl
theorem isF_ok : FOk2 K (isF false) (fun x y H Q => y = .non ∧ Q (.bl (decide (x = .non))) H) := by
  intro x y S d S' e H m vx vy Q hS hx hy q
  unfold isF at e
  split at e
  · cases e
    rw [Rp] at hy
    exact ⟨hy, by rw [isN_ok hx]; exact fin_bl hS q⟩
  · cases e
theorem notF_ok : FOk2 K (isF true) (fun x y H Q => y = .non ∧ Q (.bl (!decide (x = .non))) H) := by
  intro x y S d S' e H m vx vy Q hS hx hy q
  unfold isF at e
  split at e
  · cases e
    rw [Rp] at hy
    exact ⟨hy, by rw [isN_ok hx]; exact fin_bl hS q⟩
  · cases e
end
end Ml
namespace Ml
open L2 PyProof.Rows PySem PySem.Spec
section
variable {tb : List NdefX.NTab} {X : Cx} {K : Kx} {a b c e : Expr} {es : List Expr} {ea eb ec : EvM} {pos : Pos}
/-! ### by place -/
theorem atI_rp {H m} {xs : List D} {vs : List V} {i : Int} {d : D} (h : Rps K H m xs vs) (e : atI xs i = some d) : ∃ v, atI vs i = some v ∧ Rp K H m d v := by
  unfold atI at e ⊢
  rw [h.length]
  cases hj : ixN xs.length i with
  | none => rw [hj] at e; cases e
  | some j =>
    rw [hj] at e
    exact h.get (by simpa using e)
def ixF : D → D → Sto → Option (D × Sto)
  | .tup xs, .int i, S => match atI xs i with
    | some d => some (d, S)
    | none => none
  | .ref n, .int i, S => match S[n]? with
    | some (.lst xs) => match atI xs i with
      | some d => some (d, S)
      | none => none
    | _ => none
  | .str z, .int i, S => if z.length ≤ sizeLine then match atI z.cps.toList i with
      | some c => some (.str ⟨#[c]⟩, S)
      | none => none
    else none
  | .rl xs, .int i, S => match atI xs i with
    | some d => some (d, S)
    | none => none
  | _, _, _ => none
theorem ixF_ok : FOk2 K ixF (rIx K.f) := by
  intro x y S d S' e H m vx vy Q hS hx hy q
  unfold ixF at e
  split at e
  · rename_i xs i
    split at e
    · rename_i d' h1
      cases e
      simp only [Rp] at hx hy
      obtain ⟨a, vs, rfl, ha, hv⟩ := hx
      obtain ⟨v, h2, h3⟩ := atI_rp hv h1
      exact .inr (.inl ⟨a, vs, i, v, rfl, hy, ha, h2, q v H m .refl hS h3⟩)
    · cases e
  · rename_i n i
    split at e
    · rename_i xs h1
      split at e
      · rename_i d' h2
        cases e
        simp only [Rp] at hx hy
        obtain ⟨a, ea, rfl⟩ := hx
        obtain ⟨a', vs, m1, k1, r1⟩ := hS.lst h1
        rw [ea] at m1; cases m1
        obtain ⟨v, h3, h4⟩ := atI_rp r1 h2
        exact .inl ⟨a, vs, i, v, rfl, hy, SqL.of k1, h3, q v H m .refl hS h4⟩
      · cases e
    · cases e
  · rename_i z i
    split at e
    · rename_i hz
      split at e
      · rename_i c h1
        cases e
        simp only [Rp] at hx hy
        exact .inr (.inr ⟨z, i, c, hx, hy, hz, h1, fin_str hS q⟩)
      · cases e
    · cases e
  · rename_i xs i
    split at e
    · rename_i d' h1
      cases e
      simp only [Rp] at hx hy
      obtain ⟨a, vs, rfl, ha, hv⟩ := hx
      obtain ⟨v, h2, h3⟩ := atI_rp hv h1
      exact .inl ⟨a, vs, i, v, rfl, hy, ha.sq, h2, q v H m .refl hS h3⟩
    · cases e
  · cases e
theorem me_ix (ha : ME tb X a ea) (hb : ME tb X b eb) (hs : PlainIx b := by exact fun _ _ => rfl) : ME tb X (.Subscript a b pos) (binM ixF ea eb) :=
  PE.imp (pe_ix ix_seq ha hb hs) fun _ _ _ h => bin_core ixF_ok h
/-! ### slices -/
abbrev OvM := Sl → Sto → Option (Option Int × Sto)
def tOM (K : Kx) (e : OvM) : TO := fun σ H Q => ∃ m S γ d S', SR K H m S ∧ SLR K H m γ σ ∧ e γ S = some (d, S') ∧ ∀ H' m', Ext K H m H' m' → SR K H' m' S' → Q d H'
abbrev MO (tb : List NdefX.NTab) (X : Cx) (e : Option Expr) (m : OvM) : Prop := PO X e (tOM (kx tb X) m)
def noM : OvM := fun _ S => some (none, S)
def partM (e : EvM) : OvM := fun γ S => match e γ S with
  | some (.int i, S') => some (some i, S')
  | _ => none
theorem PO.imp {e : Option Expr} {t t' : TO} (h : PO X e t) (hi : ∀ σ H Q, t' σ H Q → t σ H Q) : PO X e t' := ⟨fun pins s σ H Q I q => h.run pins s σ H Q I (hi σ H Q q)⟩
theorem mo_none : MO tb X none noM := PO.imp po_none fun σ H Q h => by
  obtain ⟨m, S, γ, d, S', hS, hγ, e1, q⟩ := h
  cases e1
  exact q H m .refl hS
theorem mo_some (h : ME tb X a ea) : MO tb X (some a) (partM ea) := PO.imp (po_some h) fun σ H Q h => by
  obtain ⟨m, S, γ, d, S', hS, hγ, e1, q⟩ := h
  unfold partM at e1
  split at e1
  · rename_i i S1 h1
    cases e1
    refine ⟨m, S, γ, _, _, hS, hγ, h1, fun w H' m' e2 hS' hw => ?_⟩
    rw [Rp] at hw
    exact ⟨_, hw, q H' m' e2 hS'⟩
  · cases e1
def cutX {α : Type} (xs : List α) (lo hi : Option Int) : List α := (xs.drop (HT.sIx xs.length 0 lo)).take (HT.sIx xs.length xs.length hi - HT.sIx xs.length 0 lo)
theorem cutX_rp {H m} {xs : List D} {vs : List V} (h : Rps K H m xs vs) (lo hi : Option Int) : Rps K H m (cutX xs lo hi) (cutV vs lo hi) := by
  unfold cutX cutV
  rw [h.length]
  exact (h.drop _).take _
theorem cutX_whole {α : Type} {xs : List α} {lo hi : Option Int} (h : HT.sIx xs.length 0 lo = 0 ∧ HT.sIx xs.length xs.length hi = xs.length) : cutX xs lo hi = xs := by
  unfold cutX
  rw [h.1, h.2]
  simp
def slF (x : D) (lo hi : Option Int) (S : Sto) : Option (D × Sto) := match x with
  | .tup xs => some (.tup (cutX xs lo hi), S)
  | .ref n => match S[n]? with
    | some (.lst xs) => some (.ref S.length, S ++ [.lst (cutX xs lo hi)])
    | _ => none
  | .str z => if z.length ≤ sizeLine then some (.str (cutS z lo hi), S) else none
  | _ => none
def slM (ea : EvM) (l h : OvM) : EvM := fun γ S => match ea γ S with
  | none => none
  | some (x, S1) => match l γ S1 with
    | none => none
    | some (lo, S2) => match h γ S2 with
      | none => none
      | some (hi, S3) => slF x lo hi S3
def rSlAll (K : PySem.W.Frag) : V → Option Int → Option Int → Hp → VK → Prop := fun x lo hi H Q => rSlA K x lo hi H Q ∨ rSlL K x lo hi H Q ∨ rSlS x lo hi H Q
theorem sl_all : SlR X (rSlAll X.K) := sl_tupA.or (sl_list.or sl_str)
theorem slF_ok {H m S x lo hi d S' vx} {Q : VK} (e : slF x lo hi S = some (d, S')) (hS : SR K H m S) (hx : Rp K H m x vx) (q : Fin K H m S' d Q) : rSlAll K.f vx lo hi H Q := by
  unfold slF at e
  split at e
  · rename_i xs
    cases e
    simp only [Rp] at hx
    obtain ⟨a, vs, rfl, ha, hv⟩ := hx
    refine .inl ⟨a, vs, rfl, ha, fun z => ?_, fun _ => fin_tup hS (cutX_rp hv lo hi) q⟩
    rw [hv.length] at z
    refine q _ H m .refl hS ?_
    rw [cutX_whole z, Rp]
    exact ⟨a, vs, rfl, ha, hv⟩
  · rename_i n
    split at e
    · rename_i xs h1
      cases e
      simp only [Rp] at hx
      obtain ⟨a, ea, rfl⟩ := hx
      obtain ⟨a', vs, m1, k1, r1⟩ := hS.lst h1
      rw [ea] at m1; cases m1
      exact .inr (.inl ⟨a, vs, rfl, SqL.of k1, fin_lst hS (cutX_rp r1 lo hi) q⟩)
    · cases e
  · rename_i z
    split at e
    · rename_i hz
      cases e
      simp only [Rp] at hx
      exact .inr (.inr ⟨z, hx, hz, fin_str hS q⟩)
    · cases e
  · cases e
theorem me_slice {lo hi : Option Expr} {l h : OvM} {p2 : Pos} (ha : ME tb X a ea) (hl : MO tb X lo l) (hh : MO tb X hi h) : ME tb X (.Subscript a (.Slice lo hi none p2) pos) (slM ea l h) := by
  refine PE.imp (pe_slice sl_all ha hl hh) fun σ H Q hw => ?_
  obtain ⟨m, S, γ, d, S', hS, hγ, e1, q⟩ := hw
  unfold slM at e1
  split at e1
  · cases e1
  · rename_i x S1 h1
    split at e1
    · cases e1
    · rename_i u S2 h2
      split at e1
      · cases e1
      · rename_i v S3 h3
        refine ⟨m, S, γ, x, S1, hS, hγ, h1, fun w H1 m1 x1 hS1 hx => ?_⟩
        refine ⟨m1, S1, γ, u, S2, hS1, hγ.mono x1, h2, fun H2 m2 x2 hS2 => ?_⟩
        refine ⟨m2, S2, γ, v, S3, hS2, (hγ.mono x1).mono x2, h3, fun H3 m3 x3 hS3 => ?_⟩
        exact slF_ok e1 hS3 ((hx.mono x2).mono x3) fun y H4 m4 x4 => q y H4 m4 (x1.trans (x2.trans (x3.trans x4)))
/-- xs[::-1] of a list -/
def revM (ea : EvM) : EvM := fun γ S => match ea γ S with
  | some (.ref n, S1) => match S1[n]? with
    | some (.lst xs) => some (.ref S1.length, S1 ++ [.lst xs.reverse])
    | _ => none
  | _ => none
theorem me_rev {k : Nat} {p1 p2 p3 : Pos} (ha : ME tb X a ea) : ME tb X (.Subscript a (.Slice none none (some (.UnaryOp .USub (.Constant (.int 1) k p1) p2)) p3) pos) (revM ea) := by
  refine PE.imp (pe_revL ha) fun σ H Q h => ?_
  obtain ⟨m, S, γ, d, S', hS, hγ, e1, q⟩ := h
  unfold revM at e1
  split at e1
  · rename_i n S1 h1
    split at e1
    · rename_i xs h2
      cases e1
      refine ⟨m, S, γ, _, _, hS, hγ, h1, fun w H1 m1 x1 hS1 hw => ?_⟩
      simp only [Rp] at hw
      obtain ⟨a, ea, rfl⟩ := hw
      obtain ⟨a', vs, m2, k1, r1⟩ := hS1.lst h2
      rw [ea] at m2; cases m2
      exact ⟨a, vs, rfl, SqL.of k1, fin_lst hS1 r1.reverse fun y H4 m4 x4 => q y H4 m4 (x1.trans x4)⟩
    · cases e1
  · cases e1
/-! ### arguments, displays -/
def nilA : AvM := fun _ S => some ([], S)
def consA (e : EvM) (r : AvM) : AvM := fun γ S => match e γ S with
  | none => none
  | some (x, S1) => match r γ S1 with
    | none => none
    | some (xs, S2) => some (x :: xs, S2)
theorem tnil_core {σ : L2.St} {H : Hp} {Q : List V → Hp → Prop} (h : tAM K nilA σ H Q) : tNil σ H Q := by
  obtain ⟨m, S, γ, d, S', hS, hγ, e1, q⟩ := h
  cases e1
  exact q [] H m .refl hS Rps.nil
theorem tcons_core {ra : AvM} {σ : L2.St} {H : Hp} {Q : List V → Hp → Prop} (h : tAM K (consA ea ra) σ H Q) : tCons (tM K ea) (tAM K ra) σ H Q := by
  obtain ⟨m, S, γ, d, S', hS, hγ, e1, q⟩ := h
  unfold consA at e1
  split at e1
  · cases e1
  · rename_i x S1 h1
    split at e1
    · cases e1
    · rename_i xs S2 h2
      cases e1
      refine ⟨m, S, γ, x, S1, hS, hγ, h1, fun w H1 m1 x1 hS1 hw => ?_⟩
      refine ⟨m1, S1, γ, xs, _, hS1, hγ.mono x1, h2, fun ws H2 m2 x2 hS2 hws => ?_⟩
      exact q _ H2 m2 (x1.trans x2) hS2 (Rps.cons (hw.mono x2) hws)
theorem ma_nil : MA tb X [] nilA := PA.imp pa_nil fun _ _ _ h => tnil_core h
theorem ma_cons {ra : AvM} (ha : ME tb X e ea) (hr : MA tb X es ra) (hs : starEach (e :: es) X.env = (false, eval e X.env) :: starEach es X.env := by rfl) : MA tb X (e :: es) (consA ea ra) :=
  PA.imp (pa_cons ha hr hs) fun _ _ _ h => tcons_core h
theorem mk_nil : MK tb X [] nilA := PK.imp pk_nil fun _ _ _ h => tnil_core h
theorem mk_cons {kws : List Keyword} {nm : Option Str} {kpos : Pos} {ra : AvM} (ha : ME tb X e ea) (hr : MK tb X kws ra) : MK tb X (⟨nm, e, kpos⟩ :: kws) (consA ea ra) :=
  PK.imp (pk_cons ha hr) fun _ _ _ h => tcons_core h
def tupM (r : AvM) : EvM := fun γ S => match r γ S with
  | some (xs, S') => if xs.length ≤ sizeLine then some (.tup xs, S') else none
  | none => none
def lstM (r : AvM) : EvM := fun γ S => match r γ S with
  | some (xs, S') => if xs.length ≤ sizeLine then some (.ref S'.length, S' ++ [.lst xs]) else none
  | none => none
theorem me_tup {x1 : Nat} {r : AvM} (h : MA tb X es r) : ME tb X (.Tuple es x1 pos) (tupM r) := by
  refine PE.imp (pe_tup h) fun σ H Q hw => ?_
  obtain ⟨m, S, γ, d, S', hS, hγ, e1, q⟩ := hw
  unfold tupM at e1
  split at e1
  · rename_i xs S1 h1
    split at e1
    · rename_i hz
      cases e1
      refine ⟨m, S, γ, xs, _, hS, hγ, h1, fun vs H1 m1 x1 hS1 hv => ⟨by rw [hv.length]; exact hz, ?_⟩⟩
      exact fin_tup hS1 hv fun y H4 m4 x4 => q y H4 m4 (x1.trans x4)
    · cases e1
  · cases e1
theorem me_lst {r : AvM} (h : MA tb X es r) : ME tb X (.List es pos) (lstM r) := by
  refine PE.imp (pe_lst h) fun σ H Q hw => ?_
  obtain ⟨m, S, γ, d, S', hS, hγ, e1, q⟩ := hw
  unfold lstM at e1
  split at e1
  · rename_i xs S1 h1
    split at e1
    · rename_i hz
      cases e1
      refine ⟨m, S, γ, xs, _, hS, hγ, h1, fun vs H1 m1 x1 hS1 hv => ⟨by rw [hv.length]; exact hz, ?_⟩⟩
      exact fin_lst hS1 hv fun y H4 m4 x4 => q y H4 m4 (x1.trans x4)
    · cases e1
  · cases e1
/-! ### truth -/
def truB (S : Sto) : D → Option Bool
  | .non => some false
  | .bl b => some b
  | .int i => some (i != 0)
  | .str z => if z.length ≤ sizeLine then some ((z.length : Int) != 0) else none
  | .tup xs => some (!xs.isEmpty)
  | .rl _ => none
  | .gl _ => none
  | .ref n => match S[n]? with
    | some (.lst xs) => some (!xs.isEmpty)
    | some (.dk kvs) => some (!kvs.isEmpty)
    | _ => none
theorem isEmpty_rps {H m} {xs : List D} {vs : List V} (h : Rps K H m xs vs) : vs.isEmpty = xs.isEmpty := by
  have := h.length
  cases xs <;> cases vs <;> simp_all
theorem truB_ok {H m S d b v} (hS : SR K H m S) (h : Rp K H m d v) (e : truB S d = some b) : TruV K.f v H b := by
  unfold truB at e
  split at e
  · cases e; rw [Rp] at h; subst h; rfl
  · cases e; rw [Rp] at h; subst h; rfl
  · cases e; rw [Rp] at h; subst h; rfl
  · split at e
    · rename_i hz
      cases e; rw [Rp] at h; subst h; exact ⟨hz, rfl⟩
    · cases e
  · rename_i xs
    cases e
    rw [Rp] at h
    obtain ⟨a, vs, rfl, ha, hv⟩ := h
    exact .inr (.inl ⟨vs, ha, by rw [isEmpty_rps hv]⟩)
  · cases e
  · cases e
  · rename_i n
    rw [Rp] at h
    obtain ⟨a, ea, rfl⟩ := h
    split at e
    · rename_i xs h1
      cases e
      obtain ⟨a', vs, m1, k1, r1⟩ := hS.lst h1
      rw [ea] at m1; cases m1
      exact .inl ⟨vs, SqL.of k1, by rw [isEmpty_rps r1]⟩
    · rename_i kvs h1
      cases e
      obtain ⟨a', m1, ws, k1, r1⟩ := hS.addr h1
      rw [ea] at m1; cases m1
      refine .inr (.inr ⟨ws, k1, ?_⟩)
      cases r1 <;> rfl
    · cases e
def truC (e : EvM) : CvM := fun γ S => match e γ S with
  | none => none
  | some (d, S') => match truB S' d with
    | some b => some (b, S')
    | none => none
theorem mt_truth (ha : ME tb X a ea) (he : ∀ whole, isTrue a X.env whole = (do let v ← whole; standAt a.pos; holding [v] (truthy v)) := by intro _; rfl) : MT tb X a (truC ea) := by
  refine PT.imp (pt_truth ha he) fun σ H Q h => ?_
  obtain ⟨m, S, γ, b, S', hS, hγ, e1, q⟩ := h
  unfold truC at e1
  split at e1
  · cases e1
  · rename_i d S1 h1
    split at e1
    · rename_i b' h2
      cases e1
      exact ⟨m, S, γ, d, _, hS, hγ, h1, fun w H1 m1 x1 hS1 hw => ⟨_, truB_ok hS1 hw h2, q H1 m1 x1 hS1⟩⟩
    · cases e1
def notC (c : CvM) : CvM := fun γ S => match c γ S with
  | some (b, S') => some (!b, S')
  | none => none
def andC (c d : CvM) : CvM := fun γ S => match c γ S with
  | some (true, S') => d γ S'
  | some (false, S') => some (false, S')
  | none => none
def orC (c d : CvM) : CvM := fun γ S => match c γ S with
  | some (true, S') => some (true, S')
  | some (false, S') => d γ S'
  | none => none
variable {ca cb : CvM} {rest : List Expr}
theorem mt_not (ha : MT tb X a ca) : MT tb X (.UnaryOp .Not a pos) (notC ca) := by
  refine PT.imp (pt_not ha) fun σ H Q h => ?_
  obtain ⟨m, S, γ, b, S', hS, hγ, e1, q⟩ := h
  unfold notC at e1
  split at e1
  · rename_i b' S1 h1
    cases e1
    exact ⟨m, S, γ, b', _, hS, hγ, h1, fun H1 m1 x1 hS1 => q H1 m1 x1 hS1⟩
  · cases e1
theorem mw_and1 (ha : MT tb X a ca) : MW tb X (.BoolOp .And [a] pos) ca := pw_and1 ha
theorem mw_or1 (ha : MT tb X a ca) : MW tb X (.BoolOp .Or [a] pos) ca := pw_or1 ha
theorem and_core {σ : L2.St} {H : Hp} {Q : Bool → Hp → Prop} (h : tTM K (andC ca cb) σ H Q) : tAnd (tTM K ca) (tTM K cb) σ H Q := by
  obtain ⟨m, S, γ, b, S', hS, hγ, e1, q⟩ := h
  unfold andC at e1
  split at e1
  · rename_i S1 h1
    refine ⟨m, S, γ, true, _, hS, hγ, h1, fun H1 m1 x1 hS1 => ?_⟩
    refine iteT ?_
    exact ⟨m1, _, γ, b, S', hS1, hγ.mono x1, e1, fun H2 m2 x2 hS2 => q H2 m2 (x1.trans x2) hS2⟩
  · rename_i S1 h1
    cases e1
    refine ⟨m, S, γ, false, _, hS, hγ, h1, fun H1 m1 x1 hS1 => ?_⟩
    refine iteF ?_
    exact q H1 m1 x1 hS1
  · cases e1
theorem or_core {σ : L2.St} {H : Hp} {Q : Bool → Hp → Prop} (h : tTM K (orC ca cb) σ H Q) : tOr (tTM K ca) (tTM K cb) σ H Q := by
  obtain ⟨m, S, γ, b, S', hS, hγ, e1, q⟩ := h
  unfold orC at e1
  split at e1
  · rename_i S1 h1
    cases e1
    refine ⟨m, S, γ, true, _, hS, hγ, h1, fun H1 m1 x1 hS1 => ?_⟩
    refine iteT ?_
    exact q H1 m1 x1 hS1
  · rename_i S1 h1
    refine ⟨m, S, γ, false, _, hS, hγ, h1, fun H1 m1 x1 hS1 => ?_⟩
    refine iteF ?_
    exact ⟨m1, _, γ, b, S', hS1, hγ.mono x1, e1, fun H2 m2 x2 hS2 => q H2 m2 (x1.trans x2) hS2⟩
  · cases e1
theorem mw_and (ha : MT tb X a ca) (hb : MW tb X (.BoolOp .And (b :: rest) pos) cb) : MW tb X (.BoolOp .And (a :: b :: rest) pos) (andC ca cb) :=
  PW.imp (pw_and ha hb) fun _ _ _ h => and_core h
theorem mw_or (ha : MT tb X a ca) (hb : MW tb X (.BoolOp .Or (b :: rest) pos) cb) : MW tb X (.BoolOp .Or (a :: b :: rest) pos) (orC ca cb) :=
  PW.imp (pw_or ha hb) fun _ _ _ h => or_core h
/-- .. as values, all but the last one bools -/
def andV (ea eb : EvM) : EvM := fun γ S => match ea γ S with
  | some (.bl true, S') => eb γ S'
  | some (.bl false, S') => some (.bl false, S')
  | _ => none
def orV (ea eb : EvM) : EvM := fun γ S => match ea γ S with
  | some (.bl true, S') => some (.bl true, S')
  | some (.bl false, S') => eb γ S'
  | _ => none
def notV (ea : EvM) : EvM := fun γ S => match ea γ S with
  | some (.bl b, S') => some (.bl (!b), S')
  | _ => none
theorem me_one {op : BoolOp} (h : ME tb X a ea) : ME tb X (.BoolOp op [a] pos) ea := pe_one h
theorem me_and (ha : ME tb X a ea) (hb : ME tb X (.BoolOp .And (b :: rest) pos) eb) : ME tb X (.BoolOp .And (a :: b :: rest) pos) (andV ea eb) := by
  refine PE.imp (pe_and ha hb) fun σ H Q h => ?_
  obtain ⟨m, S, γ, b, S', hS, hγ, e1, q⟩ := h
  unfold andV at e1
  split at e1
  · rename_i S1 h1
    refine ⟨m, S, γ, _, _, hS, hγ, h1, fun w H1 m1 x1 hS1 hw => ⟨true, by rw [Rp] at hw; exact hw, ?_⟩⟩
    refine iteT ?_
    exact ⟨m1, _, γ, b, S', hS1, hγ.mono x1, e1, fun w H2 m2 x2 => q w H2 m2 (x1.trans x2)⟩
  · rename_i S1 h1
    cases e1
    refine ⟨m, S, γ, _, _, hS, hγ, h1, fun w H1 m1 x1 hS1 hw => ⟨false, by rw [Rp] at hw; exact hw, ?_⟩⟩
    refine iteF ?_
    exact q _ H1 m1 x1 hS1 (by rw [Rp])
  · cases e1
theorem me_or (ha : ME tb X a ea) (hb : ME tb X (.BoolOp .Or (b :: rest) pos) eb) : ME tb X (.BoolOp .Or (a :: b :: rest) pos) (orV ea eb) := by
  refine PE.imp (pe_or ha hb) fun σ H Q h => ?_
  obtain ⟨m, S, γ, b, S', hS, hγ, e1, q⟩ := h
  unfold orV at e1
  split at e1
  · rename_i S1 h1
    cases e1
    refine ⟨m, S, γ, _, _, hS, hγ, h1, fun w H1 m1 x1 hS1 hw => ⟨true, by rw [Rp] at hw; exact hw, ?_⟩⟩
    refine iteT ?_
    exact q _ H1 m1 x1 hS1 (by rw [Rp])
  · rename_i S1 h1
    refine ⟨m, S, γ, _, _, hS, hγ, h1, fun w H1 m1 x1 hS1 hw => ⟨false, by rw [Rp] at hw; exact hw, ?_⟩⟩
    refine iteF ?_
    exact ⟨m1, _, γ, b, S', hS1, hγ.mono x1, e1, fun w H2 m2 x2 => q w H2 m2 (x1.trans x2)⟩
  · cases e1
theorem me_not (ha : ME tb X a ea) : ME tb X (.UnaryOp .Not a pos) (notV ea) := by
  refine PE.imp (pe_not ha) fun σ H Q h => ?_
  obtain ⟨m, S, γ, b, S', hS, hγ, e1, q⟩ := h
  unfold notV at e1
  split at e1
  · rename_i k S1 h1
    cases e1
    exact ⟨m, S, γ, _, _, hS, hγ, h1, fun w H1 m1 x1 hS1 hw => ⟨k, by rw [Rp] at hw; exact hw, q _ H1 m1 x1 hS1 (by rw [Rp])⟩⟩
  · cases e1
/-- a if t else b -/
def ifM (c : CvM) (ea eb : EvM) : EvM := fun γ S => match c γ S with
  | some (true, S') => ea γ S'
  | some (false, S') => eb γ S'
  | none => none
theorem me_if (hc : MT tb X c ca) (ha : ME tb X a ea) (hb : ME tb X b eb) : ME tb X (.IfExp c a b pos) (ifM ca ea eb) := by
  refine PE.imp (pe_ifExp hc ha hb) fun σ H Q h => ?_
  obtain ⟨m, S, γ, d, S', hS, hγ, e1, q⟩ := h
  unfold ifM at e1
  split at e1
  · rename_i S1 h1
    refine ⟨m, S, γ, true, _, hS, hγ, h1, fun H1 m1 x1 hS1 => ?_⟩
    refine iteT ?_
    exact ⟨m1, _, γ, d, S', hS1, hγ.mono x1, e1, fun w H2 m2 x2 => q w H2 m2 (x1.trans x2)⟩
  · rename_i S1 h1
    refine ⟨m, S, γ, false, _, hS, hγ, h1, fun H1 m1 x1 hS1 => ?_⟩
    refine iteF ?_
    exact ⟨m1, _, γ, d, S', hS1, hγ.mono x1, e1, fun w H2 m2 x2 => q w H2 m2 (x1.trans x2)⟩
  · cases e1
/-! ### calls of built-ins -/
def FOkN (K : Kx) (F : List D → Sto → Option (D × Sto)) (r : List V → Hp → VK → Prop) : Prop :=
  ∀ xs S d S', F xs S = some (d, S') → ∀ H m vs Q, SR K H m S → Rps K H m xs vs → Fin K H m S' d Q → r vs H Q
def appM (F : List D → Sto → Option (D × Sto)) (r : AvM) : EvM := fun γ S => match r γ S with
  | some (xs, S') => F xs S'
  | none => none
theorem app_core {F : List D → Sto → Option (D × Sto)} {r : List V → Hp → VK → Prop} {ra : AvM} (hF : FOkN K F r) {σ : L2.St} {H : Hp} {Q : VK} (h : tM K (appM F ra) σ H Q) : tAM K ra σ H fun vs H1 => r vs H1 Q := by
  obtain ⟨m, S, γ, d, S', hS, hγ, e1, q⟩ := h
  unfold appM at e1
  split at e1
  · rename_i xs S1 h1
    exact ⟨m, S, γ, xs, S1, hS, hγ, h1, fun vs H1 m1 x1 hS1 hv => hF xs S1 d S' e1 H1 m1 vs Q hS1 hv fun w H2 m2 x2 => q w H2 m2 (x1.trans x2)⟩
  · cases e1
variable {x : Str} {p : Pos} {ra : AvM} {F : List D → Sto → Option (D × Sto)} {r : List V → Hp → VK → Prop}
theorem me_callB {id : String} (hc : CallR X (.builtin id) r) (hF : FOkN (kx tb X) F r) (hg : Gl X x) (hm : X.mg x = none) (hv : bootBuiltins x = some (.builtin id)) (ha : MA tb X (e :: es) ra) (hn : x ≠ "__name__" := by decide) (hdb : (x == ("__debug__" : Str)) = false := by decide)
    (he : starEach (e :: es) X.env = (false, eval e X.env) :: starEach es X.env := by rfl) (hpl : (backTo pos (starEach es X.env)).any (·.1) = false := by rfl) : ME tb X (.Call (.Name x p) (e :: es) [] pos) (appM F ra) :=
  PE.imp (pe_callB hc hg hm hv ha hn hdb he hpl) fun _ _ _ h => app_core hF h
theorem me_callTy {T : String} (hc : CallR X (.type T) r) (hF : FOkN (kx tb X) F r) (hg : Gl X x) (hm : X.mg x = none) (hv : bootBuiltins x = some (.type T)) (ha : MA tb X (e :: es) ra) (hn : x ≠ "__name__" := by decide) (hdb : (x == ("__debug__" : Str)) = false := by decide)
    (he : starEach (e :: es) X.env = (false, eval e X.env) :: starEach es X.env := by rfl) (hpl : (backTo pos (starEach es X.env)).any (·.1) = false := by rfl) : ME tb X (.Call (.Name x p) (e :: es) [] pos) (appM F ra) :=
  PE.imp (pe_callTy hc hg hm hv ha hn hdb he hpl) fun _ _ _ h => app_core hF h
end
end Ml
namespace Ml
open L2 PyProof.Rows PySem PySem.Spec
section
variable {tb : List NdefX.NTab} {X : Cx} {K : Kx} {a b c e : Expr} {es : List Expr} {ea eb ec : EvM} {pos : Pos}
/-! ### built-ins -/
def lenF : List D → Sto → Option (D × Sto)
  | [.str z], S => if z.length ≤ sizeLine then some (.int z.length, S) else none
  | [.tup xs], S => some (.int xs.length, S)
  | [.rl xs], S => some (.int xs.length, S)
  | [.ref n], S => match S[n]? with
    | some (.lst xs) => some (.int xs.length, S)
    | _ => none
  | _, _ => none
theorem Rps.one_iff {H m} {x : D} {vs : List V} (h : Rps K H m [x] vs) : ∃ v, vs = [v] ∧ Rp K H m x v := by
  simp only [Rps] at h
  obtain ⟨v, r, rfl, h1, rfl⟩ := h
  exact ⟨v, rfl, h1⟩
theorem Rps.two_iff {H m} {x y : D} {vs : List V} (h : Rps K H m [x, y] vs) : ∃ v w, vs = [v, w] ∧ Rp K H m x v ∧ Rp K H m y w := by
  simp only [Rps] at h
  obtain ⟨v, r, rfl, h1, w, r', rfl, h2, rfl⟩ := h
  exact ⟨v, w, rfl, h1, h2⟩
theorem lenF_ok : FOkN K lenF (fun xs H Q => ∃ x n, xs = [x] ∧ LenV K.f x H n ∧ Q (.int n) H) := by
  intro xs S d S' e H m vs Q hS hx q
  unfold lenF at e
  split at e
  · split at e
    · rename_i z hz
      cases e
      obtain ⟨v, rfl, h1⟩ := hx.one_iff
      rw [Rp] at h1; subst h1
      exact ⟨_, z.length, rfl, ⟨hz, rfl⟩, fin_int hS q⟩
    · cases e
  · rename_i xs
    cases e
    obtain ⟨v, rfl, h1⟩ := hx.one_iff
    rw [Rp] at h1
    obtain ⟨a, ws, rfl, ha, hv⟩ := h1
    exact ⟨_, xs.length, rfl, .inr ⟨ws, ha, hv.length.symm⟩, fin_int hS q⟩
  · rename_i xs
    cases e
    obtain ⟨v, rfl, h1⟩ := hx.one_iff
    rw [Rp] at h1
    obtain ⟨a, ws, rfl, ha, hv⟩ := h1
    exact ⟨_, xs.length, rfl, .inl ⟨ws, ha.sq, hv.length.symm⟩, fin_int hS q⟩
  · rename_i n
    split at e
    · rename_i xs h2
      cases e
      obtain ⟨v, rfl, h1⟩ := hx.one_iff
      rw [Rp] at h1
      obtain ⟨a, ea, rfl⟩ := h1
      obtain ⟨a', ws, m1, k1, r1⟩ := hS.lst h2
      rw [ea] at m1; cases m1
      exact ⟨_, xs.length, rfl, .inl ⟨ws, SqL.of k1, r1.length.symm⟩, fin_int hS q⟩
    · cases e
  · cases e
def intF : List D → Sto → Option (D × Sto)
  | [.int i], S => some (.int i, S)
  | [.bl k], S => some (.int (if k then 1 else 0), S)
  | _, _ => none
theorem intF_ok : FOkN K intF (fun xs H Q => (∃ i, xs = [.int i] ∧ Q (.int i) H) ∨ ∃ k, xs = [.bl k] ∧ Q (.int (if k then 1 else 0)) H) := by
  intro xs S d S' e H m vs Q hS hx q
  unfold intF at e
  split at e
  · cases e
    obtain ⟨v, rfl, h1⟩ := hx.one_iff
    rw [Rp] at h1; subst h1
    exact .inl ⟨_, rfl, fin_int hS q⟩
  · cases e
    obtain ⟨v, rfl, h1⟩ := hx.one_iff
    rw [Rp] at h1; subst h1
    exact .inr ⟨_, rfl, fin_int hS q⟩
  · cases e
def absF : List D → Sto → Option (D × Sto)
  | [.int i], S => some (.int (if i < 0 then -i else i), S)
  | _, _ => none
theorem absF_ok : FOkN K absF (fun xs H Q => ∃ i, xs = [.int i] ∧ Q (.int (if i < 0 then -i else i)) H) := by
  intro xs S d S' e H m vs Q hS hx q
  unfold absF at e
  split at e
  · cases e
    obtain ⟨v, rfl, h1⟩ := hx.one_iff
    rw [Rp] at h1; subst h1
    exact ⟨_, rfl, fin_int hS q⟩
  · cases e
def maxF : List D → Sto → Option (D × Sto)
  | [.int i, .int j], S => some (.int (if j > i then j else i), S)
  | _, _ => none
def minF : List D → Sto → Option (D × Sto)
  | [.int i, .int j], S => some (.int (if j < i then j else i), S)
  | _, _ => none
theorem maxF_ok : FOkN K maxF (fun xs H Q => ∃ i j, xs = [.int i, .int j] ∧ Q (.int (if j > i then j else i)) H) := by
  intro xs S d S' e H m vs Q hS hx q
  unfold maxF at e
  split at e
  · cases e
    obtain ⟨v, w, rfl, h1, h2⟩ := hx.two_iff
    simp only [Rp] at h1 h2; subst h1; subst h2
    exact ⟨_, _, rfl, fin_int hS q⟩
  · cases e
theorem minF_ok : FOkN K minF (fun xs H Q => ∃ i j, xs = [.int i, .int j] ∧ Q (.int (if j < i then j else i)) H) := by
  intro xs S d S' e H m vs Q hS hx q
  unfold minF at e
  split at e
  · cases e
    obtain ⟨v, w, rfl, h1, h2⟩ := hx.two_iff
    simp only [Rp] at h1 h2; subst h1; subst h2
    exact ⟨_, _, rfl, fin_int hS q⟩
  · cases e
def strF : List D → Sto → Option (D × Sto)
  | [.int i], S => if i.natAbs.log2 < 1920 then some (.str (toString i), S) else none
  | _, _ => none
theorem strF_ok : FOkN K strF (fun xs H Q => ∃ i, xs = [.int i] ∧ i.natAbs.log2 < 1920 ∧ Q (.str (toString i)) H) := by
  intro xs S d S' e H m vs Q hS hx q
  unfold strF at e
  split at e
  · split at e
    · rename_i i hz
      cases e
      obtain ⟨v, rfl, h1⟩ := hx.one_iff
      rw [Rp] at h1; subst h1
      exact ⟨_, rfl, hz, fin_str hS q⟩
    · cases e
  · cases e
def listF : List D → Sto → Option (D × Sto)
  | [.tup xs], S => some (.ref S.length, S ++ [.lst xs])
  | [.ref n], S => match S[n]? with
    | some (.lst xs) => some (.ref S.length, S ++ [.lst xs])
    | _ => none
  | _, _ => none
theorem listF_ok : FOkN K listF (fun xs H Q => ∃ p ys, xs = [.ref p] ∧ (SqL K.f H p ys ∨ SqT K.f H p ys) ∧ ∀ l, H l = none → Q (.ref l) (upd H l (.lst ys))) := by
  intro xs S d S' e H m vs Q hS hx q
  unfold listF at e
  split at e
  · cases e
    obtain ⟨v, rfl, h1⟩ := hx.one_iff
    rw [Rp] at h1
    obtain ⟨a, ws, rfl, ha, hv⟩ := h1
    exact ⟨a, ws, rfl, .inr ha, fin_lst hS hv q⟩
  · rename_i n
    split at e
    · rename_i xs h2
      cases e
      obtain ⟨v, rfl, h1⟩ := hx.one_iff
      rw [Rp] at h1
      obtain ⟨a, ea, rfl⟩ := h1
      obtain ⟨a', ws, m1, k1, r1⟩ := hS.lst h2
      rw [ea] at m1; cases m1
      exact ⟨a, ws, rfl, .inl (SqL.of k1), fin_lst hS r1 q⟩
    · cases e
  · cases e
def tupleF : List D → Sto → Option (D × Sto)
  | [.tup xs], S => some (.tup xs, S)
  | [.ref n], S => match S[n]? with
    | some (.lst xs) => some (.tup xs, S)
    | _ => none
  | _, _ => none
theorem tupleF_ok : FOkN K tupleF (fun xs H Q => ∃ p ys, xs = [.ref p] ∧ ((SqL K.f H p ys ∧ ∀ l, H l = none → Q (.ref l) (upd H l (.tup ys))) ∨ (SqT K.f H p ys ∧ Q (.ref p) H))) := by
  intro xs S d S' e H m vs Q hS hx q
  unfold tupleF at e
  split at e
  · cases e
    obtain ⟨v, rfl, h1⟩ := hx.one_iff
    rw [Rp] at h1
    obtain ⟨a, ws, rfl, ha, hv⟩ := h1
    exact ⟨a, ws, rfl, .inr ⟨ha, q _ H m .refl hS (by rw [Rp]; exact ⟨a, ws, rfl, ha, hv⟩)⟩⟩
  · rename_i n
    split at e
    · rename_i xs h2
      cases e
      obtain ⟨v, rfl, h1⟩ := hx.one_iff
      rw [Rp] at h1
      obtain ⟨a, ea, rfl⟩ := h1
      obtain ⟨a', ws, m1, k1, r1⟩ := hS.lst h2
      rw [ea] at m1; cases m1
      exact ⟨a, ws, rfl, .inl ⟨SqL.of k1, fin_tup hS r1 q⟩⟩
    · cases e
  · cases e
/-- the truths of a list of bools -/
def blsD : List D → Option (List Bool)
  | [] => some []
  | .bl b :: r => match blsD r with
    | some bs => some (b :: bs)
    | none => none
  | _ :: _ => none
theorem blsD_ok {H m} : ∀ {xs : List D} {vs : List V} {bs : List Bool}, Rps K H m xs vs → blsD xs = some bs → vs = bs.map V.bl
  | [], vs, bs, h, e => by rw [Rps] at h; cases e; subst h; rfl
  | x :: xs, vs, bs, h, e => by
    rw [Rps] at h
    obtain ⟨w, r, rfl, h1, h2⟩ := h
    cases x <;> simp only [blsD, reduceCtorEq] at e
    split at e
    · rename_i bs' h3
      cases e
      rw [Rp] at h1; subst h1
      rw [blsD_ok h2 h3]; rfl
    · cases e
def allF : List D → Sto → Option (D × Sto)
  | [.ref n], S => match S[n]? with
    | some (.lst xs) => match blsD xs with
      | some bs => some (.bl (bs.all id), S)
      | none => none
    | _ => none
  | _, _ => none
def anyF : List D → Sto → Option (D × Sto)
  | [.ref n], S => match S[n]? with
    | some (.lst xs) => match blsD xs with
      | some bs => some (.bl (bs.any id), S)
      | none => none
    | _ => none
  | _, _ => none
theorem allF_ok : FOkN K allF (rAll K.f) := by
  intro xs S d S' e H m vs Q hS hx q
  unfold allF at e
  split at e
  · rename_i n
    split at e
    · rename_i xs h2
      split at e
      · rename_i bs h3
        cases e
        obtain ⟨v, rfl, h1⟩ := hx.one_iff
        rw [Rp] at h1
        obtain ⟨a, ea, rfl⟩ := h1
        obtain ⟨a', ws, m1, k1, r1⟩ := hS.lst h2
        rw [ea] at m1; cases m1
        exact ⟨a, bs, rfl, by rw [← blsD_ok r1 h3]; exact SqL.of k1, fin_bl hS q⟩
      · cases e
    · cases e
  · cases e
theorem anyF_ok : FOkN K anyF (rAny K.f) := by
  intro xs S d S' e H m vs Q hS hx q
  unfold anyF at e
  split at e
  · rename_i n
    split at e
    · rename_i xs h2
      split at e
      · rename_i bs h3
        cases e
        obtain ⟨v, rfl, h1⟩ := hx.one_iff
        rw [Rp] at h1
        obtain ⟨a, ea, rfl⟩ := h1
        obtain ⟨a', ws, m1, k1, r1⟩ := hS.lst h2
        rw [ea] at m1; cases m1
        exact ⟨a, bs, rfl, by rw [← blsD_ok r1 h3]; exact SqL.of k1, fin_bl hS q⟩
      · cases e
    · cases e
  · cases e
/-! ### isinstance -/
/-- the name of a value's type -/
def tyN (S : Sto) : D → Option String
  | .non => some "NoneType"
  | .bl _ => some "bool"
  | .int _ => some "int"
  | .str _ => some "str"
  | .tup _ => some "tuple"
  | .rl _ => none
  | .gl _ => none
  | .ref n => match S[n]? with
    | some (O.lst _) => some "list"
    | some (.dk _) => some "dict"
    | _ => none
theorem tyN_ok {H m S d t v} (hS : SR K H m S) (h : Rp K H m d v) (e : tyN S d = some t) : TyX K.f H v (.type t) := by
  unfold tyN at e
  split at e
  · cases e; rw [Rp] at h; subst h; exact .base .non
  · cases e; rw [Rp] at h; subst h; exact .base (.bl _)
  · cases e; rw [Rp] at h; subst h; exact .base (.int _)
  · cases e; rw [Rp] at h; subst h; exact .base (.str _)
  · cases e
    rw [Rp] at h
    obtain ⟨a, vs, rfl, ha, _⟩ := h
    rcases ha with (ha | ⟨o, ha⟩) | ⟨o, its, n, h1, h2, _⟩
    · exact .base (.tup ha)
    · exact .fTuple ha
    · exact .kTuple h1 h2
  · cases e
  · cases e
  · rw [Rp] at h
    obtain ⟨a, ea, rfl⟩ := h
    split at e
    · rename_i xs h1
      cases e
      obtain ⟨a', vs, m1, k1, r1⟩ := hS.lst h1
      rw [ea] at m1; cases m1
      exact .base (.lst k1)
    · rename_i kvs h1
      cases e
      obtain ⟨a', m1, ws, k1, r1⟩ := hS.addr h1
      rw [ea] at m1; cases m1
      exact .base (.dK k1)
    · cases e
def isiM (T : String) (ea : EvM) : EvM := fun γ S => match ea γ S with
  | none => none
  | some (d, S') => match tyN S' d with
    | some t => match kitB t T with
      | some b => some (.bl b, S')
      | none => none
    | none => none
theorem me_isi {x : Str} {p p2 : Pos} {T : String} {y : Str} (hg : Gl X x) (hm : X.mg x = none) (hv : bootBuiltins x = some (.builtin "isinstance")) (ha : ME tb X a ea) (ht : PE X (.Name y p2) (tC (.ty T))) (hn : x ≠ "__name__" := by decide) (hdb : (x == ("__debug__" : Str)) = false := by decide)
    (hs : starEach [a, .Name y p2] X.env = (false, eval a X.env) :: starEach [.Name y p2] X.env := by rfl) (hpl : (backTo pos (starEach [.Name y p2] X.env)).any (·.1) = false := by rfl) (hs2 : starEach [.Name y p2] X.env = (false, eval (.Name y p2) X.env) :: starEach [] X.env := by rfl) :
    ME tb X (.Call (.Name x p) [a, .Name y p2] [] pos) (isiM T ea) := by
  refine PE.imp (pe_callB call_isi hg hm hv (pa_cons ha (pa_cons ht pa_nil hs2) hs) hn hdb hs hpl) fun σ H Q h => ?_
  obtain ⟨m, S, γ, d, S', hS, hγ, e1, q⟩ := h
  unfold isiM at e1
  split at e1
  · cases e1
  · rename_i d' S1 h1
    split at e1
    · rename_i t h2
      split at e1
      · rename_i b h3
        cases e1
        refine ⟨m, S, γ, d', _, hS, hγ, h1, fun w H1 m1 x1 hS1 hw => ?_⟩
        exact ⟨w, .ty T, .type t, .type T, b, rfl, .ty T, tyN_ok hS1 hw h2, kit_ty h3, q _ H1 m1 x1 hS1 (by rw [Rp])⟩
      · cases e1
    · cases e1
/-! ### methods -/
def FOkM (K : Kx) (F : D → List D → Sto → Option (D × Sto)) (r : V → List V → Hp → VK → Prop) : Prop :=
  ∀ x xs S d S', F x xs S = some (d, S') → ∀ H m vx vs Q, SR K H m S → Rp K H m x vx → Rps K H m xs vs → Fin K H m S' d Q → r vx vs H Q
def tyB (T : String) (S : Sto) : D → Bool
  | .str _ => T == "str"
  | .ref n => match S[n]? with
    | some (.lst _) => T == "list"
    | some (.dk _) => T == "dict"
    | _ => false
  | _ => false
theorem tyB_ok {H m S T d v} (hS : SR K H m S) (h : Rp K H m d v) (e : tyB T S d = true) : tyV K.f T v H := by
  unfold tyB at e
  split at e
  · rw [Rp] at h; subst h
    exact (beq_iff_eq.mp e)
  · rw [Rp] at h
    obtain ⟨a, ea, rfl⟩ := h
    split at e
    · rename_i xs h1
      obtain ⟨a', vs, m1, k1, r1⟩ := hS.lst h1
      rw [ea] at m1; cases m1
      exact .inl ⟨beq_iff_eq.mp e, vs, SqL.of k1⟩
    · rename_i kvs h1
      obtain ⟨a', m1, ws, k1, r1⟩ := hS.addr h1
      rw [ea] at m1; cases m1
      exact .inr (.inr (.inl ⟨beq_iff_eq.mp e, .inl ⟨ws, k1⟩⟩))
    · cases e
  · cases e
def metM (T : String) (F : D → List D → Sto → Option (D × Sto)) (eo : EvM) (ra : AvM) : EvM := fun γ S => match eo γ S with
  | none => none
  | some (x, S1) => if tyB T S1 x = true then match ra γ S1 with
      | none => none
      | some (xs, S2) => F x xs S2
    else none
variable {o : Expr} {eo : EvM} {ra : AvM} {F : D → List D → Sto → Option (D × Sto)} {r : V → List V → Hp → VK → Prop} {name : Str} {apos cpos : Pos} {T id : String}
theorem me_bm (pa : PlainAttrs T) (slot : Slot T name id) (hty : typeOf (.builtin id) = pure (.type "method_descriptor")) (hm : MtR X id r) (hF : FOkM (kx tb X) F r) (ho : ME tb X o eo) (ha : MA tb X (e :: es) ra)
    (hbase : attributeBase o name X.env (eval o X.env) = eval o X.env := by rfl) (hfew : ((backTo cpos (starEach (e :: es) X.env)).all (fun x => !x.1) && (backToKw cpos (keywordEach [] X.env)).all (fun x => x.1.isSome) && decide ((e :: es).length + ([] : List Keyword).length + (if ([] : List Keyword).isEmpty then 0 else 1) < 30)) = true := by rfl) (hline : (apos.endLine == cpos.line) = true := by rfl) (hs : starEach (e :: es) X.env = (false, eval e X.env) :: starEach es X.env := by rfl) (hplain : (backTo cpos (starEach es X.env)).any (·.1) = false := by rfl) :
    ME tb X (.Call (.Attribute o name apos) (e :: es) [] cpos) (metM T F eo ra) := by
  refine PE.imp (pe_bm pa slot hty hm ho ha hbase hfew hline hs hplain) fun σ H Q h => ?_
  obtain ⟨m, S, γ, d, S', hS, hγ, e1, q⟩ := h
  unfold metM at e1
  split at e1
  · cases e1
  · rename_i x S1 h1
    split at e1
    · rename_i ht
      split at e1
      · cases e1
      · rename_i xs S2 h2
        refine ⟨m, S, γ, x, S1, hS, hγ, h1, fun w H1 m1 x1 hS1 hw => ⟨tyB_ok hS1 hw ht, ?_⟩⟩
        refine ⟨m1, S1, γ, xs, S2, hS1, hγ.mono x1, h2, fun ws H2 m2 x2 hS2 hws => ?_⟩
        exact hF x xs S2 d S' e1 H2 m2 w ws Q hS2 (hw.mono x2) hws fun y H3 m3 x3 => q y H3 m3 (x1.trans (x2.trans x3))
    · cases e1
theorem me_bm0 (pa : PlainAttrs T) (slot : Slot T name id) (hty : typeOf (.builtin id) = pure (.type "method_descriptor")) (hm : MtR X id r) (hF : FOkM (kx tb X) F r) (ho : ME tb X o eo)
    (hbase : attributeBase o name X.env (eval o X.env) = eval o X.env := by rfl) (hline : (apos.endLine == cpos.line) = true := by rfl) : ME tb X (.Call (.Attribute o name apos) [] [] cpos) (metM T F eo nilA) := by
  refine PE.imp (pe_bm0 pa slot hty hm ho hbase hline) fun σ H Q h => ?_
  obtain ⟨m, S, γ, d, S', hS, hγ, e1, q⟩ := h
  unfold metM nilA at e1
  split at e1
  · cases e1
  · rename_i x S1 h1
    split at e1
    · rename_i ht
      dsimp only at e1
      refine ⟨m, S, γ, x, S1, hS, hγ, h1, fun w H1 m1 x1 hS1 hw => ⟨tyB_ok hS1 hw ht, ?_⟩⟩
      exact hF x [] S1 d S' e1 H1 m1 w [] Q hS1 hw Rps.nil fun y H3 m3 x3 => q y H3 m3 (x1.trans x3)
    · cases e1
def appendF : D → List D → Sto → Option (D × Sto)
  | .ref n, [y], S => match S[n]? with
    | some (.lst xs) => if xs.length < sizeLine then some (.non, S.set n (.lst (xs ++ [y]))) else none
    | _ => none
  | _, _, _ => none
theorem appendF_ok : FOkM K appendF rAppend := by
  intro x xs S d S' e H m vx vs Q hS hx hxs q
  unfold appendF at e
  split at e
  · rename_i n y
    split at e
    · rename_i zs h1
      split at e
      · rename_i hz
        cases e
        simp only [Rp] at hx
        obtain ⟨a, ea, rfl⟩ := hx
        obtain ⟨v, rfl, hy⟩ := hxs.one_iff
        obtain ⟨a', ws, m1, k1, r1⟩ := hS.lst h1
        rw [ea] at m1; cases m1
        exact ⟨a, ws, v, rfl, rfl, k1, by rw [r1.length]; exact hz, fin_set hS ea k1 (lt_of h1) (r1.append (Rps.one hy)) (by rw [Rp]) q⟩
      · cases e
    · cases e
  · cases e
def popF : D → List D → Sto → Option (D × Sto)
  | .ref n, [], S => match S[n]? with
    | some (.lst xs) => match xs[xs.length - 1]? with
      | some y => some (y, S.set n (.lst xs.dropLast))
      | none => none
    | _ => none
  | _, _, _ => none
theorem Rps.dropLast {H m} {xs : List D} {vs : List V} (h : Rps K H m xs vs) : Rps K H m xs.dropLast vs.dropLast := by
  rw [List.dropLast_eq_take, List.dropLast_eq_take, h.length]
  exact h.take _
theorem popF_ok : FOkM K popF rPop := by
  intro x xs S d S' e H m vx vs Q hS hx hxs q
  unfold popF at e
  split at e
  · rename_i n
    split at e
    · rename_i zs h1
      split at e
      · rename_i y hy
        cases e
        simp only [Rp] at hx
        obtain ⟨a, ea, rfl⟩ := hx
        rw [Rps] at hxs; subst hxs
        obtain ⟨a', ws, m1, k1, r1⟩ := hS.lst h1
        rw [ea] at m1; cases m1
        obtain ⟨v, h2, h3⟩ := r1.get hy
        exact ⟨a, ws, v, rfl, rfl, k1, by rw [r1.length]; exact h2, fin_set hS ea k1 (lt_of h1) r1.dropLast h3 q⟩
      · cases e
    · cases e
  · cases e
def reverseF : D → List D → Sto → Option (D × Sto)
  | .ref n, [], S => match S[n]? with
    | some (.lst xs) => some (.non, S.set n (.lst xs.reverse))
    | _ => none
  | _, _, _ => none
theorem reverseF_ok : FOkM K reverseF rReverse := by
  intro x xs S d S' e H m vx vs Q hS hx hxs q
  unfold reverseF at e
  split at e
  · rename_i n
    split at e
    · rename_i zs h1
      cases e
      simp only [Rp] at hx
      obtain ⟨a, ea, rfl⟩ := hx
      rw [Rps] at hxs; subst hxs
      obtain ⟨a', ws, m1, k1, r1⟩ := hS.lst h1
      rw [ea] at m1; cases m1
      exact ⟨a, ws, rfl, rfl, k1, fin_set hS ea k1 (lt_of h1) r1.reverse (by rw [Rp]) q⟩
    · cases e
  · cases e
def extendF : D → List D → Sto → Option (D × Sto)
  | .ref n, [.ref k], S => match S[n]?, S[k]? with
    | some (.lst xs), some (.lst ys) => if xs.length + ys.length ≤ sizeLine then some (.non, S.set n (.lst (xs ++ ys))) else none
    | _, _ => none
  | .ref n, [.tup ys], S => match S[n]? with
    | some (.lst xs) => if xs.length + ys.length ≤ sizeLine then some (.non, S.set n (.lst (xs ++ ys))) else none
    | _ => none
  | _, _, _ => none
def rExtendT (K : PySem.W.Frag) : V → List V → Hp → VK → Prop := fun x vs H Q => ∃ l b xs zs, x = .ref l ∧ vs = [.ref b] ∧ H l = some (.lst xs) ∧ SqT K H b zs ∧ xs.length + zs.length ≤ sizeLine ∧ Q .non (upd H l (.lst (xs ++ zs)))
open AutoSeq1 in
/-- xs.extend(t) by objects -/
theorem ext_tup (l b : Addr) (xs ys : Array Value) (n k : Nat) (dd : Option Addr) (sl : Array (Option Value))
    (h0 : ¬(!xs.isEmpty && Builtin.List.listTooLong (xs.size + ys.size)) = true) (h1 : xs.size ≤ sizeLine) (h2 : xs.size + ys.size ≤ sizeLine + 1) :
    Meets (Builtin.«list.extend» ⟨[.ref l, .ref b], []⟩) (fun _ R s => s.heap.get? l = some { cls := .type "list", dict := none, data := .seq xs n, slots := #[] } ∧
      s.heap.get? b = some { cls := .type "tuple", dict := dd, data := .seq ys k, slots := sl } ∧ R (.ok (.ret Value.none)) { s with heap := s.heap.update l (Obj.mapSeq fun x => x ++ ys), toks := s.toks }) :=
  .of_wp fun prog w A R s hq => by
    obtain ⟨hp, g, d, tk, os0⟩ := s
    obtain ⟨hl, hb, h⟩ := hq
    have f1 := AutoSeq1.sub_tuple_tuple
    have f2 := AutoSeq1.sub_list_list
    have f3 := AutoSeq1.sub_tuple_list
    have f4 := AutoSeq1.sub_list_tuple
    have hz : (xs ++ ys).size ≤ sizeLine + 1 := by rw [Array.size_append]; exact h2
    wp_walk using (wpAny_updateSeq hl rfl (hz := h1) (_hz' := hz)), AutoSeq1.wpAny_loadPart' hl, AutoSeq1.wpAny_loadPart' hb
    exact ⟨_, rfl, h⟩
theorem mt_extendT : MtR X "list.extend" (rExtendT X.K) := by
  intro pins s σ H x vs v us Q I rx rv hq
  obtain ⟨l, b, xs, zs, rfl, rfl, hH, hB, hz, q⟩ := hq
  cases rx
  obtain ⟨u, rfl, ru⟩ := Vals.one rv
  cases ru
  obtain ⟨z1, its, n, r, hl, e⟩ := I.lstM hH
  obtain ⟨its2, r2, ⟨ob, e2, c2, n2, d2⟩, z2⟩ := I.tuple hB
  have hl2 := r2.length
  have hs0 : its.toArray.size + its2.toArray.size ≤ sizeLine := by rw [List.size_toArray, List.size_toArray]; omega
  have hlong : ¬ (!its.toArray.isEmpty && Builtin.List.listTooLong (its.toArray.size + its2.toArray.size)) = true := by rw [notLongL hs0, Bool.and_false]; exact Bool.false_ne_true
  obtain ⟨cb, db, dtb, slb⟩ := ob
  dsimp only at c2 d2
  subst c2 d2
  refine call_meets F.slot_list_extend ⟨_, e, rfl⟩ F.entry_list_extend (F.args_list_extend_2 _ _) (ext_tup l b its.toArray its2.toArray n n2 db slb hlong (by rw [List.size_toArray]; omega) (by omega)) ⟨e, e2, ?_⟩
  refine ⟨.non, _, I.lset (its' := its ++ its2) hH e (by simp) (Vals.append r r2) ?_, rfl, q⟩
  rw [List.length_append]
  omega
theorem mt_extendA : MtR X "list.extend" (fun x vs H Q => rExtend x vs H Q ∨ rExtendT X.K x vs H Q) := MtR.or mt_extend mt_extendT
theorem extendF_ok : FOkM K extendF (fun x vs H Q => rExtend x vs H Q ∨ rExtendT K.f x vs H Q) := by
  intro x xs S d S' e H m vx vs Q hS hx hxs q
  unfold extendF at e
  split at e
  · rename_i n k
    split at e
    · rename_i zs ys h1 h2
      split at e
      · rename_i hz
        cases e
        simp only [Rp] at hx
        obtain ⟨a, ea, rfl⟩ := hx
        obtain ⟨v, rfl, hy⟩ := hxs.one_iff
        simp only [Rp] at hy
        obtain ⟨b, eb, rfl⟩ := hy
        obtain ⟨a', ws, m1, k1, r1⟩ := hS.lst h1
        rw [ea] at m1; cases m1
        obtain ⟨b', us, m2, k2, r2⟩ := hS.lst h2
        rw [eb] at m2; cases m2
        exact .inl ⟨a, b, ws, us, rfl, rfl, k1, k2, by rw [r1.length, r2.length]; exact hz, fin_set hS ea k1 (lt_of h1) (r1.append r2) (by rw [Rp]) q⟩
      · cases e
    · cases e
  · rename_i n ys
    split at e
    · rename_i zs h1
      split at e
      · rename_i hz
        cases e
        simp only [Rp] at hx
        obtain ⟨a, ea, rfl⟩ := hx
        obtain ⟨v, rfl, hy⟩ := hxs.one_iff
        simp only [Rp] at hy
        obtain ⟨b, us, rfl, hb, r2⟩ := hy
        obtain ⟨a', ws, m1, k1, r1⟩ := hS.lst h1
        rw [ea] at m1; cases m1
        exact .inr ⟨a, b, ws, us, rfl, rfl, k1, hb, by rw [r1.length, r2.length]; exact hz, fin_set hS ea k1 (lt_of h1) (r1.append r2) (by rw [Rp]) q⟩
      · cases e
    · cases e
  · cases e
/-! ### calls of own defs -/
/-- a def's promise: what F tells of its n arguments -/
def spM (K : Kx) (n : Nat) (F : List D → Sto → Option (D × Sto)) : Sp := fun vs H Q _ => ∃ m S xs d S', xs.length = n ∧ SR K H m S ∧ Rps K H m xs vs ∧ F xs S = some (d, S') ∧ Fin K H m S' d Q
def callM (n : Nat) (F : List D → Sto → Option (D × Sto)) (ra : AvM) : EvM := fun γ S => match ra γ S with
  | some (xs, S') => if xs.length = n then F xs S' else none
  | none => none
section
variable {k : Nat} {f : Addr} {fd : FuncData} {ps : List Str} {n : Nat} {G : List D → Sto → Option (D × Sto)} {x : Str} {p : Pos}
theorem call_core {σ : L2.St} {H : Hp} {Q : VK} {E : XK} (h : tM K (callM n G ra) σ H Q) : tCall (spM K n G) [] E (tAM K ra) σ H Q := by
  obtain ⟨m, S, γ, d, S', hS, hγ, e1, q⟩ := h
  unfold callM at e1
  split at e1
  · rename_i xs S1 h1
    split at e1
    · rename_i hn
      refine ⟨m, S, γ, xs, S1, hS, hγ, h1, fun vs H1 m1 x1 hS1 hv => ?_⟩
      show spM K n G (vs ++ []) H1 Q E
      rw [List.append_nil]
      exact ⟨m1, S1, xs, d, S', hn, hS1, hv, e1, fun w H2 m2 x2 => q w H2 m2 (x1.trans x2)⟩
    · cases e1
  · cases e1
theorem me_call (F : FnOk X.prog X.w X.K X.mg X.base CX0 k f fd ps (spM (kx tb X) n G)) (hr : Room k X.A) (hg : Gl X x) (hm : X.mg x = some (.ref f)) (hk : PySem.W.keepIn X.K (.ref f) = true) (hb : Binds X.K fd ps [])
    (ha : MA tb X (e :: es) ra) (hdb : (x == ("__debug__" : Str)) = false := by decide) (he : starEach (e :: es) X.env = (false, eval e X.env) :: starEach es X.env := by rfl) (hpl : (backTo pos (starEach es X.env)).any (·.1) = false := by rfl) :
    ME tb X (.Call (.Name x p) (e :: es) [] pos) (callM n G ra) :=
  PE.imp (pe_call F hr hg hm hk hb .nil pass0 ha hdb he hpl) fun _ _ _ h => call_core h
theorem me_call0 (F : FnOk X.prog X.w X.K X.mg X.base CX0 k f fd ps (spM (kx tb X) n G)) (hr : Room k X.A) (hg : Gl X x) (hm : X.mg x = some (.ref f)) (hk : PySem.W.keepIn X.K (.ref f) = true) (hb : Binds X.K fd ps [])
    (hdb : (x == ("__debug__" : Str)) = false := by decide) : ME tb X (.Call (.Name x p) [] [] pos) (callM n G nilA) :=
  PE.imp (pe_call0 F hr hg hm hk hb .nil pass0 hdb) fun σ H Q h => by
    obtain ⟨m, S, γ, ds, S', hS, hγ, h1, q⟩ := call_core (K := kx tb X) (E := E0) h
    cases h1
    exact q [] H m .refl hS Rps.nil
end
end
end Ml
namespace Ml
open L2 PyProof.Rows PySem PySem.Spec
open Classical in
/-- how a piece of code ends -/
inductive Fl where
  | nx | rt (d : D) | bk | ct
abbrev SvM := Sl → Sto → Option (Fl × Sl × Sto)
/-- what is wanted behind -/
def EndM (K : Kx) (H : Hp) (m : List Addr) (S' : Sto) (γ' : Sl) (Dn : Ends) : Fl → Prop
  | .nx => ∀ σ' H' m', Ext K H m H' m' → SR K H' m' S' → SLR K H' m' γ' σ' → Dn.nx σ' H'
  | .bk => ∀ σ' H' m', Ext K H m H' m' → SR K H' m' S' → SLR K H' m' γ' σ' → Dn.bk σ' H'
  | .ct => ∀ σ' H' m', Ext K H m H' m' → SR K H' m' S' → SLR K H' m' γ' σ' → Dn.ct σ' H'
  | .rt d => Fin K H m S' d Dn.rt
theorem EndM.mono {K H m H1 m1 S' γ' Dn f} (e : Ext K H m H1 m1) (h : EndM K H m S' γ' Dn f) : EndM K H1 m1 S' γ' Dn f := by
  cases f with
  | nx => exact fun σ' H' m' x => h σ' H' m' (e.trans x)
  | bk => exact fun σ' H' m' x => h σ' H' m' (e.trans x)
  | ct => exact fun σ' H' m' x => h σ' H' m' (e.trans x)
  | rt d => exact fun w H' m' x => h w H' m' (e.trans x)
def tSM (K : Kx) (s : SvM) : TS := fun Dn σ H => ∃ m S γ f γ' S', SR K H m S ∧ SLR K H m γ σ ∧ s γ S = some (f, γ', S') ∧ EndM K H m S' γ' Dn f
abbrev MS (tb : List NdefX.NTab) (X : Cx) (e : Stmt) (s : SvM) : Prop := PS X e (tSM (kx tb X) s)
abbrev MSs (tb : List NdefX.NTab) (X : Cx) (e : List Stmt) (s : SvM) : Prop := PSs X e (tSM (kx tb X) s)
section
variable {tb : List NdefX.NTab} {X : Cx} {K : Kx} {a b c e : Expr} {es : List Expr} {ea eb ec : EvM} {pos : Pos} {st : Stmt} {rest : List Stmt} {s t : SvM} {ca : CvM}
def nxM : SvM := fun γ S => some (.nx, γ, S)
def seqM (s t : SvM) : SvM := fun γ S => match s γ S with
  | some (.nx, γ', S') => t γ' S'
  | r => r
theorem mss_nil : MSs tb X [] nxM := PSs.imp pss_nil fun Dn σ H h => by
  obtain ⟨m, S, γ, f, γ', S', hS, hγ, e, q⟩ := h
  cases e
  exact q σ H m .refl hS hγ
theorem mss_one (h : MS tb X st s) : MSs tb X [st] s := pss_one h
theorem mss_cons (h1 : MS tb X st s) (h2 : MSs tb X rest t) : MSs tb X (st :: rest) (seqM s t) := PSs.imp (pss_cons h1 h2) fun Dn σ H h => by
  obtain ⟨m, S, γ, f, γ', S', hS, hγ, e, q⟩ := h
  unfold seqM at e
  split at e
  · rename_i γ1 S1 h1
    refine ⟨m, S, γ, .nx, γ1, S1, hS, hγ, h1, fun σ1 H1 m1 x1 hS1 hγ1 => ?_⟩
    exact ⟨m1, S1, γ1, f, γ', S', hS1, hγ1, e, q.mono x1⟩
  · rename_i hn
    refine ⟨m, S, γ, f, γ', S', hS, hγ, e, ?_⟩
    cases f with
    | nx => exact (hn γ' S' e).elim
    | bk => exact q
    | ct => exact q
    | rt d => exact q
theorem ms_pass : MS tb X (.Pass pos) nxM := PS.imp ps_pass fun Dn σ H h => by
  obtain ⟨m, S, γ, f, γ', S', hS, hγ, e, q⟩ := h
  cases e
  exact q σ H m .refl hS hγ
def bkM : SvM := fun γ S => some (.bk, γ, S)
def ctM : SvM := fun γ S => some (.ct, γ, S)
theorem ms_break : MS tb X (.Break pos) bkM := PS.imp ps_break fun Dn σ H h => by
  obtain ⟨m, S, γ, f, γ', S', hS, hγ, e, q⟩ := h
  cases e
  exact q σ H m .refl hS hγ
theorem ms_continue : MS tb X (.Continue pos) ctM := PS.imp ps_continue fun Dn σ H h => by
  obtain ⟨m, S, γ, f, γ', S', hS, hγ, e, q⟩ := h
  cases e
  exact q σ H m .refl hS hγ
def exM (e : EvM) : SvM := fun γ S => match e γ S with
  | some (_, S') => some (.nx, γ, S')
  | none => none
theorem ms_expr (he : ME tb X e ea) (hs : swapsWith e none pos.line X.env = pure false := by rfl) : MS tb X (.Expr e pos) (exM ea) := PS.imp (ps_expr he hs) fun Dn σ H h => by
  obtain ⟨m, S, γ, f, γ', S', hS, hγ, e, q⟩ := h
  unfold exM at e
  split at e
  · rename_i d S1 h1
    cases e
    exact ⟨m, S, γ, d, _, hS, hγ, h1, fun w H1 m1 x1 hS1 _ => q σ H1 m1 x1 hS1 (hγ.mono x1)⟩
  · cases e
def rtM (e : EvM) : SvM := fun γ S => match e γ S with
  | some (d, S') => some (.rt d, γ, S')
  | none => none
theorem ms_ret (he : ME tb X e ea) : MS tb X (.Return (some e) pos) (rtM ea) := PS.imp (ps_ret he) fun Dn σ H h => by
  obtain ⟨m, S, γ, f, γ', S', hS, hγ, e, q⟩ := h
  unfold rtM at e
  split at e
  · rename_i d S1 h1
    cases e
    exact ⟨m, S, γ, d, _, hS, hγ, h1, q⟩
  · cases e
def rtN : SvM := fun γ S => some (.rt .non, γ, S)
theorem ms_retN : MS tb X (.Return none pos) rtN := PS.imp ps_retN fun Dn σ H h => by
  obtain ⟨m, S, γ, f, γ', S', hS, hγ, e, q⟩ := h
  cases e
  exact q _ H m .refl hS (by rw [Rp])
def ifS (c : CvM) (s t : SvM) : SvM := fun γ S => match c γ S with
  | some (true, S') => s γ S'
  | some (false, S') => t γ S'
  | none => none
theorem ms_if {x y : List Stmt} (hc : MT tb X c ca) (ha : MSs tb X x s) (hb : MSs tb X y t) : MS tb X (.If c x y pos) (ifS ca s t) := PS.imp (ps_if hc ha hb) fun Dn σ H h => by
  obtain ⟨m, S, γ, f, γ', S', hS, hγ, e, q⟩ := h
  unfold ifS at e
  split at e
  · rename_i S1 h1
    exact ⟨m, S, γ, true, S1, hS, hγ, h1, fun H1 m1 x1 hS1 => iteT ⟨m1, S1, γ, f, γ', S', hS1, hγ.mono x1, e, q.mono x1⟩⟩
  · rename_i S1 h1
    exact ⟨m, S, γ, false, S1, hS, hγ, h1, fun H1 m1 x1 hS1 => iteF ⟨m1, S1, γ, f, γ', S', hS1, hγ.mono x1, e, q.mono x1⟩⟩
  · cases e
/-! ### targets -/
abbrev TvM := D → Sl → Sto → Option (Sl × Sto)
def tGM (K : Kx) (g : TvM) : TG := fun v σ H Q => ∃ m S γ d γ' S', SR K H m S ∧ SLR K H m γ σ ∧ Rp K H m d v ∧ g d γ S = some (γ', S') ∧ ∀ σ' H' m', Ext K H m H' m' → SR K H' m' S' → SLR K H' m' γ' σ' → Q σ' H'
theorem PG.imp {e : Expr} {t t' : TG} (h : PG X e t) (hi : ∀ v σ H Q, t' v σ H Q → t v σ H Q) : PG X e t' := ⟨fun pins s σ H v u Q I r q => h.run pins s σ H v u Q I r (hi v σ H Q q)⟩
abbrev MG (tb : List NdefX.NTab) (X : Cx) (e : Expr) (g : TvM) : Prop := PG X e (tGM (kx tb X) g)
def nameG (i : Nat) : TvM := fun d γ S => some (γ.set i (some d), S)
theorem mg_name (i : Nat) {x : Str} (hN : X.N.Nodup) (hi : X.N[i]? = some x) (hx : Loc X.env.scope x) (hf : X.fn x = true ∨ X.env.scope.names.lookup x = some .local := by first | exact .inl rfl | exact .inr rfl | assumption) : MG tb X (.Name x pos) (nameG i) :=
  PG.imp (pg_name hN hi hx hf) fun v σ H Q h => by
    obtain ⟨m, S, γ, d, γ', S', hS, hγ, hd, e, q⟩ := h
    cases e
    exact q _ H m .refl hS (hγ.set hd)
/-- several targets -/
def tGsM (K : Kx) (g : List D → Sl → Sto → Option (Sl × Sto)) : TGs := fun v σ H Q => ∃ m S γ d γ' S', SR K H m S ∧ SLR K H m γ σ ∧ Rps K H m d v ∧ g d γ S = some (γ', S') ∧ ∀ σ' H' m', Ext K H m H' m' → SR K H' m' S' → SLR K H' m' γ' σ' → Q σ' H'
theorem PGs.imp {e : List Expr} {t t' : TGs} (h : PGs X e t) (hi : ∀ v σ H Q, t' v σ H Q → t v σ H Q) : PGs X e t' := ⟨fun pins s σ H v u Q I r q => h.run pins s σ H v u Q I r (hi v σ H Q q)⟩
abbrev MGs (tb : List NdefX.NTab) (X : Cx) (e : List Expr) (g : List D → Sl → Sto → Option (Sl × Sto)) : Prop := PGs X e (tGsM (kx tb X) g)
def nilG : List D → Sl → Sto → Option (Sl × Sto)
  | [], γ, S => some (γ, S)
  | _ :: _, _, _ => none
def consG (g : TvM) (r : List D → Sl → Sto → Option (Sl × Sto)) : List D → Sl → Sto → Option (Sl × Sto)
  | [], _, _ => none
  | d :: ds, γ, S => match g d γ S with
    | some (γ', S') => r ds γ' S'
    | none => none
theorem mgs_nil : MGs tb X [] nilG := PGs.imp pgs_nil fun v σ H Q h => by
  obtain ⟨m, S, γ, d, γ', S', hS, hγ, hd, e, q⟩ := h
  cases d with
  | nil => cases e; rw [Rps] at hd; exact ⟨hd, q σ H m .refl hS hγ⟩
  | cons x xs => cases e
theorem mgs_cons {g : TvM} {r : List D → Sl → Sto → Option (Sl × Sto)} (h1 : MG tb X e g) (h2 : MGs tb X es r) (hs : (assignEach (e :: es) X.env).map (·.2) = assign e X.env :: (assignEach es X.env).map (·.2) := by rfl) : MGs tb X (e :: es) (consG g r) :=
  PGs.imp (pgs_cons h1 h2 hs) fun v σ H Q h => by
    obtain ⟨m, S, γ, d, γ', S', hS, hγ, hd, e, q⟩ := h
    cases d with
    | nil => cases e
    | cons x xs =>
      rw [Rps] at hd
      obtain ⟨w, vs, rfl, h3, h4⟩ := hd
      replace e : (match g x γ S with | some (γ', S') => r xs γ' S' | none => none) = some (γ', S') := e
      split at e
      · rename_i γ1 S1 h5
        refine ⟨w, vs, rfl, m, S, γ, x, γ1, S1, hS, hγ, h3, h5, fun σ1 H1 m1 x1 hS1 hγ1 => ?_⟩
        exact ⟨m1, S1, γ1, xs, γ', S', hS1, hγ1, h4.mono x1, e, fun σ2 H2 m2 x2 => q σ2 H2 m2 (x1.trans x2)⟩
      · cases e
def tupG (n : Nat) (g : List D → Sl → Sto → Option (Sl × Sto)) : TvM := fun d γ S => match d with
  | .tup xs => if xs.length = n then g xs γ S else none
  | _ => none
theorem mg_tup {k n : Nat} {g : List D → Sl → Sto → Option (Sl × Sto)} (hc : X.calm = true) (h : MGs tb X es g) (hn : (assignEach es X.env).length = n := by rfl) (hst : (assignEach es X.env).findIdx? (·.1) = none := by rfl) : MG tb X (.Tuple es k pos) (tupG n g) :=
  PG.imp (pg_tup hc h hn hst) fun v σ H Q hw => by
    obtain ⟨m, S, γ, d, γ', S', hS, hγ, hd, e, q⟩ := hw
    unfold tupG at e
    split at e
    · rename_i xs
      split at e
      · rename_i hl
        rw [Rp] at hd
        obtain ⟨a, vs, rfl, ha, hv⟩ := hd
        exact ⟨a, vs, rfl, ha, by rw [hv.length]; exact hl, m, S, γ, xs, γ', S', hS, hγ, hv, e, q⟩
      · cases e
    · cases e
/-- xs[i] = .. of a list -/
def subL (eo ei : EvM) : TvM := fun d γ S => match eo γ S with
  | none => none
  | some (x, S1) => match ei γ S1 with
    | none => none
    | some (y, S2) => match x, y with
      | .ref n, .int k => match S2[n]? with
        | some (.lst xs) => match ixN xs.length k with
          | some j => some (γ, S2.set n (.lst (xs.set j d)))
          | none => none
        | _ => none
      | _, _ => none
theorem mg_subL {o i : Expr} {eo ei : EvM} (ho : ME tb X o eo) (hi : ME tb X i ei) (ha : ∀ v, assign (.Subscript o i pos) X.env v = (do
      let ow ← holding [v] (eval o X.env); let iw ← holding [v, ow] (eval i X.env); standAt pos; holding [v, ow, iw] (setItem ow iw v); release [v, ow, iw] []) := by intro _; rfl) : MG tb X (.Subscript o i pos) (subL eo ei) :=
  PG.imp (pg_sub ho hi set_list ha) fun v σ H Q h => by
    obtain ⟨m, S, γ, d, γ', S', hS, hγ, hd, e, q⟩ := h
    unfold subL at e
    split at e
    · cases e
    · rename_i x S1 h1
      split at e
      · cases e
      · rename_i y S2 h2
        split at e
        · rename_i n k
          split at e
          · rename_i xs h3
            split at e
            · rename_i j h4
              cases e
              refine ⟨m, S, γ, _, S1, hS, hγ, h1, fun w H1 m1 x1 hS1 hw => ?_⟩
              refine ⟨m1, S1, γ, _, S2, hS1, hγ.mono x1, h2, fun u H2 m2 x2 hS2 hu => ?_⟩
              have hw2 := hw.mono x2
              simp only [Rp] at hw2 hu
              obtain ⟨a, ea, rfl⟩ := hw2
              subst hu
              obtain ⟨a', ws, m3, k1, r1⟩ := hS2.lst h3
              rw [ea] at m3; cases m3
              have x3 : Ext (kx tb X) H2 m2 (upd H2 a (.lst (ws.set j v))) m2 := .upd k1 trivial
              refine ⟨a, ws, k, j, rfl, rfl, k1, by rw [r1.length]; exact h4, q σ _ m2 (x1.trans (x2.trans x3)) ?_ (hγ.mono (x1.trans (x2.trans x3)))⟩
              exact hS2.upd ea (lt_of h3) ⟨_, upd_same, (Rps.set ((hd.mono x1).mono x2) j r1).mono x3⟩
            · cases e
          · cases e
        · cases e
def asgM (ea : EvM) (g : TvM) : SvM := fun γ S => match ea γ S with
  | none => none
  | some (d, S1) => match g d γ S1 with
    | some (γ', S2) => some (.nx, γ', S2)
    | none => none
theorem asg_core {g : TvM} {Dn : Ends} {σ : L2.St} {H : Hp} (h : tSM K (asgM ea g) Dn σ H) : tAsg (tM K ea) (tGM K g) Dn σ H := by
  obtain ⟨m, S, γ, f, γ', S', hS, hγ, e, q⟩ := h
  unfold asgM at e
  split at e
  · cases e
  · rename_i d S1 h1
    split at e
    · rename_i γ1 S2 h2
      cases e
      refine ⟨m, S, γ, d, S1, hS, hγ, h1, fun w H1 m1 x1 hS1 hw => ?_⟩
      exact ⟨m1, S1, γ, d, _, _, hS1, hγ.mono x1, hw, h2, fun σ2 H2 m2 x2 => q σ2 H2 m2 (x1.trans x2)⟩
    · cases e
theorem ms_asg {tg : Expr} {g : TvM} (he : ME tb X e ea) (hg : MG tb X tg g) (hs : swapsWithSole [tg] e pos.line X.env = pure false := by rfl) (hw : swappedStores [tg] e X.env = pure none := by rfl)
    (h1 : (assignEach [tg] X.env).map (·.2) = [assign tg X.env] := by rfl) : MS tb X (.Assign [tg] e pos) (asgM ea g) := PS.imp (ps_asg he hg hs hw h1) fun _ _ _ h => asg_core h
theorem ms_set (i : Nat) {x : Str} {p : Pos} (hN : X.N.Nodup) (hi : X.N[i]? = some x) (hx : Loc X.env.scope x) (he : ME tb X e ea) (hs : swapsWith e (some (.Name x p)) pos.line X.env = pure false := by rfl) (hf : X.fn x = true ∨ X.env.scope.names.lookup x = some .local := by first | exact .inl rfl | exact .inr rfl | assumption) :
    MS tb X (.Assign [.Name x p] e pos) (asgM ea (nameG i)) := PS.imp (ps_set hN hi hx he hs hf) fun Dn σ H h => by
  obtain ⟨m, S, γ, f, γ', S', hS, hγ, e, q⟩ := h
  unfold asgM nameG at e
  split at e
  · cases e
  · rename_i d S1 h1
    cases e
    exact ⟨m, S, γ, d, _, hS, hγ, h1, fun w H1 m1 x1 hS1 hw => q _ H1 m1 x1 hS1 ((hγ.mono x1).set hw)⟩
/-- x += e, by a rule for two values -/
def augM (i : Nat) (F : D → D → Sto → Option (D × Sto)) (ea : EvM) : SvM := fun γ S => match γ[i]? with
  | some (some x) => match ea γ S with
    | some (y, S1) => match F x y S1 with
      | some (d, S2) => some (.nx, γ.set i (some d), S2)
      | none => none
    | none => none
  | _ => none
theorem ms_aug (i : Nat) {x : Str} {p : Pos} {op : Operator} {ti : TIp} {F : D → D → Sto → Option (D × Sto)} (hN : X.N.Nodup) (hi : X.N[i]? = some x) (hx : Loc X.env.scope x) (he : ME tb X e ea) (ho : PIp X op ti) (hF : FOk2 (kx tb X) F ti) (hf : X.fn x = true ∨ X.env.scope.names.lookup x = some .local := by first | exact .inl rfl | exact .inr rfl | assumption) :
    MS tb X (.AugAssign (.Name x p) op e pos) (augM i F ea) := PS.imp (ps_aug hN hi hx he ho hf) fun Dn σ H h => by
  obtain ⟨m, S, γ, f, γ', S', hS, hγ, e, q⟩ := h
  unfold augM at e
  split at e
  · rename_i x h1
    split at e
    · rename_i y S1 h2
      split at e
      · rename_i d S2 h3
        cases e
        obtain ⟨v, e1, r1⟩ := hγ.at_ i x h1
        refine ⟨v, e1, m, S, γ, y, S1, hS, hγ, h2, fun w H1 m1 x1 hS1 hw => ?_⟩
        exact hF x y S1 d _ h3 H1 m1 v w _ hS1 (r1.mono x1) hw fun u H2 m2 x2 hS2 hu => q _ H2 m2 (x1.trans x2) hS2 ((hγ.mono (x1.trans x2)).set hu)
      · cases e
    · cases e
  · cases e
def iaddF : D → D → Sto → Option (D × Sto) := opI (fun _ _ => true) (fun i j => .int (i + j))
theorem iaddF_ok : FOk2 K iaddF (ipI fun i j => i + j) := opI0_ok (gV := fun i j => .int (i + j)) fun _ _ _ _ => by rw [Rp]
def isubF : D → D → Sto → Option (D × Sto) := opI (fun _ _ => true) (fun i j => .int (i - j))
theorem isubF_ok : FOk2 K isubF (ipI fun i j => i - j) := opI0_ok (gV := fun i j => .int (i - j)) fun _ _ _ _ => by rw [Rp]
/-! ### while -/
def whileN (c : CvM) (b : SvM) : Nat → Sl → Sto → Option (Fl × Sl × Sto)
  | 0, _, _ => none
  | n + 1, γ, S => match c γ S with
    | none => none
    | some (false, S1) => some (.nx, γ, S1)
    | some (true, S1) => match b γ S1 with
      | none => none
      | some (.nx, γ2, S2) => whileN c b n γ2 S2
      | some (.ct, γ2, S2) => whileN c b n γ2 S2
      | some (.bk, γ2, S2) => some (.nx, γ2, S2)
      | some (.rt d, γ2, S2) => some (.rt d, γ2, S2)
/-- how many turns a while has at most -/
def turns : Nat := 100000000
def whileM (c : CvM) (b : SvM) : SvM := whileN c b turns
theorem ms_while {body : List Stmt} {cb : SvM} (hp : PassesOwn (model X.prog X.w) X.A X.env X.xe) (hc : MT tb X c ca) (hb : MSs tb X body cb) : MS tb X (.While c body [] pos) (whileM ca cb) := PS.imp (ps_while hp hc hb) fun Dn σ H h => by
  obtain ⟨m, S, γ, f, γ', S', hS, hγ, e, q⟩ := h
  refine ⟨fun n σ H => ∃ m S γ f γ' S', SR (kx tb X) H m S ∧ SLR (kx tb X) H m γ σ ∧ whileN ca cb n γ S = some (f, γ', S') ∧ EndM (kx tb X) H m S' γ' Dn f, ⟨turns, m, S, γ, f, γ', S', hS, hγ, e, q⟩, ?_⟩
  rintro n σ H ⟨m, S, γ, f, γ', S', hS, hγ, e, q⟩
  cases n with
  | zero => cases e
  | succ n =>
    unfold whileN at e
    split at e
    · cases e
    · rename_i S1 h1
      cases e
      refine ⟨m, S, γ, false, _, hS, hγ, h1, fun H1 m1 x1 hS1 => iteF ?_⟩
      exact q σ H1 m1 x1 hS1 (hγ.mono x1)
    · rename_i S1 h1
      refine ⟨m, S, γ, true, S1, hS, hγ, h1, fun H1 m1 x1 hS1 => iteT ?_⟩
      refine ⟨fun σ H => ∃ m S γ f γ' S', SR (kx tb X) H m S ∧ SLR (kx tb X) H m γ σ ∧ whileN ca cb n γ S = some (f, γ', S') ∧ EndM (kx tb X) H m S' γ' Dn f, fun σ' H' w => ⟨n, Nat.lt_succ_self n, w⟩, ?_⟩
      split at e
      · cases e
      · rename_i γ2 S2 h2
        refine ⟨m1, S1, γ, .nx, γ2, S2, hS1, hγ.mono x1, h2, fun σ2 H2 m2 x2 hS2 hγ2 => ?_⟩
        exact ⟨m2, S2, γ2, f, γ', S', hS2, hγ2, e, q.mono (x1.trans x2)⟩
      · rename_i γ2 S2 h2
        refine ⟨m1, S1, γ, .ct, γ2, S2, hS1, hγ.mono x1, h2, fun σ2 H2 m2 x2 hS2 hγ2 => ?_⟩
        exact ⟨m2, S2, γ2, f, γ', S', hS2, hγ2, e, q.mono (x1.trans x2)⟩
      · rename_i γ2 S2 h2
        cases e
        exact ⟨m1, S1, γ, .bk, _, _, hS1, hγ.mono x1, h2, fun σ2 H2 m2 x2 hS2 hγ2 => q σ2 H2 m2 (x1.trans x2) hS2 hγ2⟩
      · rename_i d γ2 S2 h2
        cases e
        exact ⟨m1, S1, γ, .rt d, _, _, hS1, hγ.mono x1, h2, fun w H2 m2 x2 hS2 hw => q w H2 m2 (x1.trans x2) hS2 hw⟩
end
end Ml
namespace Ml
open L2 PyProof.Rows PySem PySem.Spec
open Classical
/-- what is walked still stands: nothing is asked (a tuple, a range), or the list with that number is the same -/
def Chk : Option (Nat × O) → Sto → Prop
  | none, _ => True
  | some (n, o), S => S[n]? = some o
abbrev IvM := Sl → Sto → Option (Option (Nat × O) × List D × Sto)
structure Walks (K : Kx) (J : It) (H0 : Hp) (m0 : List Addr) (ck : Option (Nat × O)) (xs : List D) : Prop where
  go : ∀ H m S i, Ext K H0 m0 H m → SR K H m S → Chk ck S → i < xs.length → J.go i H ∧ ∀ x H', J.yld i H x H' → ∃ d, xs[i]? = some d ∧ Ext K H m H' m ∧ SR K H' m S ∧ Rp K H' m d x
  stop : ∀ H m S, Ext K H0 m0 H m → SR K H m S → Chk ck S → J.stop xs.length H
def tIM (K : Kx) (iv : IvM) : TI := fun σ H R => ∃ m S γ ck xs S', SR K H m S ∧ SLR K H m γ σ ∧ iv γ S = some (ck, xs, S') ∧
  ∀ J H' m', Ext K H m H' m' → SR K H' m' S' → Walks K J H' m' ck xs → R J H'
abbrev MI (tb : List NdefX.NTab) (X : Cx) (tg iter : Expr) (iv : IvM) : Prop := PI X tg iter (tIM (kx tb X) iv)
section
variable {tb : List NdefX.NTab} {X : Cx} {K : Kx} {a b c e tg iter : Expr} {es : List Expr} {ea eb ec : EvM} {pos : Pos} {st : Stmt} {rest body : List Stmt} {s t : SvM} {ca : CvM}
theorem walks_list {H0 m0 S0 n xs a} (hS : SR K H0 m0 S0) (hm : m0[n]? = some a) : Walks K (Itl K.f a) H0 m0 (some (n, .lst xs)) xs where
  go := fun H m S i x hS hc hi => by
    obtain ⟨a', vs, m1, k1, r1⟩ := hS.lst hc
    rw [x.get hm] at m1; cases m1
    obtain ⟨v, h1, h2⟩ := r1.get (List.getElem?_eq_getElem hi)
    refine ⟨⟨vs, v, SqL.of k1, h1⟩, fun y H' q => ?_⟩
    obtain ⟨rfl, q⟩ := q
    have e := q vs (SqL.of k1)
    rw [h1] at e; cases e
    exact ⟨_, List.getElem?_eq_getElem hi, .refl, hS, h2⟩
  stop := fun H m S x hS hc => by
    obtain ⟨a', vs, m1, k1, r1⟩ := hS.lst hc
    rw [x.get hm] at m1; cases m1
    exact ⟨vs, SqL.of k1, by rw [r1.length]; exact Nat.le_refl _⟩
theorem walks_tup {H0 m0 xs a vs} (ha : SqT K.f H0 a vs) (hv : Rps K H0 m0 xs vs) : Walks K (Itt K.f a) H0 m0 none xs where
  go := fun H m S i x hS _ hi => by
    obtain ⟨v, h1, h2⟩ := hv.get (List.getElem?_eq_getElem hi)
    refine ⟨⟨vs, v, x.tup _ _ ha, h1⟩, fun y H' q => ?_⟩
    obtain ⟨rfl, q⟩ := q
    have e := q vs (x.tup _ _ ha)
    rw [h1] at e; cases e
    exact ⟨_, List.getElem?_eq_getElem hi, .refl, hS, h2.mono x⟩
  stop := fun H m S x hS _ => ⟨vs, x.tup _ _ ha, by rw [hv.length]; exact Nat.le_refl _⟩
/-- the numbers lo, lo + 1, .. -/
def rngD (lo : Int) (n : Nat) : List D := (List.range n).map fun (i : Nat) => D.int (lo + i)
theorem rngD_length {lo n} : (rngD lo n).length = n := by simp [rngD]
theorem rngD_get {lo : Int} {n i : Nat} (h : i < n) : (rngD lo n)[i]? = some (.int (lo + i)) := by simp [rngD, h]
theorem walks_rng {H0 m0 lo n} : Walks K (Itr lo n) H0 m0 none (rngD lo n) where
  go := fun H m S i x hS _ hi => by
    rw [rngD_length] at hi
    refine ⟨hi, fun y H' q => ?_⟩
    obtain ⟨rfl, rfl⟩ := q
    exact ⟨_, rngD_get hi, .refl, hS, by rw [Rp]⟩
  stop := fun H m S x hS _ => by rw [rngD_length]; exact Nat.le_refl _
/-- a list or a tuple -/
def seqI (e : EvM) : IvM := fun γ S => match e γ S with
  | some (.tup xs, S') => some (none, xs, S')
  | some (.ref n, S') => match S'[n]? with
    | some (.lst xs) => some (some (n, .lst xs), xs, S')
    | _ => none
  | _ => none
theorem mi_seq (he : ME tb X iter ea) : MI tb X tg iter (seqI ea) := by
  refine ⟨fun pins s σ H R I hq => ?_⟩
  obtain ⟨m, S, γ, ck, xs, S', hS, hγ, e1, q⟩ := hq
  unfold seqI at e1
  split at e1
  · rename_i ys S1 h1
    cases e1
    refine (pi_tup he).run pins s σ H R I ⟨m, S, γ, _, _, hS, hγ, h1, fun w H1 m1 x1 hS1 hw => ?_⟩
    rw [Rp] at hw
    obtain ⟨a, vs, rfl, ha, hv⟩ := hw
    exact ⟨a, rfl, ⟨vs, ha⟩, q _ H1 m1 x1 hS1 (walks_tup ha hv)⟩
  · rename_i n S1 h1
    split at e1
    · rename_i ys h2
      cases e1
      refine (pi_list he).run pins s σ H R I ⟨m, S, γ, _, _, hS, hγ, h1, fun w H1 m1 x1 hS1 hw => ?_⟩
      rw [Rp] at hw
      obtain ⟨a, ea, rfl⟩ := hw
      obtain ⟨a', vs, m2, k1, r1⟩ := hS1.lst h2
      rw [ea] at m2; cases m2
      exact ⟨a, rfl, ⟨vs, SqL.of k1⟩, q _ H1 m1 x1 hS1 (walks_list hS1 ea)⟩
    · cases e1
  · cases e1
def rng1I (ra : AvM) : IvM := fun γ S => match ra γ S with
  | some ([.int j], S') => if -(2 ^ 62) ≤ j ∧ j < 2 ^ 62 then some (none, rngD 0 j.toNat, S') else none
  | _ => none
def rng2I (ra : AvM) : IvM := fun γ S => match ra γ S with
  | some ([.int i, .int j], S') => if -(2 ^ 62) ≤ i ∧ i < 2 ^ 62 ∧ -(2 ^ 62) ≤ j ∧ j < 2 ^ 62 then some (none, rngD i (j - i).toNat, S') else none
  | _ => none
theorem PI.imp {t t' : TI} (h : PI X tg iter t) (hi : ∀ σ H R, t' σ H R → t σ H R) : PI X tg iter t' := ⟨fun pins s σ H R I q => h.run pins s σ H R I (hi σ H R q)⟩
theorem mi_rng1 {p : Pos} {ra : AvM} (hg : Gl X "range") (hm : X.mg "range" = none) (ha : MA tb X [a] ra) (hs : starEach [a] X.env = [(false, eval a X.env)] := by rfl) : MI tb X tg (.Call (.Name "range" p) [a] [] pos) (rng1I ra) :=
  PI.imp (pi_range1 hg hm ha hs) fun σ H R h => by
    obtain ⟨m, S, γ, ck, xs, S', hS, hγ, e1, q⟩ := h
    unfold rng1I at e1
    split at e1
    · rename_i j S1 h1
      split at e1
      · rename_i hj
        cases e1
        refine ⟨m, S, γ, _, _, hS, hγ, h1, fun vs H1 m1 x1 hS1 hv => ?_⟩
        obtain ⟨v, rfl, hv1⟩ := hv.one_iff
        simp only [Rp] at hv1; subst hv1
        exact ⟨_, rfl, hj.1, hj.2, q _ H1 m1 x1 hS1 walks_rng⟩
      · cases e1
    · cases e1
theorem mi_rng2 {p : Pos} {ra : AvM} (hg : Gl X "range") (hm : X.mg "range" = none) (ha : MA tb X [a, b] ra) (hs : starEach [a, b] X.env = [(false, eval a X.env), (false, eval b X.env)] := by rfl) (hs2 : starEach [b] X.env = [(false, eval b X.env)] := by rfl) :
    MI tb X tg (.Call (.Name "range" p) [a, b] [] pos) (rng2I ra) :=
  PI.imp (pi_range2 hg hm ha hs hs2) fun σ H R h => by
    obtain ⟨m, S, γ, ck, xs, S', hS, hγ, e1, q⟩ := h
    unfold rng2I at e1
    split at e1
    · rename_i i j S1 h1
      split at e1
      · rename_i hj
        cases e1
        refine ⟨m, S, γ, _, _, hS, hγ, h1, fun vs H1 m1 x1 hS1 hv => ?_⟩
        obtain ⟨v, w, rfl, hv1, hw1⟩ := hv.two_iff
        simp only [Rp] at hv1 hw1; subst hv1; subst hw1
        exact ⟨_, _, rfl, hj, q _ H1 m1 x1 hS1 walks_rng⟩
      · cases e1
    · cases e1
/-! ### for -/
noncomputable def forI (ck : Option (Nat × O)) (g : TvM) (b : SvM) : List D → Sl → Sto → Option (Fl × Sl × Sto)
  | [], γ, S => if Chk ck S then some (.nx, γ, S) else none
  | x :: r, γ, S => if Chk ck S then match g x γ S with
      | none => none
      | some (γ1, S1) => match b γ1 S1 with
        | none => none
        | some (.nx, γ2, S2) => forI ck g b r γ2 S2
        | some (.ct, γ2, S2) => forI ck g b r γ2 S2
        | some (.bk, γ2, S2) => some (.nx, γ2, S2)
        | some (.rt d, γ2, S2) => some (.rt d, γ2, S2)
    else none
noncomputable def forM (iv : IvM) (g : TvM) (b : SvM) : SvM := fun γ S => match iv γ S with
  | none => none
  | some (ck, xs, S1) => forI ck g b xs γ S1
theorem drop_cons {α : Type} {xs : List α} {i : Nat} {d : α} (h : xs[i]? = some d) : xs.drop i = d :: xs.drop (i + 1) := by
  obtain ⟨hl, e0⟩ := List.getElem?_eq_some_iff.mp h
  rw [List.drop_eq_getElem_cons hl]; rw [e0]
theorem ms_for {iv : IvM} {g : TvM} {cb : SvM} (hp : PassesOwn (model X.prog X.w) X.A X.env X.xe) (hc : X.calm = true) (hi : MI tb X tg iter iv) (hg : MG tb X tg g) (hb : MSs tb X body cb)
    (hs : ∀ x, foldedSetIterable iter X.env x = pure x := by intro _; rfl) : MS tb X (.For tg iter body [] pos) (forM iv g cb) := PS.imp (ps_for hp hc hi hg hb hs) fun Dn σ H h => by
  obtain ⟨m, S, γ, f, γ', S', hS, hγ, e, q⟩ := h
  unfold forM at e
  split at e
  · cases e
  · rename_i ck xs S1 h1
    refine ⟨m, S, γ, ck, xs, S1, hS, hγ, h1, fun J H1 m1 x1 hS1 wk => ?_⟩
    refine ⟨fun i k σ H => i ≤ xs.length ∧ k = xs.length - i ∧ ∃ m S γ f γ' S', Ext (kx tb X) H1 m1 H m ∧ SR (kx tb X) H m S ∧ SLR (kx tb X) H m γ σ ∧ forI ck g cb (xs.drop i) γ S = some (f, γ', S') ∧ EndM (kx tb X) H m S' γ' Dn f,
      ⟨xs.length, Nat.zero_le _, rfl, m1, S1, γ, f, γ', S', .refl, hS1, hγ.mono x1, e, q.mono x1⟩, ?_⟩
    rintro i k σ H ⟨hi, rfl, m, S, γ, f, γ', S', x2, hS, hγ, e, q⟩
    by_cases hlt : i < xs.length
    · rw [drop_cons (List.getElem?_eq_getElem hlt)] at e
      unfold forI at e
      split at e
      · rename_i hk
        obtain ⟨hgo, hy⟩ := wk.go H m S i x2 hS hk hlt
        refine .inr ⟨hgo, fun σ H => ∃ m S γ f γ' S', Ext (kx tb X) H1 m1 H m ∧ SR (kx tb X) H m S ∧ SLR (kx tb X) H m γ σ ∧ forI ck g cb (xs.drop (i + 1)) γ S = some (f, γ', S') ∧ EndM (kx tb X) H m S' γ' Dn f,
          fun σ' H' w => ⟨xs.length - (i + 1), by omega, hlt, rfl, w⟩, fun v H2 yl => ?_⟩
        obtain ⟨d, hd, x3, hS2, hv⟩ := hy v H2 yl
        rw [List.getElem?_eq_getElem hlt] at hd
        cases hd
        split at e
        · cases e
        · rename_i γ1 S2 h2
          refine ⟨m, S, γ, _, γ1, S2, hS2, hγ.mono x3, hv, h2, fun σ3 H3 m3 x4 hS3 hγ3 => ?_⟩
          have x5 := x2.trans (x3.trans x4)
          have x6 := x3.trans x4
          split at e
          · cases e
          · rename_i γ2 S4 h3
            refine ⟨m3, S2, γ1, .nx, γ2, S4, hS3, hγ3, h3, fun σ4 H4 m4 x7 hS4 hγ4 => ?_⟩
            exact ⟨m4, S4, γ2, f, γ', S', x5.trans x7, hS4, hγ4, e, q.mono (x6.trans x7)⟩
          · rename_i γ2 S4 h3
            refine ⟨m3, S2, γ1, .ct, γ2, S4, hS3, hγ3, h3, fun σ4 H4 m4 x7 hS4 hγ4 => ?_⟩
            exact ⟨m4, S4, γ2, f, γ', S', x5.trans x7, hS4, hγ4, e, q.mono (x6.trans x7)⟩
          · rename_i γ2 S4 h3
            cases e
            exact ⟨m3, S2, γ1, .bk, _, _, hS3, hγ3, h3, fun σ4 H4 m4 x7 hS4 hγ4 => q σ4 H4 m4 (x6.trans x7) hS4 hγ4⟩
          · rename_i d γ2 S4 h3
            cases e
            exact ⟨m3, S2, γ1, .rt d, _, _, hS3, hγ3, h3, fun w H4 m4 x7 hS4 hw => q w H4 m4 (x6.trans x7) hS4 hw⟩
      · cases e
    · have hi2 : i = xs.length := by omega
      subst hi2
      rw [List.drop_length] at e
      unfold forI at e
      split at e
      · rename_i hk
        cases e
        exact .inl ⟨wk.stop H m S x2 hS hk, q σ H m .refl hS hγ⟩
      · cases e
/-! ### comprehensions -/
/-- a comprehension's target: a name, or several in brackets -/
inductive Tgt where
  | one (i : Nat) | many (is : List Nat)
def setAll (γ : Sl) : List Nat → List D → Sl
  | i :: is, d :: ds => setAll (γ.set i (some d)) is ds
  | _, _ => γ
def bindT : Tgt → D → Sl → Option Sl
  | .one i, d, γ => some (γ.set i (some d))
  | .many is, .tup xs, γ => if xs.length = is.length then some (setAll γ is xs) else none
  | .many _, _, _ => none
def gNames : List Nat → TGs
  | [] => gNil
  | i :: is => gCons (gName i) (gNames is)
def gTgt (K : PySem.W.Frag) : Tgt → TG
  | .one i => gName i
  | .many is => gTup K is.length (gNames is)
def inTgt : Tgt → List Nat → Bool
  | .one i, vs => vs.contains i
  | .many is, vs => is.all vs.contains
def wipeD (γ : Sl) : List Nat → Sl
  | [] => γ
  | v :: vs => (wipeD γ vs).set v none
theorem SLR.wipe {H m γ σ} (h : SLR K H m γ σ) : ∀ vs : List Nat, SLR K H m (wipeD γ vs) (wipe σ vs)
  | [] => h
  | v :: vs => (SLR.wipe h vs).forget
theorem wipe_at {σ : L2.St} {j : Nat} : ∀ {vs : List Nat}, j ∈ vs → (wipe σ vs)[j]? = if j < σ.length then some none else none
  | v :: vs, h => by
    unfold wipe
    by_cases hv : v = j
    · subst hv
      by_cases hl : v < σ.length
      · rw [List.getElem?_set_self (by rw [wipe_length]; exact hl), if_pos hl]
      · rw [if_neg hl]
        exact List.getElem?_eq_none_iff.mpr (by simp [wipe_length]; omega)
    · rw [List.getElem?_set_ne hv]
      exact wipe_at ((List.mem_cons.mp h).resolve_left fun z => hv z.symm)
/-- σ with names of the block stored: forgotten it is as before -/
theorem wipe_eq {σ σ2 : L2.St} {vs : List Nat} (hl : σ2.length = σ.length) (h : ∀ j, j ∉ vs → σ2[j]? = σ[j]?) : wipe σ2 vs = wipe σ vs := by
  apply List.ext_getElem?
  intro j
  by_cases hj : j ∈ vs
  · rw [wipe_at hj, wipe_at hj, hl]
  · rw [wipe_out hj, wipe_out hj]
    exact h j hj
theorem wipe_wipe {σ : L2.St} {vs : List Nat} : wipe (wipe σ vs) vs = wipe σ vs := wipe_eq (wipe_length σ vs) fun j hj => wipe_out hj
def setAllV (σ : L2.St) : List Nat → List V → L2.St
  | i :: is, d :: ds => setAllV (σ.set i (some d)) is ds
  | _, _ => σ
theorem setAllV_length : ∀ {is : List Nat} {vs : List V} {σ : L2.St}, (setAllV σ is vs).length = σ.length
  | [], _, _ => by simp [setAllV]
  | i :: is, [], σ => by simp [setAllV]
  | i :: is, v :: vs, σ => by simp [setAllV, setAllV_length]
theorem setAllV_out {j : Nat} : ∀ {is : List Nat} {vs : List V} {σ : L2.St}, j ∉ is → (setAllV σ is vs)[j]? = σ[j]?
  | [], _, _, _ => by simp [setAllV]
  | i :: is, [], σ, _ => by simp [setAllV]
  | i :: is, v :: vs, σ, h => by
    simp only [List.mem_cons, not_or] at h
    rw [setAllV, setAllV_out h.2, List.getElem?_set_ne (Ne.symm h.1)]
theorem SLR.setAll {H m} : ∀ {is : List Nat} {xs : List D} {vs : List V} {γ σ}, SLR K H m γ σ → Rps K H m xs vs → SLR K H m (setAll γ is xs) (setAllV σ is vs)
  | [], _, _, _, _, h, _ => by simpa [Ml.setAll, setAllV] using h
  | i :: is, [], vs, _, _, h, r => by rw [Rps] at r; subst r; simpa [Ml.setAll, setAllV] using h
  | i :: is, x :: xs, vs, γ, σ, h, r => by
    rw [Rps] at r
    obtain ⟨v, r', rfl, h1, h2⟩ := r
    simp only [Ml.setAll, setAllV]
    exact SLR.setAll (h.set h1) h2
theorem gNames_ok {H : Hp} {Q : L2.St → Hp → Prop} : ∀ {is : List Nat} {vs : List V} {σ : L2.St}, vs.length = is.length → Q (setAllV σ is vs) H → gNames is vs σ H Q
  | [], [], σ, _, q => ⟨rfl, by simpa [setAllV] using q⟩
  | i :: is, v :: vs, σ, h, q => ⟨v, vs, rfl, gNames_ok (by simpa using h) (by simpa [setAllV] using q)⟩
theorem gTgt_ok {H m γ γ1 σ vs d v} {tgt : Tgt} {Q : L2.St → Hp → Prop} (hγ : SLR K H m γ σ) (hd : Rp K H m d v) (e : bindT tgt d γ = some γ1) (hv : inTgt tgt vs = true) (q : ∀ σ1, SLR K H m γ1 σ1 → wipe σ1 vs = wipe σ vs → Q σ1 H) : gTgt K.f tgt v σ H Q := by
  cases tgt with
  | one i =>
    simp only [bindT, Option.some.injEq] at e
    subst e
    have hi : i ∈ vs := by simpa [inTgt] using hv
    refine q _ (hγ.set hd) (wipe_eq (by simp) fun j hj => ?_)
    exact List.getElem?_set_ne (fun (z : i = j) => hj (by rw [← z]; exact hi))
  | many is =>
    cases d <;> simp only [bindT, reduceCtorEq] at e
    rename_i xs
    split at e
    · rename_i hl
      cases e
      rw [Rp] at hd
      obtain ⟨a, ws, rfl, ha, hw⟩ := hd
      have hin : ∀ i ∈ is, i ∈ vs := by simpa [inTgt] using hv
      refine ⟨a, ws, rfl, ha, by rw [hw.length]; exact hl, gNames_ok (by rw [hw.length]; exact hl) (q _ (hγ.setAll hw) (wipe_eq setAllV_length fun j hj => ?_))⟩
      exact setAllV_out fun z => hj (hin j z)
    · cases e
/-- n: the new list; γ: the slots, without the block's names -/
noncomputable def compI (ck : Option (Nat × O)) (tgt : Tgt) (t : CvM) (e : EvM) (γ : Sl) (n : Nat) : List D → Sto → Option Sto
  | [], S => if Chk ck S then some S else none
  | x :: r, S => if Chk ck S then match bindT tgt x γ with
      | none => none
      | some γ1 => match t γ1 S with
        | none => none
        | some (false, S1) => compI ck tgt t e γ n r S1
        | some (true, S1) => match e γ1 S1 with
          | none => none
          | some (y, S2) => match S2[n]? with
            | some (.lst acc) => if acc.length < sizeLine then compI ck tgt t e γ n r (S2.set n (.lst (acc ++ [y]))) else none
            | _ => none
    else none
noncomputable def compM (iv : IvM) (tgt : Tgt) (t : CvM) (e : EvM) (vs : List Nat) : EvM := fun γ S => match iv γ S with
  | none => none
  | some (ck, xs, S1) => match compI ck tgt t e (wipeD γ vs) S1.length xs (S1 ++ [.lst []]) with
    | some S' => some (.ref S1.length, S')
    | none => none
def yesC : CvM := fun _ S => some (true, S)
theorem lcm_core {iv : IvM} {tgt : Tgt} {vs : List Nat} {σ : L2.St} {H : Hp} {Q : VK} (hv : inTgt tgt vs = true) (h : tM K (compM iv tgt ca ea vs) σ H Q) :
    tLc (tIM K iv) (gTgt K.f tgt) (tTM K ca) (tM K ea) vs σ H Q := by
  obtain ⟨m, S, γ, d, S', hS, hγ, e, q⟩ := h
  unfold compM at e
  split at e
  · cases e
  · rename_i ck xs S1 h1
    split at e
    · rename_i Sf h2
      cases e
      refine ⟨m, S, γ, ck, xs, S1, hS, hγ, h1, fun J H1 m1 x1 hS1 wk D hD => ?_⟩
      have hS2 : SR K (upd H1 D (.lst [])) (m1 ++ [D]) (S1 ++ [.lst []]) := hS1.newM hD ⟨[], upd_same, by rw [Rps]⟩
      have x2 : Ext K H1 m1 (upd H1 D (.lst [])) (m1 ++ [D]) := .newM hD
      have hDm : (m1 ++ [D])[S1.length]? = some D := by rw [← hS1.len]; simp
      refine ⟨fun i k H => i ≤ xs.length ∧ k = xs.length - i ∧ ∃ m S, Ext K (upd H1 D (.lst [])) (m1 ++ [D]) H m ∧ SR K H m S ∧ compI ck tgt ca ea (wipeD γ vs) S1.length (xs.drop i) S = some S',
        ⟨xs.length, Nat.zero_le _, rfl, m1 ++ [D], _, .refl, hS2, h2⟩, ?_⟩
      rintro i k H ⟨hi, rfl, m, S, x3, hS3, e⟩
      by_cases hlt : i < xs.length
      · rw [drop_cons (List.getElem?_eq_getElem hlt)] at e
        unfold compI at e
        split at e
        · rename_i hk
          obtain ⟨hgo, hy⟩ := wk.go H m S i (x2.trans x3) hS3 hk hlt
          refine .inr ⟨hgo, fun H => ∃ m S, Ext K (upd H1 D (.lst [])) (m1 ++ [D]) H m ∧ SR K H m S ∧ compI ck tgt ca ea (wipeD γ vs) S1.length (xs.drop (i + 1)) S = some S',
            fun H' w => ⟨xs.length - (i + 1), by omega, hlt, rfl, w⟩, fun v H2 yl => ?_⟩
          obtain ⟨d, hd, x4, hS4, hv2⟩ := hy v H2 yl
          rw [List.getElem?_eq_getElem hlt] at hd
          cases hd
          split at e
          · cases e
          · rename_i γ1 h3
            have hγ2 : SLR K H2 m (wipeD γ vs) (wipe σ vs) := (hγ.mono (x1.trans (x2.trans (x3.trans x4)))).wipe vs
            refine gTgt_ok hγ2 hv2 h3 hv fun σ1 hγ3 hw => ⟨by rw [hw, wipe_wipe], ?_⟩
            split at e
            · cases e
            · rename_i S5 h4
              refine ⟨m, S, γ1, false, S5, hS4, hγ3, h4, fun H5 m5 x5 hS5 => iteF ?_⟩
              exact ⟨m5, S5, x3.trans (x4.trans x5), hS5, e⟩
            · rename_i S5 h4
              refine ⟨m, S, γ1, true, S5, hS4, hγ3, h4, fun H5 m5 x5 hS5 => iteT ?_⟩
              split at e
              · cases e
              · rename_i y S6 h5
                refine ⟨m5, S5, γ1, y, S6, hS5, hγ3.mono x5, h5, fun w H6 m6 x6 hS6 hw6 => ?_⟩
                split at e
                · rename_i acc h6
                  split at e
                  · rename_i hz
                    have x7 := x3.trans (x4.trans (x5.trans x6))
                    obtain ⟨a', ws, m7, k7, r7⟩ := hS6.lst h6
                    rw [x7.get hDm] at m7; cases m7
                    refine ⟨ws, k7, by rw [r7.length]; exact hz, m6, _, x7.trans (.upd k7 trivial), hS6.upd (u := .lst (acc ++ [y])) (x7.get hDm) (lt_of h6) ⟨_, upd_same, (r7.append (Rps.one hw6)).mono (.upd k7 trivial)⟩, e⟩
                  · cases e
                · cases e
        · cases e
      · have hi2 : i = xs.length := by omega
        subst hi2
        rw [List.drop_length] at e
        unfold compI at e
        split at e
        · rename_i hk
          cases e
          refine .inl ⟨wk.stop H m _ (x2.trans x3) hS3 hk, q _ H m (x1.trans (x2.trans x3)) hS3 ?_⟩
          rw [Rp]
          exact ⟨D, x3.get hDm, rfl⟩
        · cases e
    · cases e
/-- tests of a comprehension -/
abbrev MTs (tb : List NdefX.NTab) (X : Cx) (ifs : List Expr) (c : CvM) : Prop := PTs X ifs (tTM (kx tb X) c)
theorem PTs.imp {ifs : List Expr} {t t' : TT} (h : PTs X ifs t) (hi : ∀ σ H Q, t' σ H Q → t σ H Q) : PTs X ifs t' := ⟨fun pins s σ H Q I q => h.run pins s σ H Q I (hi σ H Q q)⟩
theorem mts_nil : MTs tb X [] yesC := PTs.imp pts_nil fun σ H Q h => by
  obtain ⟨m, S, γ, b, S', hS, hγ, e, q⟩ := h
  cases e
  exact q H m .refl hS
theorem mts_one (h : MT tb X c ca) : MTs tb X [c] ca := pts_one h
/-- a comprehension's names, as a target -/
theorem mgn_nil : PGs X [] (gNames []) := pgs_nil
theorem mgn_cons {i : Nat} {is : List Nat} (h1 : PG X e (gName i)) (h2 : PGs X es (gNames is)) (hs : (assignEach (e :: es) X.env).map (·.2) = assign e X.env :: (assignEach es X.env).map (·.2) := by rfl) : PGs X (e :: es) (gNames (i :: is)) := pgs_cons h1 h2 hs
variable {elt : Expr} {ifs : List Expr} {scope : Scope} {own : List (Str × Nat)} {iv : IvM} {tgt : Tgt}
theorem me_lc (hc : X.calm = true) (hN : X.N.Nodup) (hi : MI tb X tg iter iv) (ok : BlkOk X.N X.env.scope scope own) (hv : inTgt tgt (own.map (·.2)) = true)
    (hg : ∀ (s : Shared) (H : Hp) (C : Addr) (cl : List (Str × Addr)) (fp : List Addr), PG (X.blk s H scope (compEnvC scope cl C X.env) fp) tg (gTgt X.K tgt)) (ht : ∀ (s : Shared) (H : Hp) (C : Addr) (cl : List (Str × Addr)) (fp : List Addr), MTs tb (X.blk s H scope (compEnvC scope cl C X.env) fp) ifs ca)
    (he : ∀ (s : Shared) (H : Hp) (C : Addr) (cl : List (Str × Addr)) (fp : List Addr), ME tb (X.blk s H scope (compEnvC scope cl C X.env) fp) elt ea) (hs : ∀ x, foldedSetIterable iter X.env x = pure x := by intro _; rfl) :
    ME tb X (.ListComp elt [⟨tg, iter, ifs, 0⟩] scope pos) (compM iv tgt ca ea (own.map (·.2))) :=
  PE.imp (pe_lc hc hN hi ok hg ht he hs) fun σ H Q h => lcm_core hv h
theorem ms_setLc (i : Nat) {y : Str} {py : Pos} {spos : Pos} (hc : X.calm = true) (hN : X.N.Nodup) (hy : X.N[i]? = some y) (hyl : X.env.scope.names.lookup y = some .local)
    (hsw : swapsWith (.ListComp elt [⟨tg, iter, ifs, 0⟩] scope pos) (some (.Name y py)) spos.line X.env = pure true) (hi : MI tb X tg iter iv) (ok : BlkOk X.N X.env.scope scope own) (hv : inTgt tgt (own.map (·.2)) = true)
    (hg : ∀ (s : Shared) (H : Hp) (C : Addr) (cl : List (Str × Addr)) (fp : List Addr), PG (X.blk s H scope (compEnvC scope cl C X.env) fp) tg (gTgt X.K tgt)) (ht : ∀ (s : Shared) (H : Hp) (C : Addr) (cl : List (Str × Addr)) (fp : List Addr), MTs tb (X.blk s H scope (compEnvC scope cl C X.env) fp) ifs ca)
    (he : ∀ (s : Shared) (H : Hp) (C : Addr) (cl : List (Str × Addr)) (fp : List Addr), ME tb (X.blk s H scope (compEnvC scope cl C X.env) fp) elt ea) (hs : ∀ x, foldedSetIterable iter X.env x = pure x := by intro _; rfl) :
    MS tb X (.Assign [.Name y py] (.ListComp elt [⟨tg, iter, ifs, 0⟩] scope pos) spos) (asgM (compM iv tgt ca ea (own.map (·.2))) (nameG i)) :=
  PS.imp (ps_setLc hc hN hy hyl hsw hi ok hg ht he hs) fun Dn σ H h => by
    obtain ⟨m, S, γ, f, γ', S', hS, hγ, e, q⟩ := h
    unfold asgM nameG at e
    split at e
    · cases e
    · rename_i d S1 h1
      cases e
      refine lcm_core hv (Q := fun x H1 => gName i x σ H1 Dn.nx) ⟨m, S, γ, d, _, hS, hγ, h1, fun w H1 m1 x1 hS1 hw => ?_⟩
      exact q _ H1 m1 x1 hS1 ((hγ.mono x1).set hw)
end
end Ml
namespace Ml
open L2 PyProof.Rows PySem PySem.Spec
/-- a def's body over n slots, called with xs -/
def bodyM (n : Nat) (s : SvM) : List D → Sto → Option (D × Sto) := fun xs S => match s (xs.map some ++ List.replicate (n - xs.length) none) S with
  | some (.rt d, _, S') => some (d, S')
  | some (.nx, _, S') => some (.non, S')
  | _ => none
theorem slr_start {K H m} {N : List Str} {xs : List D} {vs : List V} (h : Rps K H m xs vs) (hn : xs.length ≤ N.length) : SLR K H m (xs.map some ++ List.replicate (N.length - xs.length) none) (L2.start N vs) := by
  have hl := h.length
  refine ⟨by simp [L2.start, hl], fun i d e => ?_⟩
  unfold L2.start
  by_cases hi : i < xs.length
  · rw [List.getElem?_append_left (by simpa using hi)] at e
    rw [List.getElem?_map] at e
    cases hx : xs[i]? with
    | none => rw [hx] at e; cases e
    | some y =>
      rw [hx] at e
      cases e
      obtain ⟨v, h1, h2⟩ := h.get hx
      refine ⟨v, ?_, h2⟩
      rw [List.getElem?_append_left (by rw [List.length_map, hl]; exact hi), List.getElem?_map, h1]
      rfl
  · rw [List.getElem?_append_right (by simpa using hi)] at e
    have := List.mem_of_getElem? e
    simp at this
section
variable {P : Program} {w : World} {K : PySem.W.Frag} {tb : List NdefX.NTab}
variable {mg : Str → Option Value} {base : Heap}
/-- THE RULE for a def -/
theorem ok_def {x qual : Str} {st : Stmt} {f : Addr} {fd : FuncData} {N ps : List Str} {k : Nat} {s : SvM} (F : Fun K x qual st f fd) (S : FnScope N ps (defScope st)) (hn : ps.length ≤ N.length)
    (hb : ∀ (cdv : Value) (A : Around) (outer : List Env) (s0 : Shared) (H : Hp) (E : XK), Room k (cxOf CX0 P w K mg base N qual (defScope st) f cdv A outer s0 H E).A → MSs tb (cxOf CX0 P w K mg base N qual (defScope st) f cdv A outer s0 H E).nox (defBody st) s) :
    FnOk P w K mg base CX0 (k + 1) f fd ps (spM ⟨K, P, w, base, tb⟩ ps.length (bodyM N.length s)) := by
  refine F.ok S (fun vs H Q E h => ?_) fun cdv A outer s0 H vs Q E hr h => ?_
  · obtain ⟨m, S, xs, d, S', h1, _, h2, _⟩ := h
    rw [h2.length, h1]
  · obtain ⟨m, S, xs, d, S', h1, hS, h2, h3, q⟩ := h
    refine ⟨_, hb cdv A outer s0 H E hr, ?_⟩
    unfold bodyM at h3
    split at h3
    · rename_i d' γ' S1 h4
      cases h3
      exact ⟨m, S, _, .rt d, γ', _, hS, slr_start h2 (by rw [h1]; exact hn), h4, q⟩
    · rename_i γ' S1 h4
      cases h3
      exact ⟨m, S, _, .nx, γ', _, hS, slr_start h2 (by rw [h1]; exact hn), h4, fun σ' H' m' x hS' _ => q _ H' m' x hS' (by rw [Rp])⟩
    · cases h3
theorem ok_zero {f : Addr} {fd : FuncData} {ps : List Str} {k : Nat} : FnOk P w K mg base CX0 k f fd ps (spM ⟨K, P, w, base, tb⟩ ps.length fun _ _ => none) := by
  have no : ∀ vs H Q E, ¬ spM ⟨K, P, w, base, tb⟩ ps.length (fun _ _ => none) vs H Q E := fun vs H Q E h => by
    obtain ⟨m, S, xs, d, S', h1, _, h2, h3, _⟩ := h
    cases h3
  exact ⟨fun vs H Q E h => (no _ _ _ _ h).elim, fun A outer s H args us vs Q E _ _ _ _ h => (no _ _ _ _ h).elim⟩
end
/-! ### keywords -/
def permL {α : Type} (is : List Nat) (xs : List α) : List α := is.filterMap fun i => xs[i]?
theorem Rps.perm {K H m} {xs : List D} {vs : List V} (h : Rps K H m xs vs) : ∀ is : List Nat, Rps K H m (permL is xs) (permL is vs)
  | [] => Rps.nil
  | i :: is => by
    unfold permL
    rw [List.filterMap_cons, List.filterMap_cons]
    cases hx : xs[i]? with
    | none =>
      have : vs[i]? = none := by
        rw [List.getElem?_eq_none_iff] at hx ⊢
        rw [h.length]; exact hx
      rw [this]
      exact Rps.perm h is
    | some y =>
      obtain ⟨v, h1, h2⟩ := h.get hx
      rw [h1]
      exact Rps.cons h2 (Rps.perm h is)
theorem Vals.perm {vs : List V} {us : List Value} (h : Vals vs us) : ∀ is : List Nat, Vals (permL is vs) (permL is us)
  | [] => .nil
  | i :: is => by
    unfold permL
    rw [List.filterMap_cons, List.filterMap_cons]
    cases hx : vs[i]? with
    | none =>
      have : us[i]? = none := Vals.none_of h hx
      rw [this]
      exact Vals.perm h is
    | some y =>
      obtain ⟨v, h1, h2⟩ := Vals.get h hx
      rw [h1]
      exact .cons h2 (Vals.perm h is)
/-- na positional arguments, then keywords that stand in the places is tell -/
def callKM (na nk n : Nat) (is : List Nat) (F : List D → Sto → Option (D × Sto)) (ra rk : AvM) : EvM := fun γ S => match ra γ S with
  | none => none
  | some (xs, S1) => match rk γ S1 with
    | none => none
    | some (ys, S2) => if xs.length = na ∧ ys.length = nk ∧ (xs ++ permL is ys).length = n then F (xs ++ permL is ys) S2 else none
/-- how such a call binds -/
def KBind (fd : FuncData) (ps ks : List Str) (na : Nat) (is : List Nat) : Prop := ∀ us ws : List Value, us.length = na → ws.length = ks.length → bindArgs fd ⟨us, ks.zip ws⟩ = pure (ps.zip (us ++ permL is ws))
section
variable {tb : List NdefX.NTab} {X : Cx} {k : Nat} {f : Addr} {fd : FuncData} {ps ks : List Str} {n na : Nat} {is : List Nat} {G : List D → Sto → Option (D × Sto)} {x : Str} {p pos : Pos} {kws : List Keyword} {ra rk : AvM} {e : Expr} {es : List Expr}
theorem run_kw {pins : List (Addr × Obj)} {σ : L2.St} {H : Hp} {s : Shared} {Q : VK} {us ws : List Value} {vs zs : List V} (F : FnOk X.prog X.w X.K X.mg X.base CX0 k f fd ps (spM (kx tb X) n G)) (hr : Room k X.A) (hb : KBind fd ps ks na is)
    (I : Inv X pins σ H s) (r : Vals vs us) (rz : Vals zs ws) (hu : us.length = na) (hw : ws.length = ks.length) (h : spM (kx tb X) n G (vs ++ permL is zs) H Q E0) : wpAny (model X.prog X.w) X.A (call (.ref f) us (ks.zip ws)) (EP X pins σ Q) X.xe s := by
  have r2 : Vals (vs ++ permL is zs) (us ++ permL is ws) := Vals.append r (Vals.perm rz is)
  refine wpAny_call (codeAny_mono (F.run X.A X.stack s H ⟨us, ks.zip ws⟩ (us ++ permL is ws) (vs ++ permL is zs) Q E0 hr I.env0 (.of_eq (hb us ws hu hw)) r2 h) fun r s' hq => ?_)
  cases r with
  | error e => exact (False.elim hq)
  | ok fl =>
    cases fl with
    | ret u => exact I.after hq
    | next => exact (False.elim hq)
    | brk => exact (False.elim hq)
    | cont => exact (False.elim hq)
theorem me_callK (F : FnOk X.prog X.w X.K X.mg X.base CX0 k f fd ps (spM (kx tb X) n G)) (hr : Room k X.A) (hg : Gl X x) (hm : X.mg x = some (.ref f)) (hk : PySem.W.keepIn X.K (.ref f) = true) (hb : KBind fd ps ks na is)
    (ha : MA tb X (e :: es) ra) (hkw : MK tb X kws rk) (hall : (backToKw pos (keywordEach kws X.env)).all (·.1.isSome) = true := by rfl)
    (hks : (backToKw pos (keywordEach kws X.env)).filterMap (·.1) = ks := by rfl) (hdb : (x == ("__debug__" : Str)) = false := by decide)
    (he : starEach (e :: es) X.env = (false, eval e X.env) :: starEach es X.env := by rfl)
    (hpl : ((backTo pos (starEach (e :: es) X.env)).any (·.1) || (backToKw pos (keywordEach kws X.env)).any (·.1.isNone)) = false := by rfl) : ME tb X (.Call (.Name x p) (e :: es) kws pos) (callKM na ks.length n is G ra rk) := by
  refine .mk fun pins s σ H Q I h => ?_
  obtain ⟨m, S, γ, d, S', hS, hγ, e1, q⟩ := h
  unfold callKM at e1
  split at e1
  · cases e1
  · rename_i xs S1 h1
    split at e1
    · cases e1
    · rename_i ys S2 h2
      split at e1
      · rename_i hl
        refine (wpAny_Call_Name_kw (ld_glob I hg hm ?_ hdb))
        refine PySem.W.callWith_KW (h₀ := X.base) I.ok.mod.kin hk hall (thn (ha.run pos pins s σ H (fun vs H1 => ∃ m1, Ext (kx tb X) H m H1 m1 ∧ SR (kx tb X) H1 m1 S1 ∧ Rps (kx tb X) H1 m1 xs vs) I ⟨m, S, γ, xs, S1, hS, hγ, h1, fun vs H1 m1 x1 hS1 hv => ⟨m1, x1, hS1, hv⟩⟩) fun us s1 hq => ?_) hpl he
        obtain ⟨vs, H1, I1, r, m1, x1, hS1, hv⟩ := hq
        refine thn (hkw.run pos pins s1 σ H1 (fun zs H2 => ∃ m2, Ext (kx tb X) H1 m1 H2 m2 ∧ SR (kx tb X) H2 m2 S2 ∧ Rps (kx tb X) H2 m2 ys zs) I1 ⟨m1, S1, γ, ys, S2, hS1, hγ.mono x1, h2, fun vs H2 m2 x2 hS2 hz => ⟨m2, x2, hS2, hz⟩⟩) fun ws s2 hq => ?_
        obtain ⟨zs, H2, I2, rz, m2, x2, hS2, hz⟩ := hq
        refine ⟨I2.kIn, ?_⟩
        rw [hks]
        refine run_kw (us := us) F hr hb I2 r rz (by rw [← r.length, hv.length]; exact hl.1) (by rw [← rz.length, hz.length]; exact hl.2.1) ?_
        exact ⟨m2, S2, _, d, S', hl.2.2, hS2, (hv.mono x2).append (hz.perm is), e1, fun y H3 m3 x3 => q y H3 m3 (x1.trans (x2.trans x3))⟩
      · cases e1
theorem me_callK0 (F : FnOk X.prog X.w X.K X.mg X.base CX0 k f fd ps (spM (kx tb X) n G)) (hr : Room k X.A) (hg : Gl X x) (hm : X.mg x = some (.ref f)) (hk : PySem.W.keepIn X.K (.ref f) = true) (hb : KBind fd ps ks 0 is)
    (hkw : MK tb X kws rk) (hall : (backToKw pos (keywordEach kws X.env)).all (·.1.isSome) = true := by rfl)
    (hks : (backToKw pos (keywordEach kws X.env)).filterMap (·.1) = ks := by rfl) (hdb : (x == ("__debug__" : Str)) = false := by decide)
    (hpl : ((backTo pos (starEach [] X.env)).any (·.1) || (backToKw pos (keywordEach kws X.env)).any (·.1.isNone)) = false := by rfl) : ME tb X (.Call (.Name x p) [] kws pos) (callKM 0 ks.length n is G nilA rk) := by
  refine .mk fun pins s σ H Q I h => ?_
  obtain ⟨m, S, γ, d, S', hS, hγ, e1, q⟩ := h
  unfold callKM nilA at e1
  dsimp only at e1
  split at e1
  · cases e1
  · rename_i ys S2 h2
    split at e1
    · rename_i hl
      refine (wpAny_Call_Name_kw (ld_glob I hg hm ?_ hdb))
      refine PySem.W.callWith_KW0 (h₀ := X.base) I.ok.mod.kin hk hall ?_ hpl
      refine thn (hkw.run pos pins s σ H (fun zs H2 => ∃ m2, Ext (kx tb X) H m H2 m2 ∧ SR (kx tb X) H2 m2 S2 ∧ Rps (kx tb X) H2 m2 ys zs) I ⟨m, S, γ, ys, S2, hS, hγ, h2, fun vs H2 m2 x2 hS2 hz => ⟨m2, x2, hS2, hz⟩⟩) fun ws s2 hq => ?_
      obtain ⟨zs, H2, I2, rz, m2, x2, hS2, hz⟩ := hq
      refine ⟨I2.kIn, ?_⟩
      rw [hks]
      refine run_kw (us := []) (vs := []) F hr hb I2 .nil rz rfl (by rw [← rz.length, hz.length]; exact hl.2.1) ?_
      exact ⟨m2, S2, _, d, S', hl.2.2, hS2, hz.perm is, e1, fun y H3 m3 x3 => q y H3 m3 (x2.trans x3)⟩
    · cases e1
end
end Ml
/-! dicts whose keys are tuples of any make -/
namespace Ml
open L2 PyProof.Rows PySem PySem.Spec
section
variable {tb : List NdefX.NTab} {X : Cx} {pins : List (Addr × Obj)} {σ : L2.St} {H : Hp} {m : List Addr} {s : Shared}
mutual
theorem nk_is (I : Inv X pins σ H s) : ∀ (d : D) (v : V) (u : Value) (k : NestedKey), Rp (kx tb X) H m d v → RelV v u → nk d = some k → NestedIs s.heap k u
  | .non, v, u, k, h, r, e => by rw [Rp] at h; rw [nk] at e; cases e; subst h; cases r; exact .none
  | .bl b, v, u, k, h, r, e => by rw [Rp] at h; rw [nk] at e; cases e; subst h; cases r; exact .bool rfl
  | .int i, v, u, k, h, r, e => by rw [Rp] at h; rw [nk] at e; cases e; subst h; obtain ⟨t, rfl⟩ := r; exact .int _ _
  | .str i, v, u, k, h, r, e => by rw [Rp] at h; rw [nk] at e; cases e; subst h; obtain ⟨t, rfl⟩ := r; exact .text _ _
  | .tup xs, v, u, k, h, r, e => by
    rw [Rp] at h
    obtain ⟨a, vs, rfl, ha, hv⟩ := h
    rw [nk] at e
    cases hk : nks xs with
    | none => rw [hk] at e; cases e
    | some ks =>
      rw [hk] at e
      cases e
      cases r
      obtain ⟨its, rv, ⟨o, ho, hc, n, hd⟩, _⟩ := I.tuple ha
      exact .tup ho hc hd (by simpa using nks_is I xs vs its ks hv rv hk)
  | .rl n, v, u, k, h, r, e => by rw [nk] at e; cases e
  | .ref n, v, u, k, h, r, e => by rw [nk] at e; cases e
theorem nks_is (I : Inv X pins σ H s) : ∀ (d : List D) (v : List V) (u : List Value) (k : List NestedKey), Rps (kx tb X) H m d v → Vals v u → nks d = some k → NestedAll s.heap k u
  | [], v, u, k, h, r, e => by rw [Rps] at h; rw [nks] at e; cases e; subst h; cases r; exact .nil
  | x :: xs, v, u, k, h, r, e => by
    rw [Rps] at h
    obtain ⟨w, vs, rfl, h1, h2⟩ := h
    rw [nks] at e
    cases hk : nk x with
    | none => rw [hk] at e; cases e
    | some k1 =>
      cases hks : nks xs with
      | none => rw [hk, hks] at e; cases e
      | some ks =>
        rw [hk, hks] at e
        cases e
        cases r with
        | cons r1 r2 => exact .cons (nk_is I x w _ k1 h1 r1 hk) (nks_is I xs vs _ ks h2 r2 hks)
end
abbrev nkd (X : Cx) := nestedKind X.prog X.w
/-- what a dict of the store is in the heap -/
structure DnAt (X : Cx) (s : Shared) (a : Addr) (xs : List (NestedKey × Addr × V)) (ys : List (NestedKey × Addr × Value)) : Prop where
  low : (a == sysModules) = false
  len : ys.length ≤ sizeLine
  rel : Paired (fun (p : NestedKey × Addr × V) (q : NestedKey × Addr × Value) => p.1 = q.1 ∧ p.2.1 = q.2.1 ∧ RelV p.2.2 q.2.2) xs ys
  dict : s.heap.DictOfH (nkd X) a ys
theorem rel_ref {a : Addr} : RelV (V.ref a) (Value.ref a) := rfl
theorem keys_is (I : Inv X pins σ H s) : ∀ {kvs : List (D × D)} {xs : List (NestedKey × Addr × V)} {ys : List (NestedKey × Addr × Value)}, Rdn (kx tb X) H m kvs xs →
    Paired (fun (p : NestedKey × Addr × V) (q : NestedKey × Addr × Value) => p.1 = q.1 ∧ p.2.1 = q.2.1 ∧ RelV p.2.2 q.2.2) xs ys → ∀ y ∈ ys, (nkd X).is s.heap y.1 y.2.1
  | _, _, _, .nil, .nil, _, hy => nomatch hy
  | _, _, _, .cons p t, .cons q u, y, hy => by
    rcases (List.mem_cons.mp hy) with rfl | hy
    · obtain ⟨h1, h2, h3, _⟩ := p
      obtain ⟨e1, e2, _⟩ := q
      exact ⟨by rw [← e1, ← e2]; exact nk_is I _ _ _ _ h3 rel_ref h1, by rw [← e1]; exact h2⟩
    · exact keys_is I t u y hy
theorem dn_at (I : Inv X pins σ H s) {a : Addr} {kvs : List (D × D)} {xs : List (NestedKey × Addr × V)} (h : dnF X.prog X.w a xs s.heap) (r : Rdn (kx tb X) H m kvs xs) : ∃ ys, DnAt X s a xs ys := by
  obtain ⟨h1, h2, ys, h3, o, es, ep, h4, h5, h6, h7, h8⟩ := h
  exact ⟨ys, h1, by rw [← Paired.length h3]; exact h2, h3, o, es, ep, h4, h5, h6, h7, keys_is I r h3, h8⟩
/-- a dict of the store, read -/
theorem dn_read {S : Sto} {n : Nat} {lk : Bool} {kvs : List (D × D)} (I : Inv X pins σ H s) (hS : SR (kx tb X) H m S) (e : S[n]? = some (.dn lk kvs)) :
    ∃ a xs ys, m[n]? = some a ∧ Rdn (kx tb X) H m kvs xs ∧ DnAt X s a xs ys := by
  obtain ⟨a, h1, h2⟩ := hS.addr e
  cases lk with
  | false =>
    obtain ⟨xs, h3, h4⟩ := h2
    obtain ⟨h5, _⟩ := I.hok a _ h3
    obtain ⟨ys, h6⟩ := dn_at I h5 h4
    exact ⟨a, xs, ys, h1, h4, h6⟩
  | true =>
    obtain ⟨od, xs, h3, h4⟩ := h2
    obtain ⟨_, h5, _⟩ := I.hok a _ h3
    obtain ⟨ys, h6⟩ := dn_at I h5 h4
    exact ⟨a, xs, ys, h1, h4, h6⟩
/-- the value at a key -/
def lookN (kvs : List (D × D)) (k : NestedKey) : Option D := (kvs.find? fun p => decide (nk p.1 = some k)).map (·.2)
theorem look_rel {k : NestedKey} : ∀ {kvs : List (D × D)} {xs : List (NestedKey × Addr × V)} {ys : List (NestedKey × Addr × Value)}, Rdn (kx tb X) H m kvs xs →
    Paired (fun (p : NestedKey × Addr × V) (q : NestedKey × Addr × Value) => p.1 = q.1 ∧ p.2.1 = q.2.1 ∧ RelV p.2.2 q.2.2) xs ys →
    (lookN kvs k = none ∧ atKey ys k = none) ∨ ∃ d v p, lookN kvs k = some d ∧ atKey ys k = some p ∧ Rp (kx tb X) H m d v ∧ RelV v p.2
  | _, _, _, .nil, .nil => .inl ⟨rfl, rfl⟩
  | _, _, _, .cons (a := p) (b := q) h t, .cons (b := y) g u => by
    obtain ⟨h1, h2, h3, h4⟩ := h
    obtain ⟨e1, e2, e3⟩ := g
    by_cases hk : q.1 = k
    · refine .inr ⟨p.2, q.2.2, y.2, ?_, ?_, h4, e3⟩
      · unfold lookN
        rw [List.find?_cons_of_pos (by rw [h1, hk]; exact decide_eq_true rfl)]
        rfl
      · unfold atKey
        rw [List.find?_cons_of_pos (by rw [← e1, hk]; exact decide_eq_true rfl)]
        rfl
    · have n1 : ¬ (decide (nk p.1 = some k) = true) := by rw [h1]; simpa using hk
      have n2 : ¬ (decide (y.1 = k) = true) := by rw [← e1]; simpa using hk
      rcases look_rel (k := k) t u with ⟨i1, i2⟩ | ⟨d, v, z, i1, i2, i3, i4⟩
      · refine .inl ⟨?_, ?_⟩
        · unfold lookN at i1 ⊢; rw [List.find?_cons_of_neg (p := fun (p : D × D) => decide (nk p.1 = some k)) n1]; exact i1
        · unfold atKey at i2 ⊢; rw [List.find?_cons_of_neg (p := fun (x : NestedKey × Addr × Value) => decide (x.1 = k)) n2]; exact i2
      · refine .inr ⟨d, v, z, ?_, ?_, i3, i4⟩
        · unfold lookN at i1 ⊢; rw [List.find?_cons_of_neg (p := fun (p : D × D) => decide (nk p.1 = some k)) n1]; exact i1
        · unfold atKey at i2 ⊢; rw [List.find?_cons_of_neg (p := fun (x : NestedKey × Addr × Value) => decide (x.1 = k)) n2]; exact i2
end
/-- a rule by what F tells -/
def rOf (K : Kx) (F : D → D → Sto → Option (D × Sto)) : R2 := fun x y H Q => ∃ m S dx dy d S', SR K H m S ∧ Rp K H m dx x ∧ Rp K H m dy y ∧ F dx dy S = some (d, S') ∧ Fin K H m S' d Q
theorem rOf_ok {K : Kx} {F : D → D → Sto → Option (D × Sto)} : FOk2 K F (rOf K F) := fun x y S d S' e H m vx vy Q hS hx hy q => ⟨m, S, x, y, d, S', hS, hx, hy, e, q⟩
def keyN (ks : List D) : Option NestedKey := match nk (.tup ks) with
  | some k => if k.depth ≤ 8 then some k else none
  | none => none
theorem keyN_ok {ks : List D} {k : NestedKey} (h : keyN ks = some k) : nk (.tup ks) = some k ∧ k.depth ≤ 8 := by
  unfold keyN at h
  split at h
  · rename_i k' hk
    split at h
    · rename_i hd
      cases h
      exact ⟨hk, hd⟩
    · cases h
  · cases h
def getF : D → D → Sto → Option (D × Sto)
  | .ref n, .tup ks, S => match S[n]?, keyN ks with
    | some (.dn _ kvs), some k => match lookN kvs k with
      | some d => some (d, S)
      | none => none
    | _, _ => none
  | _, _, _ => none
def inD (neg : Bool) : D → D → Sto → Option (D × Sto)
  | .tup ks, .ref n, S => match S[n]?, keyN ks with
    | some (.dn _ kvs), some k => some (.bl (if neg then !(lookN kvs k).isSome else (lookN kvs k).isSome), S)
    | _, _ => none
  | _, _, _ => none
section
variable {tb : List NdefX.NTab} {X : Cx} {pins : List (Addr × Obj)} {σ : L2.St} {H : Hp} {m : List Addr} {s : Shared} {a b c e : Expr} {ea eb ec : EvM} {pos : Pos}
theorem hu1_room (hu : X.A.units + 9 < cLine) : (nkd X).room X.A.in1 := by show X.A.units + 1 + 8 < cLine; omega
theorem key_is {ks : List D} {k : NestedKey} {v : V} {u : Value} (I : Inv X pins σ H s) (h : Rp (kx tb X) H m (.tup ks) v) (r : RelV v u) (hk : keyN ks = some k) : ∃ q, u = .ref q ∧ (nkd X).is s.heap k q := by
  obtain ⟨h1, h2⟩ := keyN_ok hk
  have q := nk_is I _ _ _ _ h r h1
  rw [Rp] at h
  obtain ⟨a, vs, rfl, _⟩ := h
  cases r
  exact ⟨a, rfl, q, h2⟩
theorem ix_dn (hu : X.A.units + 9 < cLine) : IxR X (rOf (kx tb X) getF) := by
  intro value slice pins s σ; intro H x y v u Q I rx ry h hs
  obtain ⟨m, S, dx, dy, d, S', hS, hx, hy, e, q⟩ := h
  unfold getF at e
  split at e
  · rename_i n ks
    split at e
    · rename_i lk kvs k h1 h2
      split at e
      · rename_i d' h3
        cases e
        obtain ⟨a, xs, ys, h4, h5, h6⟩ := dn_read I hS h1
        obtain ⟨p, rfl, hk⟩ := key_is I hy ry h2
        rw [Rp] at hx
        obtain ⟨a', h7, rfl⟩ := hx
        rw [h4] at h7; cases h7
        cases rx
        rcases look_rel (k := k) h5 h6.rel with ⟨i1, _⟩ | ⟨d2, w, z, i1, i2, i3, i4⟩
        · rw [h3] at i1; cases i1
        · rw [h3] at i1; cases i1
          exact tail_any h6.dict.typeIs slot_dict_getitem.lookup (wpAny_getItem_heap (hu1_room hu) hk h6.dict i2 ⟨w, H, I.tok _, i4, q w H m .refl hS i3⟩) hs
      · cases e
    · cases e
  · cases e
theorem me_get (hu : X.A.units + 9 < cLine) (ha : ME tb X a ea) (hb : ME tb X b eb) (hs : PlainIx b := by exact fun _ _ => rfl) : ME tb X (.Subscript a b pos) (binM getF ea eb) :=
  PE.imp (pe_ix (ix_dn hu) ha hb hs) fun _ _ _ h => bin_core rOf_ok h
theorem or_inD (hu : X.A.units + 9 < cLine) : OpR X (compareOp .In) (rOf (kx tb X) (inD false)) := by
  intro pins s σ; intro H x y v u Q I rx ry h
  obtain ⟨m, S, dx, dy, d, S', hS, hx, hy, e, q⟩ := h
  unfold inD at e
  split at e
  · rename_i ks n
    split at e
    · rename_i lk kvs k h1 h2
      cases e
      obtain ⟨a, xs, ys, h4, h5, h6⟩ := dn_read I hS h1
      obtain ⟨p, rfl, hk⟩ := key_is I hx rx h2
      rw [Rp] at hy
      obtain ⟨a', h7, rfl⟩ := hy
      rw [h4] at h7; cases h7
      cases ry
      refine wpAny_in_heap (hu1_room hu) hk h6.low h6.dict ⟨.bl (lookN kvs k).isSome, H, I.tok _, ?_, fin_bl hS q⟩
      rcases look_rel (k := k) h5 h6.rel with ⟨i1, i2⟩ | ⟨d2, w, z, i1, i2, i3, i4⟩
      · rw [i1, i2]; rfl
      · rw [i1, i2]; rfl
    · cases e
  · cases e
theorem or_notInD (hu : X.A.units + 9 < cLine) : OpR X (compareOp .NotIn) (rOf (kx tb X) (inD true)) := by
  intro pins s σ; intro H x y v u Q I rx ry h
  obtain ⟨m, S, dx, dy, d, S', hS, hx, hy, e, q⟩ := h
  unfold inD at e
  split at e
  · rename_i ks n
    split at e
    · rename_i lk kvs k h1 h2
      cases e
      obtain ⟨a, xs, ys, h4, h5, h6⟩ := dn_read I hS h1
      obtain ⟨p, rfl, hk⟩ := key_is I hx rx h2
      rw [Rp] at hy
      obtain ⟨a', h7, rfl⟩ := hy
      rw [h4] at h7; cases h7
      cases ry
      refine wpAny_notIn_heap (hu1_room hu) hk h6.low h6.dict ⟨.bl (!(lookN kvs k).isSome), H, I.tok _, ?_, fin_bl hS q⟩
      rcases look_rel (k := k) h5 h6.rel with ⟨i1, i2⟩ | ⟨d2, w, z, i1, i2, i3, i4⟩
      · rw [i1, i2]; rfl
      · rw [i1, i2]; rfl
    · cases e
  · cases e
theorem inD_ok : FOk2 (kx tb X) (inD false) (rOf (kx tb X) (inD false)) := rOf_ok
theorem inD_okN : FOk2 (kx tb X) (inD true) (rOf (kx tb X) (inD true)) := rOf_ok
/-! ### made, stored -/
theorem dnF_stay {P : Program} {w : World} {a : Addr} {xs : List (NestedKey × Addr × V)} (h1 h2 : Heap) (h : dnF P w a xs h1) (k : ∀ o, h1.get? a = some o → h2.get? a = some o) : dnF P w a xs h2 := by
  obtain ⟨l, z, ys, r, o, es, ep, e, q⟩ := h
  exact ⟨l, z, ys, r, o, es, ep, k _ e, q⟩
theorem dn_obj {P : Program} {w : World} {H : Hp} {h : Heap} {a : Addr} {xs : List (NestedKey × Addr × V)} (q : dnF P w a xs h) : ObjOk P w H h a (.ext (dnF P w a xs)) := by
  refine ⟨q, ?_, dnF_stay⟩
  obtain ⟨_, _, ys, _, o, es, ep, e, _⟩ := q
  exact ⟨o, e⟩
def newD : EvM := fun _ S => some (.ref S.length, S ++ [.dn false []])
theorem me_newD : ME tb X (.Dict [] [] pos) newD := by
  refine .mk fun pins s σ H Q I h => ?_
  obtain ⟨m, S, γ, d, S', hS, hγ, e, q⟩ := h
  cases e
  have hp := I.hok.fresh (Nat.le_refl s.heap.objs.size)
  have new : dnF X.prog X.w s.heap.objs.size [] (s.heap.push { cls := .type "dict", data := .dict #[] }) :=
    ⟨beq_eq_false_iff_ne.mpr (Ne.symm (Nat.ne_of_lt I.big)), Nat.zero_le _, [], .nil, _, #[], 0, Heap.get?_push_size _ rfl, ⟨rfl, rfl, rfl⟩, rfl, rfl, List.nodup_nil⟩
  refine wpAny_Dict_empty ⟨.ref s.heap.objs.size, _, I.laid (a := s.heap.objs.size) (o := .ext (dnF X.prog X.w s.heap.objs.size [])) (t' := s.toks) (fun _ _ q => Heap.get?_push_of_some _ q) (Nat.le_refl _) (dn_obj new), rfl, ?_⟩
  refine q _ _ (m ++ [s.heap.objs.size]) (.newM hp) (hS.newM hp ⟨[], upd_same, .nil⟩) ?_
  rw [Rp]
  exact ⟨_, by rw [← hS.len]; simp, rfl⟩
/-- d[kd] = x -/
def setN (kvs : List (D × D)) (kd : D) (k : NestedKey) (x : D) : List (D × D) :=
  if (lookN kvs k).isSome then kvs.map (fun p => if nk p.1 = some k then (p.1, x) else p) else kvs ++ [(kd, x)]
/-- .. as the heap's entries -/
def setV (xs : List (NestedKey × Addr × V)) (k : NestedKey) (q : Addr) (v : V) (has : Bool) : List (NestedKey × Addr × V) :=
  if has then xs.map (fun p => if p.1 = k then (p.1, p.2.1, v) else p) else xs ++ [(k, q, v)]
theorem paired_map {α β α' β' : Type} {F : α → β → Prop} {G : α' → β' → Prop} {f : α → α'} {g : β → β'} (h : ∀ x y, F x y → G (f x) (g y)) : ∀ {xs : List α} {ys : List β}, Paired F xs ys → Paired G (xs.map f) (ys.map g)
  | _, _, .nil => .nil
  | _, _, .cons r t => .cons (h _ _ r) (paired_map h t)
theorem paired_snoc {α β : Type} {F : α → β → Prop} {x : α} {y : β} (r : F x y) : ∀ {xs : List α} {ys : List β}, Paired F xs ys → Paired F (xs ++ [x]) (ys ++ [y])
  | _, _, .nil => .cons r .nil
  | _, _, .cons q t => .cons q (paired_snoc r t)
theorem setV_dn {kvs : List (D × D)} {xs : List (NestedKey × Addr × V)} {kd x : D} {k : NestedKey} {q : Addr} {v : V} (h : Rdn (kx tb X) H m kvs xs) (hk : nk kd = some k) (h8 : k.depth ≤ 8) (hq : Rp (kx tb X) H m kd (.ref q)) (hv : Rp (kx tb X) H m x v) :
    Rdn (kx tb X) H m (setN kvs kd k x) (setV xs k q v (lookN kvs k).isSome) := by
  unfold setN setV
  split
  · refine paired_map (fun p z r => ?_) h
    obtain ⟨r1, r2, r3, r4⟩ := r
    by_cases e : z.1 = k
    · rw [if_pos e, if_pos (by rw [r1, e])]
      exact ⟨r1, r2, r3, hv⟩
    · rw [if_neg e, if_neg (by rw [r1]; exact fun z => e (Option.some.inj z))]
      exact ⟨r1, r2, r3, r4⟩
  · exact paired_snoc ⟨hk, h8, hq, hv⟩ h
theorem setV_rel {xs : List (NestedKey × Addr × V)} {ys : List (NestedKey × Addr × Value)} {k : NestedKey} {q : Addr} {v : V} {u : Value}
    (h : Paired (fun (p : NestedKey × Addr × V) (q : NestedKey × Addr × Value) => p.1 = q.1 ∧ p.2.1 = q.2.1 ∧ RelV p.2.2 q.2.2) xs ys) (r : RelV v u) :
    Paired (fun (p : NestedKey × Addr × V) (q : NestedKey × Addr × Value) => p.1 = q.1 ∧ p.2.1 = q.2.1 ∧ RelV p.2.2 q.2.2) (setV xs k q v (atKey ys k).isSome) (storedH ys k q u) := by
  unfold setV storedH
  split
  · refine paired_map (fun p z w => ?_) h
    obtain ⟨w1, w2, w3⟩ := w
    unfold putAt
    by_cases e : p.1 = k
    · rw [if_pos e, if_pos (by rw [← w1, e])]
      exact ⟨w1, w2, r⟩
    · rw [if_neg e, if_neg (by rw [← w1]; exact e)]
      exact ⟨w1, w2, w3⟩
  · exact paired_snoc ⟨rfl, rfl, r⟩ h
def subD (eo ei : EvM) : TvM := fun d γ S => match eo γ S with
  | none => none
  | some (x, S1) => match ei γ S1 with
    | none => none
    | some (y, S2) => match x, y with
      | .ref n, .tup ks => match S2[n]?, keyN ks with
        | some (.dn false kvs), some k => if kvs.length < sizeLine then some (γ, S2.set n (.dn false (setN kvs (.tup ks) k d))) else none
        | _, _ => none
      | _, _ => none
def rSetD (K : Kx) : TSet := fun o i v H Q => ∃ m S n ks kvs k d, SR K H m S ∧ Rp K H m (.ref n) o ∧ Rp K H m (.tup ks) i ∧ Rp K H m d v ∧ S[n]? = some (.dn false kvs) ∧ keyN ks = some k ∧ kvs.length < sizeLine ∧
  ∀ H', Ext K H m H' m → SR K H' m (S.set n (.dn false (setN kvs (.tup ks) k d))) → Q H'
theorem set_dn (hu : X.A.units + 9 < cLine) : PSet X (rSetD (kx tb X)) := by
  intro pins s σ; intro H o i v ov iv u Q I ro ri rv h
  obtain ⟨m, S, n, ks, kvs, k, d, hS, hx, hy, hd, h1, h2, hz, q⟩ := h
  obtain ⟨a, h3, xs, h4, h5⟩ := hS.addr h1
  obtain ⟨h6, _⟩ := I.hok a _ h4
  obtain ⟨ys, h7⟩ := dn_at I h6 h5
  obtain ⟨p, e1, hk⟩ := key_is I hy ri h2
  subst e1
  rw [Rp] at hx
  obtain ⟨a', h8, rfl⟩ := hx
  rw [h3] at h8; cases h8
  cases ro
  have hl1 : ys.length = kvs.length := by rw [← Paired.length h7.rel, ← Paired.length h5]
  have hy2 := hy
  rw [Rp] at hy2
  obtain ⟨p', _, e2, _⟩ := hy2
  subst e2
  cases ri
  refine wpAny_setItem_heap (hsz := h7.len) (hu1_room hu) hk h7.dict fun h' dd hs => ?_
  have hsome : (atKey ys k).isSome = (lookN kvs k).isSome := by
    rcases look_rel (k := k) h5 h7.rel with ⟨i1, i2⟩ | ⟨d2, w, z, i1, i2, i3, i4⟩
    · rw [i1, i2]; rfl
    · rw [i1, i2]; rfl
  have hlen : (setV xs k p v (lookN kvs k).isSome).length ≤ sizeLine := by
    have := Paired.length h5
    unfold setV
    split
    · rw [List.length_map]; omega
    · (rw [List.length_append, List.length_singleton]; omega)
  obtain ⟨ob, es, ep, g1, g2, g3, g4, _, g6⟩ := dd
  have new : dnF X.prog X.w a (setV xs k p v (lookN kvs k).isSome) h' := by
    refine ⟨h7.low, hlen, storedH ys k p u, ?_, ob, es, ep, g1, g2, g3, g4, g6⟩
    rw [← hsome]
    exact setV_rel h7.rel rv
  refine ⟨upd H a (.ext (dnF X.prog X.w a (setV xs k p v (lookN kvs k).isSome))), d_write I (by rw [h4]; exact True.intro) hs ⟨ob, g1⟩ (dn_obj new), ?_⟩
  have x1 : Ext (kx tb X) H m (upd H a (.ext (dnF X.prog X.w a (setV xs k p v (lookN kvs k).isSome)))) m := .upd h4 trivial
  refine q _ x1 (hS.upd h3 (lt_of h1) ⟨_, upd_same, ?_⟩)
  exact (setV_dn h5 (keyN_ok h2).1 (keyN_ok h2).2 hy hd).mono x1
theorem mg_subD {o i : Expr} {eo ei : EvM} (hu : X.A.units + 9 < cLine) (ho : ME tb X o eo) (hi : ME tb X i ei) (ha : ∀ v, assign (.Subscript o i pos) X.env v = (do
      let ow ← holding [v] (eval o X.env); let iw ← holding [v, ow] (eval i X.env); standAt pos; holding [v, ow, iw] (setItem ow iw v); release [v, ow, iw] []) := by intro _; rfl) : MG tb X (.Subscript o i pos) (subD eo ei) :=
  PG.imp (pg_sub ho hi (set_dn hu) ha) fun v σ H Q h => by
    obtain ⟨m, S, γ, d, γ', S', hS, hγ, hd, e, q⟩ := h
    unfold subD at e
    split at e
    · cases e
    · rename_i x S1 h1
      split at e
      · cases e
      · rename_i y S2 h2
        split at e
        · rename_i n ks
          split at e
          · rename_i kvs k h3 h4
            split at e
            · rename_i hz
              cases e
              refine ⟨m, S, γ, _, S1, hS, hγ, h1, fun w H1 m1 x1 hS1 hw => ?_⟩
              refine ⟨m1, S1, γ, _, S2, hS1, hγ.mono x1, h2, fun u H2 m2 x2 hS2 hu => ?_⟩
              exact ⟨m2, S2, n, ks, kvs, k, d, hS2, hw.mono x2, hu, (hd.mono x1).mono x2, h3, h4, hz, fun H' x3 hS3 => q σ H' m2 (x1.trans (x2.trans x3)) hS3 (hγ.mono (x1.trans (x2.trans x3)))⟩
            · cases e
          · cases e
        · cases e
end
end Ml
namespace Ml
open L2 PyProof.Rows PySem PySem.Spec
section
variable {tb : List NdefX.NTab} {X : Cx} {K : Kx} {a b c e f o tg iter : Expr} {ea eb ec eo ee ef : EvM} {pos apos cpos p : Pos}
theorem hu1 {k : Nat} {A : Around} (hr : Room k A) : A.units + 9 < cLine := by have := hr.un; omega
theorem hu65 {k : Nat} {A : Around} (hr : Room k A) : A.units + 65 < cLine := by have := hr.un; omega
/-! ### d.get(k, x) -/
def getOrM (eo ee ef : EvM) : EvM := fun γ S => match eo γ S with
  | some (.ref n, S1) => match S1[n]? with
    | some (.dn _ _) => match ee γ S1 with
      | some (.tup ks, S2) => match ef γ S2 with
        | some (x, S3) => match S3[n]?, keyN ks with
          | some (.dn _ kvs), some k => some ((lookN kvs k).getD x, S3)
          | _, _ => none
        | none => none
      | _ => none
    | _ => none
  | _ => none
theorem me_getOr (hu : X.A.units + 9 < cLine) (ho : ME tb X o eo) (he : ME tb X e ee) (hf : ME tb X f ef) (hm : M2 X o "get" apos e f cpos := by exact ⟨rfl, rfl, rfl, rfl⟩) : ME tb X (.Call (.Attribute o "get" apos) [e, f] [] cpos) (getOrM eo ee ef) := by
  refine .mk fun pins s σ H Q I h => ?_
  obtain ⟨m, S, γ, d, S', hS, hγ, e1, q⟩ := h
  unfold getOrM at e1
  split at e1
  · rename_i n S1 h1
    split at e1
    · rename_i lk kvs h2
      split at e1
      · rename_i ks S2 h3
        split at e1
        · rename_i x S3 h4
          split at e1
          · rename_i lk2 kvs2 k h5 h6
            cases e1
            refine wpAny_Call_method hm.base hm.few hm.line PySem.F.plainAttrs_dict PySem.F.slot_dict_get PySem.F.type_dict_get (thn (ho.run pins s σ H (fun v H1 => ∃ m1, Ext (kx tb X) H m H1 m1 ∧ SR (kx tb X) H1 m1 S1 ∧ Rp (kx tb X) H1 m1 (.ref n) v) I ⟨m, S, γ, _, S1, hS, hγ, h1, fun v H1 m1 x1 hS1 hv => ⟨m1, x1, hS1, hv⟩⟩) fun u s1 hq => ?_)
            obtain ⟨v, H1, I1, rv, m1, x1, hS1, hv⟩ := hq
            obtain ⟨ad, xs, ys, g1, g2, g3⟩ := dn_read I1 hS1 h2
            have hv2 := hv
            rw [Rp] at hv2
            obtain ⟨ad', g4, rfl⟩ := hv2
            rw [g1] at g4; cases g4
            cases rv
            obtain ⟨ob, es, ep, g5, g6, _⟩ := id g3.dict
            refine ⟨g3.dict.typeIs, fun b eb => by cases eb; exact ⟨ob, g5, g6.2.1⟩, ?_⟩
            rw [hm.trees]
            refine Calls.callWith_builtin rfl (Calls.evalArgs_plain (Calls.spliced_cons (thn (he.run pins s1 σ H1 (fun v H2 => ∃ m2, Ext (kx tb X) H1 m1 H2 m2 ∧ SR (kx tb X) H2 m2 S2 ∧ Rp (kx tb X) H2 m2 (.tup ks) v) I1 ⟨m1, S1, γ, _, S2, hS1, hγ.mono x1, h3, fun v H1 m1 x1 hS1 hv => ⟨m1, x1, hS1, hv⟩⟩) fun iv s2 hq => ?_)))
            obtain ⟨y, H2, I2, ry, m2, x2, hS2, hy⟩ := hq
            refine Calls.spliced_cons (thn (hf.run pins s2 σ H2 (fun v H3 => ∃ m3, Ext (kx tb X) H2 m2 H3 m3 ∧ SR (kx tb X) H3 m3 _ ∧ Rp (kx tb X) H3 m3 x v) I2 ⟨m2, S2, γ, _, _, hS2, hγ.mono (x1.trans x2), h4, fun v H1 m1 x1 hS1 hv => ⟨m1, x1, hS1, hv⟩⟩) fun fv s3 hq => Calls.spliced_nil ?_)
            obtain ⟨z, H3, I3, rz, m3, x3, hS3, hz⟩ := hq
            obtain ⟨ad2, xs2, ys2, k1, k2, k3⟩ := dn_read I3 hS3 h5
            have ge := (x2.trans x3).get g1
            rw [k1] at ge; cases ge
            obtain ⟨pq, rfl, hk⟩ := key_is I3 (hy.mono x3) ry h6
            refine call_meetsIn PySem.F.slot_dict_get k3.dict.typeIs PySem.F.entry_dict_get (PySem.F.args_dict_get_3 _ _ _) (meetsH_dict_get_default (nkd X) _ pq k3.low fv) ⟨hu1_room hu, k, ys2, hk, k3.dict, ?_⟩
            have x4 := x1.trans (x2.trans x3)
            rcases look_rel (k := k) k2 k3.rel with ⟨i1, i2⟩ | ⟨d2, w, zz, i1, i2, i3, i4⟩
            · rw [i1] at q
              refine ⟨z, H3, I3.tok _, ?_, q z H3 m3 x4 hS3 hz⟩
              rw [i2]; exact rz
            · rw [i1] at q
              refine ⟨w, H3, I3.tok _, ?_, q w H3 m3 x4 hS3 i3⟩
              rw [i2]; exact i4
          · cases e1
        · cases e1
      · cases e1
    · cases e1
  · cases e1
/-! ### a dict of the module, keys texts: what it has at the keys that are asked -/
structure CDict (K : PySem.W.Frag) (w : World) (a : Addr) (tbl : List (Str × Option D)) : Prop where
  at_ : ∃ es n, K.lookup a = some ⟨.type "dict", none, .dict es n, #[]⟩ ∧ PySem.W.KeysLit w.params es.toList
  low : (a == sysModules) = false
  val : ∀ z r, (z, r) ∈ tbl → match r with
    | some d => ∃ u v, PySem.W.nsIn K a z = some (some u) ∧ L2.RelV v u ∧ ∀ P b t H m, Rp ⟨K, P, w, b, t⟩ H m d v
    | none => PySem.W.nsIn K a z = some none
def cgetM (tbl : List (Str × Option D)) (ee ef : EvM) : EvM := fun γ S => match ee γ S with
  | some (.str z, S1) => match ef γ S1 with
    | some (x, S2) => match tbl.lookup z with
      | some r => some (r.getD x, S2)
      | none => none
    | none => none
  | _ => none
theorem mem_of_lookup {α β : Type} [BEq α] [LawfulBEq α] {k : α} {v : β} : ∀ {l : List (α × β)}, l.lookup k = some v → (k, v) ∈ l
  | (k', v') :: l, h => by
    rw [List.lookup_cons] at h
    split at h
    · rename_i hk
      have : k = k' := by simpa using hk
      cases h; subst this; exact List.mem_cons_self
    · exact List.mem_cons_of_mem _ (mem_of_lookup h)
theorem me_cget {x : Str} {ad : Addr} {tbl : List (Str × Option D)} (D : CDict X.K X.w ad tbl) (hg : Gl X x) (hmg : X.mg x = some (.ref ad)) (he : ME tb X e ee) (hf : ME tb X f ef) (hdb : (x == ("__debug__" : Str)) = false := by decide)
    (hm : M2 X (.Name x p) "get" apos e f cpos := by exact ⟨rfl, rfl, rfl, rfl⟩) : ME tb X (.Call (.Attribute (.Name x p) "get" apos) [e, f] [] cpos) (cgetM tbl ee ef) := by
  refine .mk fun pins s σ H Q I h => ?_
  obtain ⟨m, S, γ, d, S', hS, hγ, e1, q⟩ := h
  unfold cgetM at e1
  split at e1
  · rename_i z S1 h1
    split at e1
    · rename_i y S2 h2
      split at e1
      · rename_i r h3
        cases e1
        obtain ⟨es, n, l1, l2⟩ := D.at_
        have mo : ∀ {s' : Shared} {H' : Hp}, Inv X pins σ H' s' → s'.heap.MapOf (strKind X.prog X.w) ad (fun k => findBy Value.isStrOf es k) := fun J => PySem.W.mapOf_K (prog := X.prog) (w := X.w) J.kIn l1 l2
        refine wpAny_Call_method hm.base hm.few hm.line PySem.F.plainAttrs_dict PySem.F.slot_dict_get PySem.F.type_dict_get (ld_glob I hg hmg ?_ hdb)
        refine ⟨(mo I).typeIs, fun b eb => by cases eb; exact ⟨_, I.kIn _ _ l1, rfl⟩, ?_⟩
        rw [hm.trees]
        refine Calls.callWith_builtin rfl (Calls.evalArgs_plain (Calls.spliced_cons (thn (he.run pins s σ H (fun v H2 => ∃ m2, Ext (kx tb X) H m H2 m2 ∧ SR (kx tb X) H2 m2 S1 ∧ Rp (kx tb X) H2 m2 (.str z) v) I ⟨m, S, γ, _, S1, hS, hγ, h1, fun v H1 m1 x1 hS1 hv => ⟨m1, x1, hS1, hv⟩⟩) fun iv s2 hq => ?_)))
        obtain ⟨yv, H2, I2, ry, m2, x2, hS2, hy⟩ := hq
        refine Calls.spliced_cons (thn (hf.run pins s2 σ H2 (fun v H3 => ∃ m3, Ext (kx tb X) H2 m2 H3 m3 ∧ SR (kx tb X) H3 m3 _ ∧ Rp (kx tb X) H3 m3 y v) I2 ⟨m2, S1, γ, _, _, hS2, hγ.mono x2, h2, fun v H1 m1 x1 hS1 hv => ⟨m1, x1, hS1, hv⟩⟩) fun fv s3 hq => Calls.spliced_nil ?_)
        obtain ⟨zv, H3, I3, rz, m3, x3, hS3, hz⟩ := hq
        rw [Rp] at hy; subst hy
        obtain ⟨t, rfl⟩ := ry
        refine call_meetsIn PySem.F.slot_dict_get (mo I3).typeIs PySem.F.entry_dict_get (PySem.F.args_dict_get_3 _ _ _) (meets_dict_get_default (strKind X.prog X.w) ad (strKind_is X.prog X.w z t) D.low fv) ⟨_, mo I3, ?_⟩
        have hv := D.val z r (mem_of_lookup h3)
        cases r with
        | none =>
          refine ⟨zv, H3, I3.tok _, ?_, q zv H3 m3 (x2.trans x3) hS3 hz⟩
          rw [PySem.W.find_K l1 hv]; exact rz
        | some d =>
          obtain ⟨u, v, v1, v2, v3⟩ := hv
          refine ⟨v, H3, I3.tok _, ?_, q v H3 m3 (x2.trans x3) hS3 (v3 _ _ _ _ _)⟩
          rw [PySem.W.find_K l1 v1]; exact v2
      · cases e1
    · cases e1
  · cases e1
/-! ### range(a, b, -1) -/
def rngDown (lo : Int) (n : Nat) : List D := (List.range n).map fun (i : Nat) => D.int (lo - i)
theorem walks_rngC {H0 m0 lo n} : Walks K (Itc lo (-1) n) H0 m0 none (rngDown lo n) where
  go := fun H m S i x hS _ hi => by
    have hi : i < n := by simpa [rngDown] using hi
    refine ⟨hi, fun y H' q => ?_⟩
    obtain ⟨rfl, rfl⟩ := q
    exact ⟨.int (lo - i), by simp [rngDown, hi], .refl, hS, by rw [Rp]; congr 1; omega⟩
  stop := fun H m S x hS _ => by show n ≤ _; simp [rngDown]
def rngDI (ra : AvM) : IvM := fun γ S => match ra γ S with
  | some ([.int i, .int j, .int k], S') => if k = -1 ∧ -(2 ^ 62) ≤ i ∧ i < 2 ^ 62 ∧ -(2 ^ 62) ≤ j ∧ j < 2 ^ 62 then some (none, rngDown i (i - j).toNat, S') else none
  | _ => none
theorem mi_rngD {ra : AvM} (hg : Gl X "range") (hm : X.mg "range" = none) (ha : MA tb X [a, b, c] ra) (hs : starEach [a, b, c] X.env = (false, eval a X.env) :: starEach [b, c] X.env := by rfl) (hpl : (backTo pos (starEach [b, c] X.env)).any (·.1) = false := by rfl) :
    MI tb X tg (.Call (.Name "range" p) [a, b, c] [] pos) (rngDI ra) :=
  PI.imp (pi_range3 hg hm ha hs hpl) fun σ H R h => by
    obtain ⟨m, S, γ, ck, xs, S', hS, hγ, e1, q⟩ := h
    unfold rngDI at e1
    split at e1
    · rename_i i j k S1 h1
      split at e1
      · rename_i hj
        cases e1
        refine ⟨m, S, γ, _, _, hS, hγ, h1, fun vs H1 m1 x1 hS1 hv => ?_⟩
        simp only [Rps, Rp] at hv
        obtain ⟨_, _, rfl, rfl, _, _, rfl, rfl, _, _, rfl, rfl, rfl⟩ := hv
        refine ⟨i, j, k, (i - j).toNat, rfl, ?_, ?_⟩
        · rw [hj.1]; exact .neg hj.2.1 hj.2.2.1 hj.2.2.2.1 hj.2.2.2.2
        · rw [hj.1]; exact q _ H1 m1 x1 hS1 walks_rngC
      · cases e1
    · cases e1
end
end Ml
/-! a dict's keys gone through, the dict locked meanwhile -/
namespace Ml
open L2 PyProof.Rows PySem PySem.Spec
open Classical
section
variable {tb : List NdefX.NTab} {X : Cx} {K : Kx} {e tg iter : Expr} {ed ee : EvM} {pins : List (Addr × Obj)} {σ : L2.St} {H : Hp} {m : List Addr} {s : Shared}
def Itdn (P : Program) (w : World) (d : Addr) (o : Obj) (xs : List (NestedKey × Addr × V)) : It :=
  ⟨fun i H => H d = some (.frz o (.ext (dnF P w d xs))) ∧ i < xs.length, fun i H x H' => H' = H ∧ ∃ z, xs[i]? = some z ∧ x = .ref z.2.1, fun i H => H d = some (.frz o (.ext (dnF P w d xs))) ∧ xs.length ≤ i⟩
theorem frz_dn {d : Addr} {o : Obj} {xs : List (NestedKey × Addr × V)} (I : Inv X pins σ H s) (h : H d = some (.frz o (.ext (dnF X.prog X.w d xs)))) :
    (d == sysModules) = false ∧ s.heap.get? d = some o ∧ o.ExactDict ∧ ∃ (es : Array DictEntry) (ep : Nat), o.data = .dict es ep ∧ es.size = xs.length ∧
      ∀ (i : Nat) (z : NestedKey × Addr × V), xs[i]? = some z → ∃ en : DictEntry, es[i]? = some en ∧ en.key = .ref z.2.1 := by
  obtain ⟨hd, ⟨hs, hz, ys, pr, o', es, ep, ho, hx, hdt, he, _⟩, _, _⟩ := I.hok d _ h
  rw [hd] at ho
  cases ho
  refine ⟨hs, hd, hx, es, ep, hdt, ?_, fun i z e => ?_⟩
  · have l1 : es.size = ys.length := size_of_entries he
    have l2 : xs.length = ys.length := Paired.length pr
    omega
  · obtain ⟨b, hb, e1, e2, _⟩ := paired_get pr e; have q := entry_at he i
    rw [hb] at q
    exact ⟨_, q, by rw [e2]; rfl⟩
theorem turn_dn {P : Program} {w : World} {Kf : PySem.W.Frag} {d : Addr} {o : Obj} {es : Array DictEntry} {ep : Nat} {xs : List (NestedKey × Addr × V)} (it : Addr) (hod : o.data = .dict es ep) :
    Turn P w Kf tg (Itdn P w d o xs) [it] it (fun i h => h.IsKeyIter it d i xs.length ep) where
  mem := by simp
  obj := fun i h st b hb => by
    obtain rfl : b = it := by simpa using hb
    obtain ⟨oi, e, c, dd⟩ := st
    refine ⟨oi, e, fun v z => ?_⟩
    rw [dd] at z; cases z
  keep := fun i h h' st k => st.at fun oi e => k it (List.mem_singleton.mpr rfl) oi e
  item := by
    intro X hP hw hK hc i pins s σ H E I hf st hg; subst hP hw hK
    obtain ⟨hd, hi⟩ := hg
    obtain ⟨f0, f1, f2, f3, f4, f5⟩ := hf it (List.mem_singleton.mpr rfl)
    obtain ⟨hs, hgd, hx, es', ep', hdt, hsz, ent⟩ := frz_dn I hd
    obtain ⟨rfl, rfl⟩ := dict_ep hod hdt; have hz : xs[i]? = some xs[i] := List.getElem?_eq_getElem hi
    obtain ⟨en, hen, hkey⟩ := ent i _ hz
    refine next_key_item st hgd hdt hsz hen fun h' st' sb => ?_; have I1 : Inv X pins σ H { s with heap := h' } := I.turned (t' := s.toks) (fun b ob hb e => by rw [sb.2 b hb]; exact e) f0 f1 f3 f4 f5
    obtain ⟨oi, e, c, dd⟩ := id st'; exact ⟨en.key, rfl, go_of (s := { s with heap := h' }) e c dd (by decide) ⟨.ref xs[i].2.1, H, I1, hkey, ⟨rfl, _, hz, rfl⟩, st', fun b hb => (hf b hb).1⟩⟩
  done := by
    intro X hP hw hK hc i pins s σ H E I hf st hg; subst hP hw hK
    obtain ⟨hd, hi⟩ := hg
    obtain ⟨f0, f1, f2, f3, f4, f5⟩ := hf it (List.mem_singleton.mpr rfl)
    obtain ⟨hs, hgd, hx, es', ep', hdt, hsz, ent⟩ := frz_dn I hd
    obtain ⟨rfl, rfl⟩ := dict_ep hod hdt; exact next_key_end (I.ok.hd hc) st hgd hdt hsz hi fun h' eb => ⟨rfl, I.turned (t' := s.toks) (fun b ob hb e => by rw [eb b ob hb e]) f0 f1 f3 f4 f5⟩
  self := (turn_keysT (P := P) (w := w) (K := Kf) (tg := tg) (d := d) (kvs := xs.map fun z => ([], z.2.2)) it hod).self |> fun q A i s Q E st h => q A i s Q E (by rw [List.length_map]; exact st) h
theorem walks_dn {H0 m0 n kvs a od} {xs : List (NestedKey × Addr × V)} (h1 : H0 a = some (.frz od (.ext (dnF K.p K.w a xs)))) (h2 : Rdn K H0 m0 kvs xs) : Walks K (Itdn K.p K.w a od xs) H0 m0 (some (n, .dn true kvs)) (kvs.map (·.1)) where
  go := fun H m S i x hS hc hi => by
    have hi : i < kvs.length := by simpa using hi
    have hl : kvs.length = xs.length := Paired.length h2
    refine ⟨⟨x.frz _ _ _ h1, by omega⟩, fun y H' q => ?_⟩
    obtain ⟨rfl, z, hz, rfl⟩ := q
    have hk : kvs[i]? = some kvs[i] := List.getElem?_eq_getElem hi
    obtain ⟨b, hb, _, _, e3, _⟩ := paired_get h2 hk
    rw [hb] at hz; cases hz
    exact ⟨kvs[i].1, by rw [List.getElem?_map, hk]; rfl, .refl, hS, e3.mono x⟩
  stop := fun H m S x hS hc => ⟨x.frz _ _ _ h1, by
    have hl : kvs.length = xs.length := Paired.length h2
    rw [List.length_map]; omega⟩
def keysI (ed : EvM) : IvM := fun γ S => match ed γ S with
  | some (.ref n, S') => match S'[n]? with
    | some (.dn true kvs) => some (some (n, .dn true kvs), kvs.map (·.1), S')
    | _ => none
  | _ => none
theorem mi_keys (he : ME tb X iter ed) : MI tb X tg iter (keysI ed) := by
  refine .mk fun pins s σ H R I hq => ?_
  obtain ⟨m, S, γ, ck, ds, S', hS, hγ, e1, q⟩ := hq
  unfold keysI at e1
  split at e1
  · rename_i n S1 h1
    split at e1
    · rename_i kvs h2
      cases e1
      refine thn (he.run pins s σ H (fun v H1 => ∃ m1, Ext (kx tb X) H m H1 m1 ∧ SR (kx tb X) H1 m1 _ ∧ Rp (kx tb X) H1 m1 (.ref n) v) I ⟨m, S, γ, _, _, hS, hγ, h1, fun v H1 m1 x1 hS1 hv => ⟨m1, x1, hS1, hv⟩⟩) fun u s1 hq => ?_
      obtain ⟨v, H1, I1, rv, m1, x1, hS1, hv⟩ := hq
      rw [Rp] at hv
      obtain ⟨a, ha, rfl⟩ := hv
      obtain rfl : u = Value.ref a := rv
      obtain ⟨a', h3, od, xs, h4, h5⟩ := hS1.addr h2
      rw [ha] at h3; cases h3
      obtain ⟨hs, hgd, hx, es, ep, hdt, hsz, ent⟩ := frz_dn I1 h4
      refine iter_keys hs hgd hx hdt (pi_one (tk := s1.toks) I1 _ (turn_dn _ hdt) ⟨_, Heap.get?_push_size _ rfl, rfl, ?_⟩ (q _ H1 m1 x1 hS1 (walks_dn h4 h5)))
      rw [hsz] <;> rfl
    · cases e1
  · cases e1
/-- the dict that stands in slot i is locked meanwhile -/
def lockM (i : Nat) (e : EvM) : EvM := fun γ S => match γ[i]? with
  | some (some (.ref n)) => match S[n]? with
    | some (.dn false kvs) => match e γ (S.set n (.dn true kvs)) with
      | some (d, S1) => match S1[n]? with
        | some (.dn true kvs') => some (d, S1.set n (.dn false kvs'))
        | _ => none
      | none => none
    | _ => none
  | _ => none
def lockS (i : Nat) (e : SvM) : SvM := fun γ S => match γ[i]? with
  | some (some (.ref n)) => match S[n]? with
    | some (.dn false kvs) => match e γ (S.set n (.dn true kvs)) with
      | some (d, γ1, S1) => match S1[n]? with
        | some (.dn true kvs') => some (d, γ1, S1.set n (.dn false kvs'))
        | _ => none
      | none => none
    | _ => none
  | _ => none
theorem Ext.unlock {H m a od u H1 m1} (h : H a = some u) (hf : Free u) (hn : NoTup (.frz od u)) (x : Ext K (L2.upd H a (.frz od u)) m H1 m1) : Ext K H m (L2.upd H1 a u) m1 := by
  have x0 : Ext K H m (L2.upd H a (.frz od u)) m := .upd h hf
  have h1 : H1 a = some (.frz od u) := x.frz _ _ _ L2.upd_same
  refine ⟨(x0.toExt0.trans x.toExt0).trans (Ext0.upd h1 hn), fun b o w hb => ?_⟩
  have ne : b ≠ a := fun z => by subst z; rw [hb] at h; cases h; exact hf
  rw [L2.upd_ne ne]
  exact x.frz _ _ _ (by rw [L2.upd_ne ne]; exact hb)
theorem sr_lock {H m S n kvs a od} {xs : List (NestedKey × Addr × V)} (hS : SR K H m S) (e : S[n]? = some (.dn false kvs)) (hm : m[n]? = some a) (h : H a = some (.ext (dnF K.p K.w a xs))) (r : Rdn K H m kvs xs) :
    SR K (upd H a (.frz od (.ext (dnF K.p K.w a xs)))) m (S.set n (.dn true kvs)) :=
  hS.upd hm (lt_of e) ⟨od, xs, upd_same, r.mono (.upd h trivial)⟩
theorem sr_unlock {H m S n kvs a od} {xs : List (NestedKey × Addr × V)} (hS : SR K H m S) (e : S[n]? = some (.dn true kvs)) (hm : m[n]? = some a) (h : H a = some (.frz od (.ext (dnF K.p K.w a xs)))) :
    SR K (upd H a (.ext (dnF K.p K.w a xs))) m (S.set n (.dn false kvs)) := by
  obtain ⟨a', h1, od2, xs2, h2, r⟩ := hS.addr e
  rw [hm] at h1; cases h1
  rw [h] at h2
  have e2 : HO.ext (dnF K.p K.w a xs) = .ext (dnF K.p K.w a xs2) := by
    have := Option.some.inj h2
    injection this
  exact hS.upd hm (lt_of e) ⟨xs2, by rw [upd_same, e2], r.mono0 (Ext0.upd h trivial)⟩
theorem me_lock (i : Nat) (h : ME tb X e ee) : ME tb X e (lockM i ee) := PE.imp (pe_lock h) fun σ H Q hq => by
  obtain ⟨m, S, γ, d, S', hS, hγ, e1, q⟩ := hq
  unfold lockM at e1
  split at e1
  · rename_i n h1
    split at e1
    · rename_i kvs h2
      split at e1
      · rename_i d1 S1 h3
        split at e1
        · rename_i kvs' h4
          cases e1
          obtain ⟨a, h5, xs, h6, h7⟩ := hS.addr h2
          refine ⟨a, _, h6, trivial, fun od => ?_⟩
          refine ⟨m, _, γ, _, _, sr_lock hS h2 h5 h6 h7, hγ.mono (.upd h6 trivial), h3, fun w H1 m1 x1 hS1 hw => ?_⟩
          have h8 := x1.frz _ _ _ upd_same
          exact ⟨h8, q w _ m1 (.unlock h6 trivial trivial x1) (sr_unlock hS1 h4 (x1.get h5) h8) (hw.mono0 (Ext0.upd h8 trivial))⟩
        · cases e1
      · cases e1
    · cases e1
  · cases e1
theorem ms_lock {st : Stmt} {ss : SvM} (i : Nat) (h : MS tb X st ss) : MS tb X st (lockS i ss) := PS.imp (ps_lock h) fun Dn σ H hq => by
  obtain ⟨m, S, γ, f, γ', S', hS, hγ, e1, q⟩ := hq
  unfold lockS at e1
  split at e1
  · rename_i n h1
    split at e1
    · rename_i kvs h2
      split at e1
      · rename_i f1 γ1 S1 h3
        split at e1
        · rename_i kvs' h4
          cases e1
          obtain ⟨a, h5, xs, h6, h7⟩ := hS.addr h2
          refine ⟨a, _, h6, trivial, fun od => ?_⟩
          refine ⟨m, _, γ, _, _, _, sr_lock hS h2 h5 h6 h7, hγ.mono (.upd h6 trivial), h3, ?_⟩
          have up : ∀ H1 m1, Ext (kx tb X) (upd H a (.frz od (.ext (dnF (kx tb X).p (kx tb X).w a xs)))) m H1 m1 → H1 a = some (.frz od (.ext (dnF (kx tb X).p (kx tb X).w a xs))) := fun H1 m1 x => x.frz _ _ _ upd_same
          have hz : ∀ {H1 m1 σ1}, SLR (kx tb X) H1 m1 γ' σ1 → H1 a = some (.frz od (.ext (dnF (kx tb X).p (kx tb X).w a xs))) → SLR (kx tb X) (upd H1 a (.ext (dnF (kx tb X).p (kx tb X).w a xs))) m1 γ' σ1 :=
            fun hg h8 => ⟨hg.len, fun i d q => let ⟨v, a, b⟩ := hg.at_ i d q; ⟨v, a, b.mono0 (Ext0.upd h8 trivial)⟩⟩
          cases f with
          | nx => exact fun σ1 H1 m1 x1 hS1 hγ1 => ⟨up _ _ x1, q σ1 _ m1 (.unlock h6 trivial trivial x1) (sr_unlock hS1 h4 (x1.get h5) (up _ _ x1)) (hz hγ1 (up _ _ x1))⟩
          | bk => exact fun σ1 H1 m1 x1 hS1 hγ1 => ⟨up _ _ x1, q σ1 _ m1 (.unlock h6 trivial trivial x1) (sr_unlock hS1 h4 (x1.get h5) (up _ _ x1)) (hz hγ1 (up _ _ x1))⟩
          | ct => exact fun σ1 H1 m1 x1 hS1 hγ1 => ⟨up _ _ x1, q σ1 _ m1 (.unlock h6 trivial trivial x1) (sr_unlock hS1 h4 (x1.get h5) (up _ _ x1)) (hz hγ1 (up _ _ x1))⟩
          | rt d => exact fun w H1 m1 x1 hS1 hw => ⟨up _ _ x1, q w _ m1 (.unlock h6 trivial trivial x1) (sr_unlock hS1 h4 (x1.get h5) (up _ _ x1)) (hw.mono0 (Ext0.upd (up _ _ x1) trivial))⟩
        · cases e1
      · cases e1
    · cases e1
  · cases e1
end
end Ml
/-! dict(a list of pairs), the keys tuples -/
namespace Ml
open L2 PyProof.Rows PySem PySem.Spec
open Classical
/-- a pair: its key, its value -/
def pairN : D → Option (D × D × NestedKey)
  | .tup [.tup ks, x] => match keyN ks with
    | some k => some (.tup ks, x, k)
    | none => none
  | _ => none
def pairsN : List D → Option (List (D × D × NestedKey))
  | [] => some []
  | p :: ps => match pairN p, pairsN ps with
    | some q, some r => some (q :: r)
    | _, _ => none
def putAll (l : List (D × D × NestedKey)) (kvs : List (D × D)) : List (D × D) := l.foldl (fun acc p => setN acc p.1 p.2.2 p.2.1) kvs
def dictF : List D → Sto → Option (D × Sto)
  | [.ref n], S => match S[n]? with
    | some (.lst ps) => match pairsN ps with
      | some l => some (.ref S.length, S ++ [.dn false (putAll l [])])
      | none => none
    | _ => none
  | _, _ => none
abbrev RelN : NestedKey × Addr × V → NestedKey × Addr × Value → Prop := fun p q => p.1 = q.1 ∧ p.2.1 = q.2.1 ∧ RelV p.2.2 q.2.2
section
variable {tb : List NdefX.NTab} {X : Cx} {pins : List (Addr × Obj)} {σ : L2.St} {H : Hp} {m : List Addr} {s : Shared}
def RelL (K : Kx) (H : Hp) (m : List Addr) : D × D × NestedKey → NestedKey × Addr × V → Prop := fun p z => p.2.2 = z.1 ∧ nk p.1 = some z.1 ∧ z.1.depth ≤ 8 ∧ Rp K H m p.1 (.ref z.2.1) ∧ Rp K H m p.2.1 z.2.2
theorem pairs_of (I : Inv X pins σ H s) : ∀ {ps : List D} {ws : List V} {its : List Value} {l : List (D × D × NestedKey)}, Rps (kx tb X) H m ps ws → Vals ws its → pairsN ps = some l →
    ∃ (ts : List Addr) (xs : List (NestedKey × Addr × V)) (ys : List (NestedKey × Addr × Value)), its = ts.map Value.ref ∧ Paired (fun t y => IsTup s.heap t #[.ref y.2.1, y.2.2]) ts ys ∧ Paired RelN xs ys ∧ Paired (RelL (kx tb X) H m) l xs ∧ ∀ y ∈ ys, (nkd X).is s.heap y.1 y.2.1
  | [], ws, its, l, h, r, e => by
    rw [Rps] at h; subst h; cases r; cases e
    exact ⟨[], [], [], rfl, .nil, .nil, .nil, fun y hy => nomatch hy⟩
  | p :: ps, ws, its, l, h, r, e => by
    rw [Rps] at h
    obtain ⟨v, vs, rfl, h1, h2⟩ := h
    unfold pairsN at e
    split at e
    · rename_i q r' hq hr
      cases e
      cases r with
      | cons r1 r2 =>
        obtain ⟨ts, xs, ys, rfl, g1, g2, g3, g4⟩ := pairs_of I h2 r2 hr
        unfold pairN at hq
        split at hq
        · rename_i ks x
          split at hq
          · rename_i k hk
            cases hq
            rw [Rp] at h1
            obtain ⟨a, us, rfl, ha, hu⟩ := h1
            obtain ⟨kv, xv, rfl, hkv, hxv⟩ := hu.two_iff
            cases r1
            obtain ⟨its2, rv, pl, hz⟩ := I.tuple ha
            cases rv with
            | cons s1 s2 =>
              cases s2 with
              | cons t1 t2 =>
                cases t2
                obtain ⟨b, e1, hb⟩ := key_is I hkv s1 hk
                subst e1
                have hkr := hkv
                rw [Rp] at hkr
                obtain ⟨b', _, rfl, _, _⟩ := hkr
                cases s1
                refine ⟨a :: ts, (k, b, xv) :: xs, (k, b, _) :: ys, rfl, .cons pl g1, .cons ⟨rfl, rfl, t1⟩ g2, .cons ⟨rfl, (keyN_ok hk).1, (keyN_ok hk).2, hkv, hxv⟩ g3, fun y hy => ?_⟩
                rcases (List.mem_cons.mp hy) with rfl | hy
                · exact hb
                · exact g4 y hy
          · cases hq
        · cases hq
    · cases e
theorem putAll_rel : ∀ {l : List (D × D × NestedKey)} {zs : List (NestedKey × Addr × V)} {ws : List (NestedKey × Addr × Value)}, Paired (RelL (kx tb X) H m) l zs → Paired RelN zs ws →
    ∀ {kvs : List (D × D)} {xs : List (NestedKey × Addr × V)} {ys : List (NestedKey × Addr × Value)}, Rdn (kx tb X) H m kvs xs → Paired RelN xs ys → ∃ xs', Rdn (kx tb X) H m (putAll l kvs) xs' ∧ Paired RelN xs' (storedAllH ys ws)
  | _, _, _, .nil, .nil, _, xs, _, h, r => ⟨xs, h, r⟩
  | p :: l, z :: zs, y :: ws, .cons a t, .cons b u, kvs, xs, ys, h, r => by
    obtain ⟨a1, a2, a3, a4, a5⟩ := a
    obtain ⟨b1, b2, b3⟩ := b
    have hsome : (atKey ys z.1).isSome = (lookN kvs z.1).isSome := by
      rcases look_rel (k := z.1) h r with ⟨i1, i2⟩ | ⟨d2, w, zz, i1, i2, i3, i4⟩
      · rw [i1, i2]; rfl
      · rw [i1, i2]; rfl
    have h1 := setV_dn h a2 a3 a4 a5
    have r1 := setV_rel (k := z.1) (q := z.2.1) (v := z.2.2) (u := y.2.2) r b3
    rw [hsome] at r1
    have fin := putAll_rel t u h1 r1
    rw [b1, b2] at fin
    have e : putAll (p :: l) kvs = putAll l (setN kvs p.1 z.1 p.2.1) := by show putAll l (setN kvs p.1 p.2.2 p.2.1) = _; rw [a1]
    rw [e, b1]
    exact fin
theorem storedAllH_length (ps : List (NestedKey × Addr × Value)) : ∀ xs : List (NestedKey × Addr × Value), (storedAllH xs ps).length ≤ xs.length + ps.length := by
  induction ps with
  | nil => intro xs; exact Nat.le_refl _
  | cons p ps ih =>
    intro xs
    have h1 := ih (storedH xs p.1 p.2.1 p.2.2); have h2 := storedH_length xs p.1 p.2.1 p.2.2
    show (storedAllH (storedH xs p.1 p.2.1 p.2.2) ps).length ≤ _; rw [List.length_cons]
    omega
def rDict (K : Kx) : List V → Hp → VK → Prop := fun vs H Q => ∃ m S n ps l v, SR K H m S ∧ vs = [v] ∧ Rp K H m (.ref n) v ∧ S[n]? = some (.lst ps) ∧ pairsN ps = some l ∧ Fin K H m (S ++ [.dn false (putAll l [])]) (.ref S.length) Q
theorem dictF_ok {K : Kx} : FOkN K dictF (rDict K) := by
  intro xs S d S' e H m vs Q hS hx q
  unfold dictF at e
  split at e
  · rename_i n
    split at e
    · rename_i ps h1
      split at e
      · rename_i l h2
        cases e
        obtain ⟨v, rfl, hv⟩ := hx.one_iff
        exact ⟨m, S, n, ps, l, v, hS, rfl, hv, h1, h2, q⟩
      · cases e
    · cases e
  · cases e
theorem call_dictN (hcalm : X.calm = true) (hu : X.A.units + 65 < cLine) : CallR X (.type "dict") (rDict (kx tb X)) := by
  intro pins s σ H xs us Q I r h; obtain ⟨m, S, n, ps, l, v, hS, rfl, hv, h1, h2, q⟩ := h
  obtain ⟨u, rfl, rx⟩ := vals1 r; rw [Rp] at hv
  obtain ⟨a, ha, rfl⟩ := hv
  cases rx
  obtain ⟨a', ws, m1, k1, r1⟩ := hS.lst h1
  rw [ha] at m1; cases m1
  obtain ⟨its, rv, pl, hz⟩ := I.list (SqL.of k1)
  obtain ⟨ts, zs, ys, ei, g1, g2, g3, g4⟩ := pairs_of I r1 rv h2
  subst ei
  have hl : ts.length = ys.length := Paired.length g1
  have hsz : ys.length ≤ sizeLine := by have := r1.length; have := rv.length; rw [List.length_map] at this; omega
  obtain ⟨xs', f1, f2⟩ := putAll_rel g3 g2 (kvs := []) (xs := []) (ys := []) .nil .nil
  have hp := I.hok.fresh (Nat.le_refl s.heap.objs.size)
  refine call_dict_pairsH (knd := nkd X) (ps := ys) (PairArg.list a (ts.map Value.ref).toArray (fun j => ts.getD j 0) (ys.map fun y => (Value.ref y.2.1, y.2.2))) (I.ok.hd hcalm) ?_ ?_ ?_ ?_ (by rw [List.length_map]; exact hsz) fun h' tk hd' hk => ?_
  · show X.A.units + 1 + 1 + 8 < cLine
    omega
  · refine ⟨pl, by simp [hl], fun j k v e => ?_⟩
    rw [List.getElem?_map] at e
    obtain ⟨y, hy, e2⟩ := Option.map_eq_some_iff.mp e
    cases e2
    obtain ⟨hj, _⟩ := List.getElem?_eq_some_iff.mp hy
    have ht : ts[j]? = some ts[j] := List.getElem?_eq_getElem (by omega)
    obtain ⟨y', hy', it⟩ := paired_get g1 ht
    rw [hy] at hy'; cases hy'
    have eg : ts.getD j 0 = ts[j] := by rw [List.getD_eq_getElem?_getD, ht]; rfl
    show (List.map Value.ref ts).toArray[j]? = some (Value.ref (ts.getD j 0)) ∧ PairAt s.heap (ts.getD j 0) (Value.ref y.2.1) y.2.2
    rw [eg]
    exact ⟨by simp [ht], .inl it⟩
  · refine ⟨by rw [List.length_map], fun i key v e => ?_⟩
    have e' : (ys.map fun y => (Value.ref y.2.1, y.2.2))[i]? = some (key, v) := e
    rw [List.getElem?_map] at e'
    obtain ⟨y, hy, e2⟩ := Option.map_eq_some_iff.mp e'
    cases e2
    exact ⟨y.1, y.2.1, hy, rfl⟩
  · exact fun h' k x hx => nestedKind_stays.stays (fun b o vs n e _ => k b o (Nat.ne_of_lt (Heap.lt_size e)) (fun z => nomatch z) e) (g4 x hx)
  · have k : ∀ b o, s.heap.get? b = some o → h'.get? b = some o := fun b o e => hk b o (fun z => nomatch z) e
    obtain ⟨ob, es, ep, d1, d2, d3, d4, _, d6⟩ := hd'
    have low : (s.heap.objs.size == sysModules) = false := beq_eq_false_iff_ne.mpr (Ne.symm (Nat.ne_of_lt I.big))
    have hlen : xs'.length ≤ sizeLine := by
      have e1 := Paired.length f2
      have e2 := storedAllH_length ys []
      simp only [List.length_nil, Nat.zero_add] at e2
      omega
    have new : dnF X.prog X.w s.heap.objs.size xs' h' := ⟨low, hlen, _, f2, ob, es, ep, d1, d2, d3, d4, d6⟩
    refine ⟨.ref s.heap.objs.size, _, I.laid (a := s.heap.objs.size) (o := .ext (dnF X.prog X.w s.heap.objs.size xs')) (t' := tk) k (Nat.le_refl _) (dn_obj new), rfl, ?_⟩
    refine q _ _ (m ++ [s.heap.objs.size]) (.newM hp) (hS.newM hp ⟨xs', upd_same, f1.mono (.newM hp)⟩) ?_
    rw [Rp]
    exact ⟨_, by rw [← hS.len]; simp, rfl⟩
end
end Ml
/-! a tuple the other way round -/
namespace Ml
open L2 HT PyProof.Rows PySem PySem.Spec
section
variable {prog : Program}
variable {w : World} {A : Around} {E : Value → Shared → Prop} {s : Shared}
theorem adjust_rev (n : Nat) : Builtin.Slice.sliceAdjust none none (-1) (n : Int) = ((n : Int) - 1, -1) := by
  unfold Builtin.Slice.sliceAdjust; have h1 : (-1 : Int) < 0 := by decide
  simp only [h1, if_true]
theorem places_rev (n : Nat) : Builtin.Slice.slicePlaces ((n : Int) - 1) (-1) (-1) = n := by
  unfold Builtin.Slice.slicePlaces; have h1 : ¬ ((-1 : Int) > 0) := by decide
  simp only [h1, if_false]
  split
  · rw [show (- -1 : Int) = 1 by decide, Int.ediv_one]; omega
  · omega
theorem applied_rev {sl : Addr} {vl vu vs : Value} {n : Nat} {Q : Int × Int × Nat → Shared → Prop} (hs : s.heap.IsSliceOf sl vl vu vs) (pl : IsPart vl none) (pu : IsPart vu none) (ps : IsPart vs (some (-1)))
    (h : Q ((n : Int) - 1, -1, n) s) : wpAny (model prog w) A (Builtin.Slice.sliceApplied (.ref sl) (pure (n : Int))) Q E s := by
  obtain ⟨os, hos, hcs, hds⟩ := id hs; unfold Builtin.Slice.sliceApplied Builtin.Slice.sliceFields
  refine wpAny_bind (wpAny_bind (wpAny_field hos hds (x := vl) rfl (wpAny_bind (wpAny_field hos hds (x := vu) rfl (wpAny_bind (wpAny_field hos hds (x := vs) rfl (wpAny_pure ?_)))))))
  refine wpAny_bind (slicePart_ ps ?_)
  show wpAny _ _ (if ((-1 : Int) == 0) = true then _ else _) _ _ s
  rw [if_neg (by decide)]
  refine wpAny_bind (slicePart_ pl (wpAny_bind (slicePart_ pu (wpAny_bind (wpAny_pure ?_))))); show wpAny _ _ (match Builtin.Slice.sliceAdjust none none (-1) (n : Int) with | (lo, hi) => pure (lo, (-1 : Int), Builtin.Slice.slicePlaces lo hi (-1))) _ _ s
  rw [adjust_rev n]
  show wpAny _ _ (pure ((n : Int) - 1, (-1 : Int), Builtin.Slice.slicePlaces ((n : Int) - 1) (-1) (-1))) _ _ s
  rw [places_rev]
  exact wpAny_pure h
theorem fm_congr {α β : Type} {f g : α → Option β} : ∀ {l : List α}, (∀ x ∈ l, f x = g x) → l.filterMap f = l.filterMap g
  | [], _ => rfl
  | x :: l, h => by
    rw [List.filterMap_cons, List.filterMap_cons, h x List.mem_cons_self, fm_congr fun y hy => h y (List.mem_cons_of_mem _ hy)]
theorem pick_rev (xs : Array Value) : ((List.range xs.size).filterMap fun (m : Nat) => xs[(((xs.size : Int) - 1) + (m : Int) * (-1)).toNat]?).toArray = xs.toList.reverse.toArray := by
  have e : (List.range xs.size).filterMap (fun (m : Nat) => xs[(((xs.size : Int) - 1) + (m : Int) * (-1)).toNat]?) = ((List.range xs.size).map fun k => xs.size - 1 - k).filterMap (xs[·]?) := by
    rw [List.filterMap_map]
    refine fm_congr fun k hk => ?_
    have := List.mem_range.mp hk
    show xs[_]? = xs[xs.size - 1 - k]?
    congr 1
    omega
  rw [e, PySem.W.krv_range, List.filterMap_reverse, PySem.W.krv_all]
theorem getItem_tuple_rev {t sl : Addr} {items : Array Value} {vl vu vs : Value} {Q : Value → Shared → Prop} (ht : IsTup s.heap t items) (hs : s.heap.IsSliceOf sl vl vu vs) (pl : IsPart vl none) (pu : IsPart vu none) (ps : IsPart vs (some (-1)))
    (h : Q (.ref s.heap.objs.size) { s with heap := s.heap.push { cls := .type "tuple", data := .seq items.toList.reverse.toArray } })
    (hz : items.size ≤ sizeLine) : wpAny (model prog w) A (getItem (.ref t) (.ref sl)) Q E s := by
  have htake : sizeOk (.seq items.toList.reverse.toArray) := by
    show items.toList.reverse.toArray.size ≤ sizeLine
    rw [List.size_toArray, List.length_reverse, Array.length_toList]; omega
  obtain ⟨os, hos, hcs, hds⟩ := id hs; have hTs : s.TypeIs (.ref sl) "slice" := ⟨os, hos, hcs⟩
  unfold getItem; try with_reducible refine wpAny_holding ?_
  first | refine wpAny_bind (wpAny_pure ?_) | skip; refine wpAny_bind (wpAny_sequenceKey ht.typeIs (by decide) ?_)
  refine wpAny_bind (wpAny_callSpecial?_slot (name := Str.ofString "__getitem__") ht.typeIs (PyProof.Rows.slot_tuple_getitem)
    (wpAny_call_entry (PyProof.Rows.slot_tuple_getitem) ht.typeIs entry_tuple_getitem ?_ (args_tuple_getitem _ _)))
  show wpAny _ _ (Builtin.Tuple.tupleItemsOf (.ref t) >>= _) _ _ s; refine wpAny_bind (tupleItemsOf_ ht (?_))
  refine wpAny_bind (wpAny_typeOf hTs ?_); rw [if_pos (by decide)]
  refine wpAny_bind (applied_rev hs pl pu ps ?_)
  show wpAny _ _ (if (((items.size : Int) - 1 == 0) && ((-1 : Int) == 1) && (items.size == items.size)) = true then _ else _) _ _ s
  rw [if_neg (by simp), pick_rev]
  first
    | exact wpAny_bind (m := Builtin.Tuple.tupleExact _) (wpAny_newObj_type (wpAny_pure ⟨_, rfl, (wpAny_pure h)⟩) htake)
    | exact wpAny_bind (m := Builtin.Tuple.tupleExact _) (wpAny_newObj_type (wpAny_bind (wpAny_pure (wpAny_pure ⟨_, rfl, (wpAny_pure h)⟩))) htake)
    | exact wpAny_bind (wpAny_bind (m := Builtin.Tuple.tupleExact _) (wpAny_newObj_type (wpAny_pure (wpAny_pure ⟨_, rfl, (wpAny_pure h)⟩)) htake))
    | exact wpAny_bind (wpAny_bind (m := Builtin.Tuple.tupleExact _) (wpAny_newObj_type (wpAny_pure ⟨_, rfl, (wpAny_pure h)⟩) htake))
end
def tRevT (K : PySem.W.Frag) (te : TE) : TE := fun σ H Q => te σ H fun x H1 => ∃ a xs, x = .ref a ∧ SqT K H1 a xs ∧ ∀ p, H1 p = none → Q (.ref p) (upd H1 p (.tup xs.reverse))
section
variable {tb : List NdefX.NTab} {X : Cx} {K : Kx} {a e : Expr} {ea : EvM} {pos : Pos}
theorem pe_revT {te : TE} {k : Nat} {p1 p2 p3 : Pos} (he : PE X e te) : PE X (.Subscript e (.Slice none none (some (.UnaryOp .USub (.Constant (.int 1) k p1) p2)) p3) pos) (tRevT X.K te) := by
  refine ⟨fun pins s σ H Q I h => Subscript_ (thn (he.run pins s σ H _ I h) fun v s1 ⟨x, H1, I1, r1, q1⟩ => ?_)⟩
  obtain ⟨a, xs, ex, hx, q⟩ := q1; subst ex; cases r1
  have hst : PO X (some (.UnaryOp .USub (.Constant (.int 1) k p1) p2)) (tPart (tUn (rU fun i => .int (-i)) (tC (.int 1)))) := po_some (pe_un un_neg pe_int); refine wpAny_Slice (thn (po_none.run pins s1 σ H1 (fun o H2 => o = none ∧ H2 = H1) I1 ⟨rfl, rfl⟩) fun vl s2 ⟨l, H2, I2, pl, el, e2⟩ => ?_); subst el e2
  refine thn (po_none.run pins s2 σ H2 (fun o H3 => o = none ∧ H3 = H2) I2 ⟨rfl, rfl⟩) fun vu s3 ⟨u, H3, I3, pu, eu, e3⟩ => ?_; subst eu e3
  refine thn (hst.run pins s3 σ H3 (fun o H4 => o = some (-1) ∧ H4 = H3) I3 ⟨1, rfl, -1, rfl, rfl, rfl⟩) fun vs s4 ⟨o, H4, I4, ps, eo, e4⟩ => ?_; subst eo e4
  have I5 : Inv X pins σ H4 { s4 with heap := s4.heap.push { cls := .type "slice", data := .fields #[vl, vu, vs] } } := I4.kept (t' := s4.toks) fun b ob q => Heap.get?_push_of_some _ q; obtain ⟨its, r, ht, hz⟩ := I5.tuple hx
  have hlen := r.length
  show wpAny (model X.prog X.w) X.A (subscriptTail e (.Slice none none (some (.UnaryOp .USub (.Constant (.int 1) k p1) p2)) p3) (.ref a) (.ref s4.heap.objs.size)) (EP X pins σ Q) X.xe { s4 with heap := s4.heap.push { cls := .type "slice", data := .fields #[vl, vu, vs] } }; refine tail_any (ops := [.ref a, .ref s4.heap.objs.size]) ht.typeIs (PyProof.Rows.slot_tuple_getitem.lookup) ?_ (by with_unfolding_all rfl)
  refine getItem_tuple_rev ht (Heap.IsSliceOf.new _ vl vu vs) pl pu ps ?_ (by rw [List.size_toArray]; omega)
  refine ⟨.ref _, _, I5.laid (t' := s4.toks) (o := .tup xs.reverse) (fun b ob q => Heap.get?_push_of_some _ q) (Nat.le_refl _) ?_, rfl, q _ (I5.hok.fresh (Nat.le_refl _))⟩
  exact ⟨by rw [List.length_reverse]; exact hz, _, r.reverse, IsTup.new _ _⟩
def revTM (ea : EvM) : EvM := fun γ S => match ea γ S with
  | some (.tup xs, S1) => some (.tup xs.reverse, S1)
  | _ => none
theorem me_revT {k : Nat} {p1 p2 p3 : Pos} (ha : ME tb X a ea) : ME tb X (.Subscript a (.Slice none none (some (.UnaryOp .USub (.Constant (.int 1) k p1) p2)) p3) pos) (revTM ea) := by
  refine PE.imp (pe_revT ha) fun σ H Q h => ?_
  obtain ⟨m, S, γ, d, S', hS, hγ, e1, q⟩ := h
  unfold revTM at e1
  split at e1
  · rename_i xs S1 h1
    cases e1
    refine ⟨m, S, γ, _, _, hS, hγ, h1, fun w H1 m1 x1 hS1 hw => ?_⟩
    rw [Rp] at hw
    obtain ⟨a, vs, rfl, k1, r1⟩ := hw
    refine ⟨a, vs, rfl, k1, fun p hp => ?_⟩
    refine q _ _ m1 (x1.trans (.new hp)) (hS1.new hp) ?_
    rw [Rp]
    exact ⟨p, _, rfl, .inl (.inl upd_same), (r1.mono (.new hp)).reverse⟩
  · cases e1
end
end Ml
/-! comprehensions of two clauses -/
namespace Ml
open L2 PyProof.Rows PySem PySem.Spec
open Classical
section
variable {tb : List NdefX.NTab} {X : Cx} {K : Kx} {elt tg iter tg1 iter1 : Expr} {ifs ifs1 : List Expr} {scope : Scope} {own : List (Str × Nat)} {pos : Pos} {iv iv1 : IvM} {tgt tgt1 : Tgt} {ca ca1 : CvM} {ea : EvM} {vs vs1 : List Nat}
noncomputable def comp2I (ck : Option (Nat × O)) (tgt : Tgt) (t : CvM) (iv1 : IvM) (tgt1 : Tgt) (t1 : CvM) (e : EvM) (γ : Sl) (vs1 : List Nat) (n : Nat) : List D → Sto → Option Sto
  | [], S => if Chk ck S then some S else none
  | x :: r, S => if Chk ck S then match bindT tgt x γ with
      | none => none
      | some γ1 => match t γ1 S with
        | none => none
        | some (false, S1) => comp2I ck tgt t iv1 tgt1 t1 e γ vs1 n r S1
        | some (true, S1) => match iv1 γ1 S1 with
          | none => none
          | some (ck1, xs1, S2) => match compI ck1 tgt1 t1 e (wipeD γ1 vs1) n xs1 S2 with
            | none => none
            | some S3 => comp2I ck tgt t iv1 tgt1 t1 e γ vs1 n r S3
    else none
noncomputable def comp2M (iv : IvM) (tgt : Tgt) (t : CvM) (iv1 : IvM) (tgt1 : Tgt) (t1 : CvM) (e : EvM) (vs vs1 : List Nat) : EvM := fun γ S => match iv γ S with
  | none => none
  | some (ck, xs, S1) => match comp2I ck tgt t iv1 tgt1 t1 e (wipeD γ vs) vs1 S1.length xs (S1 ++ [.lst []]) with
    | some S' => some (.ref S1.length, S')
    | none => none
theorem lcm2_core {σ : L2.St} {H : Hp} {Q : VK} (hv : inTgt tgt vs = true) (hv1 : inTgt tgt1 vs1 = true) (h : tM K (comp2M iv tgt ca iv1 tgt1 ca1 ea vs vs1) σ H Q) :
    tLc2 (tIM K iv) (gTgt K.f tgt) (tTM K ca) (tIM K iv1) (gTgt K.f tgt1) (tTM K ca1) (tM K ea) vs vs1 σ H Q := by
  obtain ⟨m, S, γ, d, S', hS, hγ, e, q⟩ := h
  unfold comp2M at e
  split at e
  · cases e
  · rename_i ck xs S1 h1
    split at e
    · rename_i Sf h2
      cases e
      refine ⟨m, S, γ, ck, xs, S1, hS, hγ, h1, fun J H1 m1 x1 hS1 wk D hD => ?_⟩
      have hS2 : SR K (upd H1 D (.lst [])) (m1 ++ [D]) (S1 ++ [.lst []]) := hS1.newM hD ⟨[], upd_same, by rw [Rps]⟩
      have x2 : Ext K H1 m1 (upd H1 D (.lst [])) (m1 ++ [D]) := .newM hD
      have hDm : (m1 ++ [D])[S1.length]? = some D := by rw [← hS1.len]; simp
      refine ⟨fun i k H => i ≤ xs.length ∧ k = xs.length - i ∧ ∃ m S, Ext K (upd H1 D (.lst [])) (m1 ++ [D]) H m ∧ SR K H m S ∧ comp2I ck tgt ca iv1 tgt1 ca1 ea (wipeD γ vs) vs1 S1.length (xs.drop i) S = some S',
        ⟨xs.length, Nat.zero_le _, rfl, m1 ++ [D], _, .refl, hS2, h2⟩, ?_⟩
      rintro i k H ⟨hi, rfl, m, S, x3, hS3, e⟩
      by_cases hlt : i < xs.length
      · rw [drop_cons (List.getElem?_eq_getElem hlt)] at e
        unfold comp2I at e
        split at e
        · rename_i hk
          obtain ⟨hgo, hy⟩ := wk.go H m S i (x2.trans x3) hS3 hk hlt
          refine .inr ⟨hgo, fun H => ∃ m S, Ext K (upd H1 D (.lst [])) (m1 ++ [D]) H m ∧ SR K H m S ∧ comp2I ck tgt ca iv1 tgt1 ca1 ea (wipeD γ vs) vs1 S1.length (xs.drop (i + 1)) S = some S',
            fun H' w => ⟨xs.length - (i + 1), by omega, hlt, rfl, w⟩, fun v H2 yl => ?_⟩
          obtain ⟨d, hd, x4, hS4, hv2⟩ := hy v H2 yl
          rw [List.getElem?_eq_getElem hlt] at hd
          cases hd
          split at e
          · cases e
          · rename_i γ1 h3
            have hγ2 : SLR K H2 m (wipeD γ vs) (wipe σ vs) := (hγ.mono (x1.trans (x2.trans (x3.trans x4)))).wipe vs
            refine gTgt_ok hγ2 hv2 h3 hv fun σ1 hγ3 hw => ⟨by rw [hw, wipe_wipe], ?_⟩
            split at e
            · cases e
            · rename_i S5 h4
              refine ⟨m, S, γ1, false, S5, hS4, hγ3, h4, fun H5 m5 x5 hS5 => iteF ?_⟩
              exact ⟨m5, S5, x3.trans (x4.trans x5), hS5, e⟩
            · rename_i S5 h4
              refine ⟨m, S, γ1, true, S5, hS4, hγ3, h4, fun H5 m5 x5 hS5 => iteT ?_⟩
              split at e
              · cases e
              · rename_i ck1 xs1 S6 h5
                split at e
                · cases e
                · rename_i S7 h6
                  refine ⟨m5, S5, γ1, ck1, xs1, S6, hS5, hγ3.mono x5, h5, fun J1 H6 m6 x6 hS6 wk1 => ?_⟩
                  have xb := x3.trans (x4.trans (x5.trans x6))
                  refine ⟨fun j k H => j ≤ xs1.length ∧ k = xs1.length - j ∧ ∃ m S, Ext K H6 m6 H m ∧ SR K H m S ∧ compI ck1 tgt1 ca1 ea (wipeD γ1 vs1) S1.length (xs1.drop j) S = some S7,
                    ⟨xs1.length, Nat.zero_le _, rfl, m6, _, .refl, hS6, h6⟩, ?_⟩
                  rintro j k H ⟨hj, rfl, m8, S8, x8, hS8, e8⟩
                  by_cases hl1 : j < xs1.length
                  · rw [drop_cons (List.getElem?_eq_getElem hl1)] at e8
                    unfold compI at e8
                    split at e8
                    · rename_i hk1
                      obtain ⟨hgo1, hy1⟩ := wk1.go H m8 S8 j x8 hS8 hk1 hl1
                      refine .inr ⟨hgo1, fun H => ∃ m S, Ext K H6 m6 H m ∧ SR K H m S ∧ compI ck1 tgt1 ca1 ea (wipeD γ1 vs1) S1.length (xs1.drop (j + 1)) S = some S7,
                        fun H' w => ⟨xs1.length - (j + 1), by omega, hl1, rfl, w⟩, fun v H9 yl => ?_⟩
                      obtain ⟨d1, hd1, x9, hS9, hv9⟩ := hy1 v H9 yl
                      rw [List.getElem?_eq_getElem hl1] at hd1
                      cases hd1
                      split at e8
                      · cases e8
                      · rename_i γ2 h9
                        have hγ9 : SLR K H9 m8 (wipeD γ1 vs1) (wipe σ1 vs1) := (hγ3.mono (x5.trans (x6.trans (x8.trans x9)))).wipe vs1
                        refine gTgt_ok hγ9 hv9 h9 hv1 fun σ3 hγ10 hw3 => ⟨by rw [hw3, wipe_wipe], ?_⟩
                        split at e8
                        · cases e8
                        · rename_i S10 h10
                          refine ⟨m8, S8, γ2, false, S10, hS9, hγ10, h10, fun H10 m10 x10 hS10 => iteF ?_⟩
                          exact ⟨m10, S10, x8.trans (x9.trans x10), hS10, e8⟩
                        · rename_i S10 h10
                          refine ⟨m8, S8, γ2, true, S10, hS9, hγ10, h10, fun H10 m10 x10 hS10 => iteT ?_⟩
                          split at e8
                          · cases e8
                          · rename_i y S11 h11
                            refine ⟨m10, S10, γ2, y, S11, hS10, hγ10.mono x10, h11, fun w H11 m11 x11 hS11 hw11 => ?_⟩
                            split at e8
                            · rename_i acc h12
                              split at e8
                              · rename_i hz
                                have x12 := x8.trans (x9.trans (x10.trans x11))
                                obtain ⟨a', ws, m7, k7, r7⟩ := hS11.lst h12
                                have hDa := (xb.trans x12).get hDm
                                rw [hDa] at m7; cases m7
                                exact ⟨ws, k7, by rw [r7.length]; exact hz, m11, _, x12.trans (.upd k7 trivial), hS11.upd (u := .lst (acc ++ [y])) hDa (lt_of h12) ⟨_, upd_same, (r7.append (Rps.one hw11)).mono (.upd k7 trivial)⟩, e8⟩
                              · cases e8
                            · cases e8
                    · cases e8
                  · have hj2 : j = xs1.length := by omega
                    subst hj2
                    rw [List.drop_length] at e8
                    unfold compI at e8
                    split at e8
                    · rename_i hk1
                      cases e8
                      exact .inl ⟨wk1.stop H m8 _ x8 hS8 hk1, m8, _, xb.trans x8, hS8, e⟩
                    · cases e8
        · cases e
      · have hi2 : i = xs.length := by omega
        subst hi2
        rw [List.drop_length] at e
        unfold comp2I at e
        split at e
        · rename_i hk
          cases e
          refine .inl ⟨wk.stop H m _ (x2.trans x3) hS3 hk, q _ H m (x1.trans (x2.trans x3)) hS3 ?_⟩
          rw [Rp]
          exact ⟨D, x3.get hDm, rfl⟩
        · cases e
    · cases e
theorem me_lc2 (hc : X.calm = true) (hN : X.N.Nodup) (hi : MI tb X tg iter iv) (ok : BlkOk X.N X.env.scope scope own) (hv : inTgt tgt (own.map (·.2)) = true) (hv1 : inTgt tgt1 vs1 = true) (hsub : ∀ i ∈ vs1, i ∈ own.map (·.2))
    (hg : ∀ (s : Shared) (H : Hp) (C : Addr) (cl : List (Str × Addr)) (fp : List Addr), PG (X.blk s H scope (compEnvC scope cl C X.env) fp) tg (gTgt X.K tgt)) (ht : ∀ (s : Shared) (H : Hp) (C : Addr) (cl : List (Str × Addr)) (fp : List Addr), MTs tb (X.blk s H scope (compEnvC scope cl C X.env) fp) ifs ca)
    (hi1 : ∀ (s : Shared) (H : Hp) (C : Addr) (cl : List (Str × Addr)) (fp : List Addr), MI tb (X.blk s H scope (compEnvC scope cl C X.env) fp) tg1 iter1 iv1)
    (hg1 : ∀ (s : Shared) (H : Hp) (C : Addr) (cl : List (Str × Addr)) (fp : List Addr), PG (X.blk s H scope (compEnvC scope cl C X.env) fp) tg1 (gTgt X.K tgt1)) (ht1 : ∀ (s : Shared) (H : Hp) (C : Addr) (cl : List (Str × Addr)) (fp : List Addr), MTs tb (X.blk s H scope (compEnvC scope cl C X.env) fp) ifs1 ca1)
    (he : ∀ (s : Shared) (H : Hp) (C : Addr) (cl : List (Str × Addr)) (fp : List Addr), ME tb (X.blk s H scope (compEnvC scope cl C X.env) fp) elt ea) (hs : ∀ x, foldedSetIterable iter X.env x = pure x := by intro _; rfl) (hs1 : ∀ env x, foldedSetIterable iter1 env x = pure x := by intro _ _; rfl) :
    ME tb X (.ListComp elt [⟨tg, iter, ifs, 0⟩, ⟨tg1, iter1, ifs1, 0⟩] scope pos) (comp2M iv tgt ca iv1 tgt1 ca1 ea (own.map (·.2)) vs1) :=
  PE.imp (pe_lc2 hc hN hi ok hsub hg ht hi1 hg1 ht1 he hs hs1) fun σ H Q h => lcm2_core hv hv1 h
theorem ms_setLc2 (i : Nat) {y : Str} {py : Pos} {spos : Pos} (hc : X.calm = true) (hN : X.N.Nodup) (hy : X.N[i]? = some y) (hyl : X.env.scope.names.lookup y = some .local)
    (hsw : swapsWith (.ListComp elt [⟨tg, iter, ifs, 0⟩, ⟨tg1, iter1, ifs1, 0⟩] scope pos) (some (.Name y py)) spos.line X.env = pure true) (hi : MI tb X tg iter iv) (ok : BlkOk X.N X.env.scope scope own) (hv : inTgt tgt (own.map (·.2)) = true) (hv1 : inTgt tgt1 vs1 = true) (hsub : ∀ i ∈ vs1, i ∈ own.map (·.2))
    (hg : ∀ (s : Shared) (H : Hp) (C : Addr) (cl : List (Str × Addr)) (fp : List Addr), PG (X.blk s H scope (compEnvC scope cl C X.env) fp) tg (gTgt X.K tgt)) (ht : ∀ (s : Shared) (H : Hp) (C : Addr) (cl : List (Str × Addr)) (fp : List Addr), MTs tb (X.blk s H scope (compEnvC scope cl C X.env) fp) ifs ca)
    (hi1 : ∀ (s : Shared) (H : Hp) (C : Addr) (cl : List (Str × Addr)) (fp : List Addr), MI tb (X.blk s H scope (compEnvC scope cl C X.env) fp) tg1 iter1 iv1)
    (hg1 : ∀ (s : Shared) (H : Hp) (C : Addr) (cl : List (Str × Addr)) (fp : List Addr), PG (X.blk s H scope (compEnvC scope cl C X.env) fp) tg1 (gTgt X.K tgt1)) (ht1 : ∀ (s : Shared) (H : Hp) (C : Addr) (cl : List (Str × Addr)) (fp : List Addr), MTs tb (X.blk s H scope (compEnvC scope cl C X.env) fp) ifs1 ca1)
    (he : ∀ (s : Shared) (H : Hp) (C : Addr) (cl : List (Str × Addr)) (fp : List Addr), ME tb (X.blk s H scope (compEnvC scope cl C X.env) fp) elt ea) (hs : ∀ x, foldedSetIterable iter X.env x = pure x := by intro _; rfl) (hs1 : ∀ env x, foldedSetIterable iter1 env x = pure x := by intro _ _; rfl) :
    MS tb X (.Assign [.Name y py] (.ListComp elt [⟨tg, iter, ifs, 0⟩, ⟨tg1, iter1, ifs1, 0⟩] scope pos) spos) (asgM (comp2M iv tgt ca iv1 tgt1 ca1 ea (own.map (·.2)) vs1) (nameG i)) :=
  PS.imp (ps_setLc2 hc hN hy hyl hsw hi ok hsub hg ht hi1 hg1 ht1 he hs hs1) fun Dn σ H h => by
    obtain ⟨m, S, γ, f, γ', S', hS, hγ, e, q⟩ := h
    unfold asgM nameG at e
    split at e
    · cases e
    · rename_i d S1 h1
      cases e
      refine lcm2_core hv hv1 (Q := fun x H1 => gName i x σ H1 Dn.nx) ⟨m, S, γ, d, _, hS, hγ, h1, fun w H1 m1 x1 hS1 hw => ?_⟩
      exact q _ H1 m1 x1 hS1 ((hγ.mono x1).set hw)
end
end Ml
/-! list(reversed(a list)) -/
namespace Ml
open L2 RT PyProof.Rows PySem PySem.Spec
section
variable {prog : Program}
variable {w : World} {A : Around} {E : Value → Shared → Prop} {s : Shared}
theorem extend_rev {it l S : Addr} {items : Array Value} {res : Value} {c₀ : Nat} {R : Result → Shared → Prop} (hh : A.handled = none) (hit : s.heap.IsRevIter it l ((items.size : Int) - 1)) (hl : s.heap.IsList l items) (hne : l ≠ it) (hn : items.size ≤ sizeLine)
    (hSi : S ≠ it) (hSl : S ≠ l) (hS : s.heap.get? S = some { cls := .type "list", data := .seq #[] c₀ })
    (hR : ∀ h' tk acc' c', (∀ b o, b ≠ S → b ≠ it → s.heap.get? b = some o → h'.get? b = some o) → h'.get? S = some { cls := .type "list", dict := none, data := .seq acc' c', slots := #[] } → ItemsOf (fun i v => items[items.size - 1 - i]? = some v) acc' items.size → R (.ok (.ret res)) { s with heap := h', toks := tk }) : wpAny (model prog w) A.in1 (Builtin.List.listExtendWith (.ref S) (.ref it) res) (fun fin s' => match fin with | .done f => R (.ok f) s' | .again c' => c'.quiet = true ∧ codeAny (model prog w) A c' R s') (fun e s' => R (.error e) s') s := by
  have W := (Walks.listRev (prog := prog) (w := w) (A := A.in1) hh it l hne items).toS; have hSf : S ∉ [it, l] := by simp only [List.mem_cons, List.not_mem_nil, or_false, not_or]; exact ⟨hSi, hSl⟩
  have hT : s.TypeIs (.ref it) "list_reverseiterator" := hit.typeIs
  have h1 : Builtin.List.listSameRef (.ref S) (.ref it) = false := by simp [Builtin.List.listSameRef, hSi]
  unfold Builtin.List.listExtendWith; refine wpAny_bind (wpAny_typeOf hT ?_)
  rw [if_neg (by rw [h1]; decide)]; refine wpAny_bind (wpAny_pyIter_revIter hit ?_)
  refine wpAny_bind (wpAny_holding (?_))
  unfold Builtin.List.listLengthHint; refine wpAny_bind (wpAny_specialOf hT (nolen_lri) ?_)
  show wpAny _ A.in1 (specialOf (Value.ref it) (Str.ofString "__length_hint__") >>= _) _ _ _; refine wpAny_bind (wpAny_specialOf hT (hint_lri) ?_)
  generalize hid : ("list_reverseiterator.__length_hint__" : String) = id0; wp_delta
  rw [show splitId id0 = some ("list_reverseiterator", "__length_hint__") from by subst hid; decide +kernel]; subst hid
  refine wpAny_bind (wpAny_isInstance (b := true) hT (by rw [isSubtype_type]; kernel_rfl) ?_); refine wpAny_pure ?_
  rw [if_neg (by decide)]
  have e0 : ((items.size : Nat) : Int) - 1 - ((0 : Nat) : Int) = (items.size : Int) - 1 := (by omega); refine wpAny_pure ⟨plainId_quiet F.plain_extend_loop _, codeAny_extend_loopS W hn _ hSf _ items.size 0 _ _ _ rfl (Nat.zero_le _) ⟨Nat.zero_le _, by rw [e0]; exact hit, hl⟩ hS (ItemsOf.nil _) fun s' acc' c' hm hS' hacc => ?_⟩
  rw [Moved.eq_with hm]
  refine hR s'.heap s'.toks acc' c' (fun b o hb hb2 e => hm.heap b o (fun hmem => ?_) e) hS' hacc
  rcases (List.mem_cons.mp hmem) with e' | hmem
  · exact hb e'
  · exact hb2 (List.mem_singleton.mp hmem)
theorem call_list_rev {it l : Addr} {items : Array Value} {Q : Value → Shared → Prop} (hh : A.handled = none) (hit : s.heap.IsRevIter it l ((items.size : Int) - 1)) (hl : s.heap.IsList l items) (hne : l ≠ it) (hn : items.size ≤ sizeLine)
    (hQ : ∀ (h' : Heap) (tk : Nat) (acc : Array Value) (c : Nat), (∀ b o, b ≠ it → s.heap.get? b = some o → h'.get? b = some o) → h'.get? s.heap.objs.size = some { cls := .type "list", dict := none, data := .seq acc c, slots := #[] } →
      ItemsOf (fun i v => items[items.size - 1 - i]? = some v) acc items.size → Q (.ref s.heap.objs.size) { s with heap := h', toks := tk }) : wpAny (model prog w) A (call (.type "list") [.ref it]) Q E s := by
  refine callType_codes (Q₁ := fun obj s₁ => obj = .ref s.heap.objs.size ∧ s₁ = { s with heap := s.heap.push { cls := .type "list", data := .seq #[] } }) F.called_list (F.typeCall_list_1 _) F.entry_list_init (code_list_new _ ⟨rfl, rfl⟩) fun obj s₁ h₁ => ?_
  obtain ⟨rfl, rfl⟩ := h₁
  have hS : (s.heap.push { cls := .type "list", data := .seq #[] }).get? s.heap.objs.size = some { cls := .type "list", data := .seq #[] } := Heap.get?_push_size _ rfl; obtain ⟨oi, hoi, _⟩ := id hit
  obtain ⟨ol, hol, _⟩ := id hl
  have hSi : s.heap.objs.size ≠ it := Nat.ne_of_gt (Heap.lt_size hoi); have hSl : s.heap.objs.size ≠ l := Nat.ne_of_gt (Heap.lt_size hol)
  refine ⟨⟨_, hS, rfl⟩, F.args_list_init_2 _ _, ?_⟩; generalize hs2 : s.heap.push { cls := .type "list", data := .seq #[] } = h2
  rw [hs2] at hS
  have k2 : ∀ b o, s.heap.get? b = some o → h2.get? b = some o := fun b o e => by rw [← hs2]; exact Heap.get?_push_of_some _ e
  show wpAny _ _ (do let old ← Builtin.List.listItems (.ref s.heap.objs.size); Builtin.List.listUpdate (.ref s.heap.objs.size) (fun _ => #[]); letGo old.toList.reverse; Builtin.List.listExtendWith (.ref s.heap.objs.size) (.ref it) .none) _ _ { s with heap := h2 }
  refine wpAny_bind ?_
  unfold Builtin.List.listItems
  refine wpAny_bind (wpAny_seqItems hS rfl (wpAny_pure ?_)); show wpAny _ _ (updateSeq s.heap.objs.size (fun _ => #[]) >>= fun _ => letGo (#[] : Array Value).toList.reverse >>= fun _ => Builtin.List.listExtendWith (.ref s.heap.objs.size) (.ref it) .none) _ _ { s with heap := h2 }
  refine wpAny_bind (wpAny_updateSeq hS rfl ?_); have hS₂ := Heap.get?_update_self (Obj.mapSeq (fun _ => (#[] : Array Value))) hS rfl
  have oth : ∀ b o, b ≠ s.heap.objs.size → h2.get? b = some o → (h2.update s.heap.objs.size (Obj.mapSeq (fun _ => (#[] : Array Value)))).get? b = some o :=
    fun b o hb e => by rw [Heap.get?_update_other _ _ (Ne.symm hb)]; exact e
  refine wpAny_bind (wpAny_letGo ?_); refine extend_rev (A := A.in1) (s := { s with heap := h2.update s.heap.objs.size (Obj.mapSeq (fun _ => (#[] : Array Value))) }) hh (hit.at fun o e => oth it o (Ne.symm hSi) (k2 it o e)) (hl.at fun o e => oth l o (Ne.symm hSl) (k2 l o e)) hne hn hSi hSl hS₂ fun h' tk acc' c' hk hS' hacc => ?_
  refine ⟨rfl, hQ h' tk acc' c' (fun b o hb e => ?_) hS' hacc⟩
  have hbS : b ≠ s.heap.objs.size := Nat.ne_of_lt (Heap.lt_size e)
  exact hk b o hbS hb (oth b o hbS (k2 b o e))
end
def tLstRev (K : PySem.W.Frag) (te : TE) : TE := fun σ H Q => te σ H fun v H1 => ∃ (a : Addr) (xs : List V), v = .ref a ∧ SqL K H1 a xs ∧ ∀ q, H1 q = none → Q (.ref q) (upd H1 q (.lst xs.reverse))
section
variable {tb : List NdefX.NTab} {X : Cx} {K : Kx} {e : Expr} {ea : EvM}
theorem pe_lstRev {te : TE} {p p2 pos pos2 : Pos} (hc : X.calm = true) (hg : Gl X "list") (hm : X.mg "list" = none) (hg2 : Gl X "reversed") (hm2 : X.mg "reversed" = none) (he : PE X e te) (hs : starEach [e] X.env = (false, eval e X.env) :: starEach [] X.env := by rfl) (hs2 : starEach [.Call (.Name "reversed" p2) [e] [] pos2] X.env = (false, eval (.Call (.Name "reversed" p2) [e] [] pos2) X.env) :: starEach [] X.env := by rfl) :
    PE X (.Call (.Name "list" p) [.Call (.Name "reversed" p2) [e] [] pos2] [] pos) (tLstRev X.K te) := by
  refine .mk fun pins s σ H Q I h => ?_
  refine Call_ (ld_blt I hg hm boot_list (PyProof.Rows.callWith_type1 (args_cons (Call_ (ld_blt I hg2 hm2 PyProof.Rows.boot_reversed (PyProof.Rows.callWith_type1 (args_cons (thn (he.run pins s σ H _ I h) fun u s1 ⟨v, H1, I1, r1, q1⟩ => args_nil ?_) hs) hs rfl))) hs2) hs2 rfl))
  obtain ⟨a, xs, ev, hq, q⟩ := q1; subst ev
  obtain rfl : u = Value.ref a := r1; obtain ⟨its, rv, p', hz⟩ := I1.list hq
  refine call_reversed_list p'.isList (args_nil ?_); have k0 : ∀ b o, s1.heap.get? b = some o → (s1.heap.push (revObj a ((its.toArray.size : Int) - 1))).get? b = some o := fun b o e => (Heap.get?_push_of_some _ e)
  have I2 : Inv X pins σ H1 { s1 with heap := s1.heap.push (revObj a ((its.toArray.size : Int) - 1)) } := I1.kept (t' := s1.toks) k0; obtain ⟨f0, f1, f2, f3, f4, f5⟩ := I1.fpOk (H' := H1) (b := s1.heap.objs.size) (Nat.le_refl _) (I1.hok.fresh (Nat.le_refl _))
  have hl := p'.isList
  obtain ⟨ol, hol, _⟩ := id hl
  have hne : a ≠ s1.heap.objs.size := Nat.ne_of_lt (Heap.lt_size hol); have hn : its.toArray.size ≤ sizeLine := by rw [List.size_toArray, ← rv.length]; exact hz
  refine call_list_rev (s := { s1 with heap := s1.heap.push (revObj a ((its.toArray.size : Int) - 1)) }) (I1.ok.hd hc) ⟨_, Heap.get?_push_size _ rfl, rfl, rfl⟩ (hl.push _) hne hn fun h' tk acc c hk hS hi => ?_
  have hS : h'.get? (s1.heap.push (revObj a ((its.toArray.size : Int) - 1))).objs.size = some { cls := .type "list", dict := none, data := .seq acc c, slots := #[] } := hS
  have hfr : H1 (s1.heap.push (revObj a ((its.toArray.size : Int) - 1))).objs.size = none := I2.hok.fresh (Nat.le_refl _)
  have I3 : Inv X pins σ H1 { s1 with heap := h', toks := tk } := I2.turned (t' := tk) (fun b o hb e => hk b o hb e) f0 f1 f3 f4 f5; have hrev := vals_rev rv hi
  have new : ObjOk X.prog X.w (upd H1 (s1.heap.push (revObj a ((its.toArray.size : Int) - 1))).objs.size (.lst xs.reverse)) h' (s1.heap.push (revObj a ((its.toArray.size : Int) - 1))).objs.size (.lst xs.reverse) := by
    refine ⟨by rw [List.length_reverse]; exact hz, acc.toList, c, hrev, ?_⟩
    rw [Array.toArray_toList]
    exact hS
  have I4 : Inv X pins σ (upd H1 (s1.heap.push (revObj a ((its.toArray.size : Int) - 1))).objs.size (.lst xs.reverse)) { s1 with heap := h', toks := tk } :=
    Inv.turnedNew (s := { s1 with heap := s1.heap.push (revObj a ((its.toArray.size : Int) - 1)) }) (t' := tk) (ch := [s1.heap.objs.size]) I2 (fun b o hb e => hk b o (fun z => hb (by simp [z])) e) (fun b hb => by
      have z : b = s1.heap.objs.size := by simpa using hb
      subst z
      exact ⟨f0, f1, f2, f3, f4, f5⟩) (Nat.le_refl _) new
  exact ⟨.ref _, _, I4, rfl, q _ hfr⟩
def lrevM (ea : EvM) : EvM := revM ea
theorem me_lrev {p p2 pos pos2 : Pos} (hc : X.calm = true) (hg : Gl X "list") (hm : X.mg "list" = none) (hg2 : Gl X "reversed") (hm2 : X.mg "reversed" = none) (ha : ME tb X e ea) (hs : starEach [e] X.env = (false, eval e X.env) :: starEach [] X.env := by rfl) (hs2 : starEach [.Call (.Name "reversed" p2) [e] [] pos2] X.env = (false, eval (.Call (.Name "reversed" p2) [e] [] pos2) X.env) :: starEach [] X.env := by rfl) :
    ME tb X (.Call (.Name "list" p) [.Call (.Name "reversed" p2) [e] [] pos2] [] pos) (lrevM ea) := by
  refine PE.imp (pe_lstRev hc hg hm hg2 hm2 ha hs hs2) fun σ H Q h => ?_
  obtain ⟨m, S, γ, d, S', hS, hγ, e1, q⟩ := h
  unfold lrevM revM at e1
  split at e1
  · rename_i n S1 h1
    split at e1
    · rename_i xs h2
      cases e1
      refine ⟨m, S, γ, _, _, hS, hγ, h1, fun w H1 m1 x1 hS1 hw => ?_⟩
      simp only [Rp] at hw
      obtain ⟨a, ea, rfl⟩ := hw
      obtain ⟨a', vs, m2, k1, r1⟩ := hS1.lst h2
      rw [ea] at m2; cases m2
      exact ⟨a, vs, rfl, SqL.of k1, fin_lst hS1 r1.reverse fun y H4 m4 x4 => q y H4 m4 (x1.trans x4)⟩
    · cases e1
  · cases e1
end
end Ml
/-! Ml16: objects of own classes -/
namespace Ml
open L2 PyProof.Rows PySem PySem.Spec
def putD {α : Type} (f : Str) (v : α) : List (Str × α) → List (Str × α)
  | [] => [(f, v)]
  | (g, x) :: r => if g = f then (g, v) :: r else (g, x) :: putD f v r
section
variable {K : Kx} {H : Hp} {m : List Addr}
theorem Rkv.look {fs : List (Str × D)} {ws : List (Str × V)} (h : Rkv K H m fs ws) (f : Str) : (fs.lookup f = none ∧ ws.lookup f = none) ∨ ∃ d v, fs.lookup f = some d ∧ ws.lookup f = some v ∧ Rp K H m d v := by
  unfold Rkv at h
  induction h with
  | nil => refine .inl ⟨rfl, rfl⟩
  | @cons p q ps qs r t ih =>
    obtain ⟨k, x⟩ := p
    obtain ⟨k', y⟩ := q
    obtain ⟨e, r⟩ := r
    simp only at e r
    subst e
    by_cases hk : (f == k) = true
    · exact .inr ⟨x, y, by simp only [List.lookup, hk], by simp only [List.lookup, hk], r⟩
    · have hk' : (f == k) = false := by simpa using hk
      rcases ih with ⟨a, b⟩ | ⟨d, v, a, b, c⟩
      · exact .inl ⟨by simp only [List.lookup, hk']; exact a, by simp only [List.lookup, hk']; exact b⟩
      · exact .inr ⟨d, v, by simp only [List.lookup, hk']; exact a, by simp only [List.lookup, hk']; exact b, c⟩
theorem Rkv.put {fs : List (Str × D)} {ws : List (Str × V)} (h : Rkv K H m fs ws) (f : Str) {d : D} {v : V} (r : Rp K H m d v) : Rkv K H m (putD f d fs) (putF f v ws) := by
  unfold Rkv at h ⊢
  induction h with
  | nil => exact .cons ⟨rfl, r⟩ .nil
  | @cons p q ps qs r2 t ih =>
    obtain ⟨k, x⟩ := p
    obtain ⟨k', y⟩ := q
    obtain ⟨e, r2⟩ := r2
    simp only at e r2
    subst e
    unfold putD putF
    by_cases hk : k = f
    · rw [if_pos hk, if_pos hk]; exact .cons ⟨rfl, r⟩ t
    · rw [if_neg hk, if_neg hk]; exact .cons ⟨rfl, r2⟩ ih
theorem Rkv.len {κ : Type} {fs : List (κ × D)} {ws : List (κ × V)} (h : Rkv K H m fs ws) : ws.length = fs.length := by
  unfold Rkv at h
  induction h with
  | nil => rfl
  | cons _ _ ih => simp [ih]
/-- the object of the store at a number -/
theorem SR.ins {S : Sto} {n : Nat} {C : Addr} {fs : List (Str × D)} (hS : SR K H m S) (e : S[n]? = some (.ins C fs)) {a : Addr} (ha : m[n]? = some a) : ∃ dx ws, H a = some (.ins C dx ws) ∧ Rkv K H m fs ws := hS.at_ n a _ ha e
end
section
variable {tb : List NdefX.NTab} {X : Cx} {e o value : Expr} {ea eo ev : EvM} {pos pos' tpos : Pos} {C : Addr} {f : Str}
/-- e.f -/
def fldM (C : Addr) (f : Str) (eo : EvM) : EvM := fun γ S => match eo γ S with
  | some (.ref n, S1) => match S1[n]? with
    | some (.ins C' fs) => if C' = C then match fs.lookup f with
        | some d => some (d, S1)
        | none => none
      else none
    | _ => none
  | _ => none
theorem me_fld (hc : Cls X.K C) (hn : NoAttr X.K C f) (he : ME tb X e ea) (hb : attributeBase e f X.env (eval e X.env) = eval e X.env := by rfl) : ME tb X (.Attribute e f pos) (fldM C f ea) := PE.imp (pe_fld he hb) fun σ H Q h => by
  obtain ⟨m, S, γ, d, S', hS, hγ, e1, q⟩ := h
  unfold fldM at e1
  split at e1
  · rename_i n S1 h1
    split at e1
    · rename_i C' fs h2
      split at e1
      · rename_i hC
        subst hC
        split at e1
        · rename_i d' h3
          cases e1
          refine ⟨m, S, γ, _, _, hS, hγ, h1, fun w H1 m1 x1 hS1 hw => ?_⟩
          rw [Rp] at hw
          obtain ⟨a, ha, rfl⟩ := hw
          obtain ⟨dx, ws, g1, g2⟩ := hS1.ins h2 ha
          rcases g2.look f with ⟨z, _⟩ | ⟨d2, v, z1, z2, r⟩
          · rw [h3] at z; cases z
          · rw [h3] at z1; cases z1
            exact ⟨a, _, dx, ws, v, rfl, g1, hc, hn, z2, q v H1 m1 x1 hS1 r⟩
        · cases e1
      · cases e1
    · cases e1
  · cases e1
/-- e.f = value -/
def fldS (C : Addr) (f : Str) (eo ev : EvM) : SvM := fun γ S => match ev γ S with
  | none => none
  | some (d, S1) => match eo γ S1 with
    | some (.ref n, S2) => match S2[n]? with
      | some (.ins C' fs) => if C' = C ∧ fs.length < 1000 then some (.nx, γ, S2.set n (.ins C (putD f d fs))) else none
      | _ => none
    | _ => none
theorem ins_free {C dx : Addr} {ws : List (Str × V)} : Free (.ins C dx ws) := trivial
theorem ms_fld (hc : Cls X.K C) (hn : NoAttr X.K C f) (ho : ME tb X o eo) (hv : ME tb X value ev) (hs : swapsWith value (some (.Attribute o f pos')) pos.line X.env = pure false := by rfl) : MS tb X (.Assign [.Attribute o f pos'] value pos) (fldS C f eo ev) := PS.imp (ps_fld ho hv hs) fun Dn σ H h => by
  obtain ⟨m, S, γ, fl, γ', S', hS, hγ, e1, q⟩ := h
  unfold fldS at e1
  split at e1
  · cases e1
  · rename_i d S1 h1
    split at e1
    · rename_i n S2 h2
      split at e1
      · rename_i C' fs h3
        split at e1
        · rename_i hC
          obtain ⟨rfl, hl⟩ := hC
          cases e1
          refine ⟨m, S, γ, _, _, hS, hγ, h1, fun y H1 m1 x1 hS1 hy => ?_⟩
          refine ⟨m1, S1, γ, _, _, hS1, hγ.mono x1, h2, fun w H2 m2 x2 hS2 hw => ?_⟩
          rw [Rp] at hw
          obtain ⟨a, ha, rfl⟩ := hw
          obtain ⟨dx, ws, g1, g2⟩ := hS2.ins h3 ha
          refine ⟨a, _, dx, ws, rfl, g1, hc, hn, by rw [g2.len]; exact hl, ?_⟩
          have xu : Ext (kx tb X) H2 m2 (upd H2 a (.ins C' dx (putF f y ws))) m2 := Ext.upd g1 ins_free
          refine q σ _ m2 ((x1.trans x2).trans xu) (hS2.upd ha (lt_of h3) ⟨dx, _, upd_same .., ?_⟩) ((hγ.mono (x1.trans x2)).mono xu)
          exact (g2.mono xu).put f ((hy.mono x2).mono xu)
        · cases e1
      · cases e1
    · cases e1
/-- e.f += value, ints -/
def fldA (C : Addr) (f : Str) (eo ev : EvM) : SvM := fun γ S => match eo γ S with
  | some (.ref n, S1) => match S1[n]? with
    | some (.ins C' fs) => if C' = C then match fs.lookup f with
        | some (.int i) => match ev γ S1 with
          | some (.int j, S2) => match S2[n]? with
            | some (.ins C2 fs2) => if C2 = C ∧ fs2.length < 1000 then some (.nx, γ, S2.set n (.ins C (putD f (.int (i + j)) fs2))) else none
            | _ => none
          | _ => none
        | _ => none
      else none
    | _ => none
  | _ => none
theorem ms_fldA (hc : Cls X.K C) (hn : NoAttr X.K C f) (ho : ME tb X o eo) (hv : ME tb X value ev) : MS tb X (.AugAssign (.Attribute o f tpos) .Add value pos) (fldA C f eo ev) := PS.imp (ps_fldaug ho hv in_add) fun Dn σ H h => by
  obtain ⟨m, S, γ, fl, γ', S', hS, hγ, e1, q⟩ := h
  unfold fldA at e1
  split at e1
  · rename_i n S1 h1
    split at e1
    · rename_i C' fs h2
      split at e1
      · rename_i hC
        subst hC
        split at e1
        · rename_i i h3
          split at e1
          · rename_i j S2 h4
            split at e1
            · rename_i C2 fs2 h5
              split at e1
              · rename_i hC2
                obtain ⟨rfl, hl⟩ := hC2
                cases e1
                refine ⟨m, S, γ, _, _, hS, hγ, h1, fun w H1 m1 x1 hS1 hw => ?_⟩
                rw [Rp] at hw
                obtain ⟨a, ha, rfl⟩ := hw
                obtain ⟨dx, ws, g1, g2⟩ := hS1.ins h2 ha
                rcases g2.look f with ⟨z, _⟩ | ⟨d2, v, z1, z2, r⟩
                · rw [h3] at z; cases z
                · rw [h3] at z1; cases z1
                  rw [Rp] at r; subst r
                  refine ⟨a, _, dx, ws, _, rfl, g1, hc, hn, z2, m1, S1, γ, _, _, hS1, hγ.mono x1, h4, fun w H2 m2 x2 hS2 hw => ?_⟩
                  rw [Rp] at hw; subst hw
                  obtain ⟨dx2, ws2, k1, k2⟩ := hS2.ins h5 (x2.get ha)
                  refine ⟨i, j, rfl, rfl, dx2, ws2, k1, by rw [k2.len]; exact hl, ?_⟩
                  have xu : Ext (kx tb X) H2 m2 (upd H2 a (.ins C2 dx2 (putF f (.int (i + j)) ws2))) m2 := Ext.upd k1 ins_free
                  exact q σ _ m2 ((x1.trans x2).trans xu) (hS2.upd (x2.get ha) (lt_of h5) ⟨dx2, _, upd_same .., (k2.mono xu).put f (by rw [Rp])⟩) ((hγ.mono (x1.trans x2)).mono xu)
              · cases e1
            · cases e1
          · cases e1
        · cases e1
      · cases e1
    · cases e1
  · cases e1
end
section
variable {tb : List NdefX.NTab} {X : Cx} {k n : Nat} {f C : Addr} {fd : FuncData} {ps ks : List Str} {G : List D → Sto → Option (D × Sto)} {x mn : Str} {p pos apos : Pos} {e o : Expr} {es : List Expr} {eo : EvM} {ra : AvM}
/-- o.m(..) of an object of the class at C -/
def objM (C : Addr) (mn : Str) (n : Nat) (F : List D → Sto → Option (D × Sto)) (eo : EvM) (ra : AvM) : EvM := fun γ S => match eo γ S with
  | some (.ref i, S1) => match S1[i]? with
    | some (.ins C' fs) => if C' = C ∧ fs.lookup mn = none then match ra γ S1 with
        | some (xs, S2) => if xs.length + 1 = n then F (.ref i :: xs) S2 else none
        | none => none
      else none
    | _ => none
  | _ => none
theorem obj_core {K : Kx} {σ : L2.St} {H : Hp} {Q : VK} {E : XK} (h : tM K (objM C mn n G eo ra) σ H Q) : tMeth C mn (spM K n G) [] E (tM K eo) (tAM K ra) σ H Q := by
  obtain ⟨m, S, γ, d, S', hS, hγ, e1, q⟩ := h
  unfold objM at e1
  split at e1
  · rename_i i S1 h1
    split at e1
    · rename_i C' fs h2
      split at e1
      · rename_i hC
        obtain ⟨rfl, hl⟩ := hC
        split at e1
        · rename_i xs S2 h3
          split at e1
          · rename_i hn
            refine ⟨m, S, γ, _, _, hS, hγ, h1, fun w H1 m1 x1 hS1 hw => ?_⟩
            have hw0 := hw
            rw [Rp] at hw
            obtain ⟨a, ha, rfl⟩ := hw
            obtain ⟨dx, ws, g1, g2⟩ := hS1.ins h2 ha
            have gl : ws.lookup mn = none := by
              rcases g2.look mn with ⟨_, z⟩ | ⟨d2, v, z1, _⟩
              · exact z
              · rw [hl] at z1; cases z1
            refine ⟨a, dx, ws, rfl, g1, gl, m1, S1, γ, _, _, hS1, hγ.mono x1, h3, fun vs H2 m2 x2 hS2 hv => ?_⟩
            show spM K n G (V.ref a :: (vs ++ [])) H2 Q E
            rw [List.append_nil]
            exact ⟨m2, S2, _, d, S', by simpa using hn, hS2, Rps.cons (hw0.mono x2) hv, e1, fun w H3 m3 x3 => q w H3 m3 ((x1.trans x2).trans x3)⟩
          · cases e1
        · cases e1
      · cases e1
    · cases e1
  · cases e1
theorem me_obj {pl : Sem Bool} (c : Cls X.K C) (hm : Meth X.K C mn f) (F : FnOk X.prog X.w X.K X.mg X.base CX0 k f fd ps (spM (kx tb X) n G)) (hr : Room k X.A) (hb : Binds X.K fd ps []) (ho : ME tb X o eo) (ha : MA tb X (e :: es) ra) (hst : starEach (e :: es) X.env = (false, eval e X.env) :: starEach es X.env := by rfl) (hpl : (backTo pos (starEach es X.env)).any (·.1) = false := by rfl)
    (ht : eval (.Call (.Attribute o mn apos) (e :: es) [] pos) X.env = (do
      let ov ← eval o X.env
      standAt apos.atName
      let (f, first) ← holding [ov] (getMethod ov mn pl)
      callWith pos f first (backTo pos (starEach (e :: es) X.env)) (backToKw pos (keywordEach [] X.env))) := by rfl) : ME tb X (.Call (.Attribute o mn apos) (e :: es) [] pos) (objM C mn n G eo ra) :=
  PE.imp (pe_meth (pl := pl) ho c hm F hr hb .nil pass0 ha hst hpl ht) fun _ _ _ h => obj_core h
theorem me_obj0 {pl : Sem Bool} (c : Cls X.K C) (hm : Meth X.K C mn f) (F : FnOk X.prog X.w X.K X.mg X.base CX0 k f fd ps (spM (kx tb X) n G)) (hr : Room k X.A) (hb : Binds X.K fd ps []) (ho : ME tb X o eo)
    (ht : eval (.Call (.Attribute o mn apos) [] [] pos) X.env = (do
      let ov ← eval o X.env
      standAt apos.atName
      let (f, first) ← holding [ov] (getMethod ov mn pl)
      callWith pos f first (backTo pos (starEach [] X.env)) (backToKw pos (keywordEach [] X.env))) := by rfl) : ME tb X (.Call (.Attribute o mn apos) [] [] pos) (objM C mn n G eo nilA) :=
  PE.imp (pe_meth0 (pl := pl) ho c hm F hr hb .nil pass0 ht) fun σ H Q h => by
    obtain ⟨m, S, γ, d, S', hS, hγ, e1, g⟩ := obj_core (K := kx tb X) (E := E0) h
    refine ⟨m, S, γ, d, S', hS, hγ, e1, fun w H1 m1 x1 hS1 hw => ?_⟩
    obtain ⟨a, dx, fs, h1, h2, h3, m2, S2, γ2, ds, S3, k1, k2, k3, k4⟩ := g w H1 m1 x1 hS1 hw
    cases k3
    exact ⟨a, dx, fs, h1, h2, h3, k4 [] H1 m2 .refl k1 Rps.nil⟩
/-- C(..) -/
def makeM (C : Addr) (n : Nat) (F : List D → Sto → Option (D × Sto)) (ra : AvM) : EvM := fun γ S => match ra γ S with
  | some (xs, S1) => if xs.length + 1 = n then match F (.ref S1.length :: xs) (S1 ++ [.ins C []]) with
      | some (.non, S2) => some (.ref S1.length, S2)
      | _ => none
    else none
  | none => none
theorem make_core {K : Kx} {σ : L2.St} {H : Hp} {Q : VK} {E : XK} (h : tM K (makeM C n G ra) σ H Q) : tMake C (spM K n G) [] E (tAM K ra) σ H Q := by
  obtain ⟨m, S, γ, d, S', hS, hγ, e1, q⟩ := h
  unfold makeM at e1
  split at e1
  · rename_i xs S1 h1
    split at e1
    · rename_i hn
      split at e1
      · rename_i S2 h2
        cases e1
        refine ⟨m, S, γ, _, _, hS, hγ, h1, fun vs H1 m1 x1 hS1 hv x dx hx hdx hne => ?_⟩
        show spM K n G (V.ref x :: (vs ++ [])) _ _ E
        rw [List.append_nil]
        have y1 : Ext K H1 m1 (upd H1 dx (.own x)) m1 := Ext.new hdx
        have s1 : SR K (upd H1 dx (.own x)) m1 S1 := hS1.new hdx
        have hx2 : (upd H1 dx (.own x)) x = none := by rw [upd_ne (Ne.symm hne)]; exact hx
        have y2 : Ext K (upd H1 dx (.own x)) m1 (upd (upd H1 dx (.own x)) x (.ins C dx [])) (m1 ++ [x]) := Ext.newM hx2
        have s2 : SR K (upd (upd H1 dx (.own x)) x (.ins C dx [])) (m1 ++ [x]) (S1 ++ [.ins C []]) := s1.newM hx2 ⟨dx, [], upd_same .., .nil⟩
        have hxr : Rp K (upd (upd H1 dx (.own x)) x (.ins C dx [])) (m1 ++ [x]) (.ref S1.length) (.ref x) := by
          rw [Rp]; exact ⟨x, by rw [← hS1.len]; simp, rfl⟩
        refine ⟨m1 ++ [x], _, _, _, _, by simpa using hn, s2, Rps.cons hxr ((hv.mono y1).mono y2), h2, fun w H3 m3 x3 hS3 hw => ?_⟩
        rw [Rp] at hw
        exact ⟨hw, q (.ref x) H3 m3 ((x1.trans (y1.trans y2)).trans x3) hS3 (hxr.mono x3)⟩
      · cases e1
    · cases e1
  · cases e1
theorem me_make (M : Mk X.K C f) (F : FnOk X.prog X.w X.K X.mg X.base CX0 k f fd ps (spM (kx tb X) n G)) (hr : Room (k + 1) X.A) (hg : Gl X x) (hm : X.mg x = some (.ref C)) (hb : Binds X.K fd ps [])
    (ha : MA tb X (e :: es) ra) (hdb : (x == ("__debug__" : Str)) = false := by decide) (he : starEach (e :: es) X.env = (false, eval e X.env) :: starEach es X.env := by rfl) (hpl : (backTo pos (starEach es X.env)).any (·.1) = false := by rfl) :
    ME tb X (.Call (.Name x p) (e :: es) [] pos) (makeM C n G ra) := PE.imp (pe_make M F hr hg hm hb .nil pass0 ha hdb he hpl) fun _ _ _ h => make_core h
theorem me_make0 (M : Mk X.K C f) (F : FnOk X.prog X.w X.K X.mg X.base CX0 k f fd ps (spM (kx tb X) n G)) (hr : Room (k + 1) X.A) (hg : Gl X x) (hm : X.mg x = some (.ref C)) (hb : Binds X.K fd ps [])
    (hdb : (x == ("__debug__" : Str)) = false := by decide) : ME tb X (.Call (.Name x p) [] [] pos) (makeM C n G nilA) := PE.imp (pe_make0 M F hr hg hm hb .nil pass0 hdb) fun σ H Q h => by
  obtain ⟨m, S, γ, ds, S', hS, hγ, h1, q⟩ := make_core (K := kx tb X) (E := E0) h
  cases h1
  exact q [] H m .refl hS Rps.nil
end
end Ml
/-! Ml17: dicts whose keys are ints and texts; a method called by keywords -/
namespace Ml
open L2 PyProof.Rows PySem PySem.Spec
def keyD : D → Option Key
  | .int i => some (.inl i)
  | .str z => some (.inr z)
  | _ => none
def valD (kvs : List (Key × D)) (k : Key) : Option D := (kvs.find? fun kv => decide (kv.1 = k)).map (·.2)
def putKD (kvs : List (Key × D)) (k : Key) (v : D) : List (Key × D) :=
  if (kvs.any fun e => decide (e.1 = k)) = true then kvs.map (fun e => if e.1 = k then (e.1, v) else e) else kvs ++ [(k, v)]
section
variable {K : Kx} {H : Hp} {m : List Addr}
theorem keyD_ok {d : D} {v : V} {k : Key} (r : Rp K H m d v) (e : keyD d = some k) : v = kV k := by
  cases d with
  | int i => cases e; rw [Rp] at r; exact r
  | str z => cases e; rw [Rp] at r; exact r
  | non => cases e
  | bl b => cases e
  | tup xs => cases e
  | rl xs => cases e
  | ref n => cases e
  | gl n => cases e
theorem Rkv.valK {kvs : List (Key × D)} {ws : List (Key × V)} (h : Rkv K H m kvs ws) (k : Key) : (valD kvs k = none ∧ valV ws k = none) ∨ ∃ d v, valD kvs k = some d ∧ valV ws k = some v ∧ Rp K H m d v := by
  unfold Rkv at h
  induction h with
  | nil => refine .inl ⟨rfl, rfl⟩
  | @cons p q ps qs r t ih =>
    obtain ⟨e, r⟩ := r
    by_cases hk : p.1 = k
    · exact .inr ⟨p.2, q.2, by simp [valD, List.find?_cons, hk], valV_pos (e ▸ hk), r⟩
    · have hk' : ¬ q.1 = k := fun z => hk (e.trans z)
      have e1 : valD (p :: ps) k = valD ps k := by simp [valD, List.find?_cons, hk]
      rw [e1, valV_neg hk']
      exact ih
theorem Rkv.any {kvs : List (Key × D)} {ws : List (Key × V)} (h : Rkv K H m kvs ws) (k : Key) : (ws.any fun e => decide (e.1 = k)) = kvs.any fun e => decide (e.1 = k) := by
  unfold Rkv at h
  induction h with
  | nil => rfl
  | @cons p q ps qs r t ih =>
    rw [List.any_cons, List.any_cons, ih, r.1]
theorem Rkv.putK {kvs : List (Key × D)} {ws : List (Key × V)} (h : Rkv K H m kvs ws) (k : Key) {d : D} {v : V} (r : Rp K H m d v) : Rkv K H m (putKD kvs k d) (L2.putK ws k v) := by
  unfold putKD L2.putK
  rw [h.any k]
  split
  · rename_i ha
    clear ha
    unfold Rkv at h ⊢
    induction h with
    | nil => exact .nil
    | @cons p q ps qs r2 t ih =>
      refine .cons ?_ ih
      obtain ⟨e, r2⟩ := r2
      by_cases hk : p.1 = k
      · have hk2 : q.1 = k := e ▸ hk
        simp only [hk, hk2, if_true]; exact ⟨trivial, r⟩
      · have hk2 : ¬ q.1 = k := fun z => hk (e.trans z)
        simp only [hk, hk2, if_false]; exact ⟨e, r2⟩
  · unfold Rkv at h ⊢
    exact paired_snoc ⟨rfl, r⟩ h
theorem SR.dk {S : Sto} {n : Nat} {kvs : List (Key × D)} (hS : SR K H m S) (e : S[n]? = some (.dk kvs)) {a : Addr} (ha : m[n]? = some a) : ∃ ws, H a = some (.dK ws) ∧ Rkv K H m kvs ws := hS.at_ n a _ ha e
end
section
variable {tb : List NdefX.NTab} {X : Cx} {a b o i value : Expr} {ea eb eo ei ev : EvM} {pos pos' : Pos}
/-- d[k] -/
def getK : D → D → Sto → Option (D × Sto)
  | .ref n, y, S => match S[n]?, keyD y with
    | some (.dk kvs), some k => match valD kvs k with
      | some d => some (d, S)
      | none => none
    | _, _ => none
  | _, _, _ => none
theorem me_getK (hu : X.A.units + 1 < cLine) (ha : ME tb X a ea) (hb : ME tb X b eb) (hs : NoSl b := by exact fun _ _ => rfl) : ME tb X (.Subscript a b pos) (binM getK ea eb) := PE.imp (pe_dget hu ha hb hs) fun σ H Q h => by
  obtain ⟨m, S, γ, d, S', hS, hγ, e, q⟩ := h
  unfold binM at e
  split at e
  · cases e
  · rename_i x S1 h1
    split at e
    · cases e
    · rename_i y S2 h2
      refine ⟨m, S, γ, _, _, hS, hγ, h1, fun w H1 m1 x1 hS1 hw => ?_⟩
      refine ⟨m1, S1, γ, _, _, hS1, hγ.mono x1, h2, fun u H2 m2 x2 hS2 hv => ?_⟩
      unfold getK at e
      split at e
      · rename_i n
        split at e
        · rename_i kvs k h3 h4
          split at e
          · rename_i d2 h5
            cases e
            have hw2 := hw.mono x2
            rw [Rp] at hw2
            obtain ⟨c, hc, rfl⟩ := hw2
            obtain ⟨ws, g1, g2⟩ := hS2.dk h3 hc
            rcases g2.valK k with ⟨z, _⟩ | ⟨d3, v, z1, z2, r⟩
            · rw [h5] at z; cases z
            · rw [h5] at z1; cases z1
              rw [keyD_ok hv h4]
              exact ⟨c, v, rfl, by rw [← z2]; exact DGet.k g1, q v H2 m2 (x1.trans x2) hS2 r⟩
          · cases e
        · cases e
      · cases e
/-- k in d -/
def inK (neg : Bool) : D → D → Sto → Option (D × Sto)
  | y, .ref n, S => match S[n]?, keyD y with
    | some (.dk kvs), some k => some (.bl (if neg then !(valD kvs k).isSome else (valD kvs k).isSome), S)
    | _, _ => none
  | _, _, _ => none
theorem inK_core {K : Kx} {neg : Bool} {σ : L2.St} {H : Hp} {Q : VK} (h : tM K (binM (inK neg) ea eb) σ H Q) : tM K ea σ H fun y H1 => tM K eb σ H1 fun x H2 => ∃ c o, x = .ref c ∧ DGet H2 c y o ∧ Q (.bl (if neg then !o.isSome else o.isSome)) H2 := by
  obtain ⟨m, S, γ, d, S', hS, hγ, e, q⟩ := h
  unfold binM at e
  split at e
  · cases e
  · rename_i x S1 h1
    split at e
    · cases e
    · rename_i y S2 h2
      refine ⟨m, S, γ, _, _, hS, hγ, h1, fun w H1 m1 x1 hS1 hw => ?_⟩
      refine ⟨m1, S1, γ, _, _, hS1, hγ.mono x1, h2, fun u H2 m2 x2 hS2 hv => ?_⟩
      unfold inK at e
      split at e
      · rename_i n
        split at e
        · rename_i kvs k h3 h4
          cases e
          rw [Rp] at hv
          obtain ⟨c, hc, rfl⟩ := hv
          obtain ⟨ws, g1, g2⟩ := hS2.dk h3 hc
          rw [keyD_ok (hw.mono x2) h4]
          refine ⟨c, _, rfl, DGet.k g1, ?_⟩
          have : (valV ws k).isSome = (valD kvs k).isSome := by
            rcases g2.valK k with ⟨z1, z2⟩ | ⟨d3, v, z1, z2, r⟩ <;> rw [z1, z2] <;> rfl
          rw [this]
          exact fin_bl hS2 fun w H3 m3 x3 => q w H3 m3 ((x1.trans x2).trans x3)
        · cases e
      · cases e
theorem me_inK (hu : X.A.units + 1 < cLine) (ha : ME tb X a ea) (hb : ME tb X b eb) (hm : behindInMarks .In b = false := by rfl) : ME tb X (.Compare a [.In] [b] pos) (binM (inK false) ea eb) :=
  PE.imp (pe_cmp (pc_din hu ha hb) hm) fun _ _ _ h => inK_core h
theorem me_notInK (hu : X.A.units + 1 < cLine) (ha : ME tb X a ea) (hb : ME tb X b eb) (hm : behindInMarks .NotIn b = false := by rfl) : ME tb X (.Compare a [.NotIn] [b] pos) (binM (inK true) ea eb) :=
  PE.imp (pe_cmp (pc_dnotin hu ha hb) hm) fun _ _ _ h => inK_core h
theorem mt_inK (hu : X.A.units + 1 < cLine) (ha : ME tb X a ea) (hb : ME tb X b eb) (hm : behindInMarks .In b = false := by rfl) : MT tb X (.Compare a [.In] [b] pos) (tstM (binM (inK false) ea eb)) :=
  PT.imp (pt_cmp (pc_din hu ha hb) hm) fun _ _ _ h => inK_core (tst_core h)
theorem mt_notInK (hu : X.A.units + 1 < cLine) (ha : ME tb X a ea) (hb : ME tb X b eb) (hm : behindInMarks .NotIn b = false := by rfl) : MT tb X (.Compare a [.NotIn] [b] pos) (tstM (binM (inK true) ea eb)) :=
  PT.imp (pt_cmp (pc_dnotin hu ha hb) hm) fun _ _ _ h => inK_core (tst_core h)
/-- d[k] = v -/
def putS (eo ei ev : EvM) : SvM := fun γ S => match ev γ S with
  | none => none
  | some (d, S1) => match eo γ S1 with
    | some (.ref n, S2) => match ei γ S2 with
      | some (y, S3) => match S3[n]?, keyD y with
        | some (.dk kvs), some k => if kvs.length < sizeLine then some (.nx, γ, S3.set n (.dk (putKD kvs k d))) else none
        | _, _ => none
      | none => none
    | _ => none
theorem ms_putK (hu : X.A.units + 1 < cLine) (ho : ME tb X o eo) (hi : ME tb X i ei) (hv : ME tb X value ev) (hs : swapsWith value (some (.Subscript o i pos')) pos.line X.env = pure false := by rfl) : MS tb X (.Assign [.Subscript o i pos'] value pos) (putS eo ei ev) := PS.imp (ps_dput hu ho hi hv hs) fun Dn σ H h => by
  obtain ⟨m, S, γ, fl, γ', S', hS, hγ, e1, q⟩ := h
  unfold putS at e1
  split at e1
  · cases e1
  · rename_i d S1 h1
    split at e1
    · rename_i n S2 h2
      split at e1
      · rename_i y S3 h3
        split at e1
        · rename_i kvs k h4 h5
          split at e1
          · rename_i hl
            cases e1
            refine ⟨m, S, γ, _, _, hS, hγ, h1, fun v H1 m1 x1 hS1 hd => ?_⟩
            refine ⟨m1, S1, γ, _, _, hS1, hγ.mono x1, h2, fun w H2 m2 x2 hS2 hw => ?_⟩
            refine ⟨m2, S2, γ, _, _, hS2, (hγ.mono x1).mono x2, h3, fun u H3 m3 x3 hS3 hy => ?_⟩
            have hw2 := hw.mono x3
            rw [Rp] at hw2
            obtain ⟨c, hc, rfl⟩ := hw2
            obtain ⟨ws, g1, g2⟩ := hS3.dk h4 hc
            rw [keyD_ok hy h5]
            refine ⟨c, _, rfl, DPut.k g1 (by rw [g2.len]; exact hl), ?_⟩
            have xu : Ext (kx tb X) H3 m3 (upd H3 c (.dK (L2.putK ws k v))) m3 := Ext.upd g1 trivial
            have xx := (x1.trans x2).trans x3
            exact q σ _ m3 (xx.trans xu) (hS3.upd hc (lt_of h4) ⟨_, upd_same .., (g2.mono xu).putK k (((hd.mono x2).mono x3).mono xu)⟩) ((hγ.mono xx).mono xu)
          · cases e1
        · cases e1
      · cases e1
    · cases e1
/-- {} -/
def newK : EvM := fun _ S => some (.ref S.length, S ++ [.dk []])
theorem me_newK : ME tb X (.Dict [] [] pos) newK := PE.imp pe_dnewK fun σ H Q h => by
  obtain ⟨m, S, γ, d, S', hS, hγ, e, q⟩ := h
  cases e
  intro p hp
  refine q _ _ (m ++ [p]) (Ext.newM hp) (hS.newM hp ⟨[], upd_same .., .nil⟩) ?_
  rw [Rp]
  exact ⟨p, by rw [← hS.len]; simp, rfl⟩
/-- {k: v, ..} with written text keys -/
def pairsM : List (Str × EvM) → Sl → Sto → Option (List (Key × D) × Sto)
  | [], _, S => some ([], S)
  | (z, e) :: r, γ, S => match e γ S with
    | none => none
    | some (d, S1) => match pairsM r γ S1 with
      | none => none
      | some (ps, S2) => some ((.inr z, d) :: ps, S2)
def mergeKD (kvs more : List (Key × D)) : List (Key × D) := more.foldl (fun acc e => putKD acc e.1 e.2) kvs
def dispM (l : List (Str × EvM)) : EvM := fun γ S => match pairsM l γ (S ++ [.dk []]) with
  | some (ps, S1) => match S1[S.length]? with
    | some (.dk []) => if ps.length ≤ 15 then some (.ref S.length, S1.set S.length (.dk (mergeKD [] ps))) else none
    | _ => none
  | none => none
/-- the pairs' readings -/
def tPsM (K : Kx) (l : List (Str × EvM)) : List (TE × TE) := l.map fun p => (tC (.str p.1), tM K p.2)
inductive MPs (tb : List NdefX.NTab) (X : Cx) (pos : Pos) : List (Option Expr) → List Expr → List (Str × EvM) → Prop
  | nil : MPs tb X pos [] [] []
  | cons {z : Str} {q : Pos} {j : Nat} {v : Expr} {ks : List (Option Expr)} {vs : List Expr} {e : EvM} {l : List (Str × EvM)} (h : ME tb X v e) (r : MPs tb X pos ks vs l) : MPs tb X pos (some (.Constant (.str z) j q) :: ks) (v :: vs) ((z, e) :: l)
theorem MPs.pps {keys : List (Option Expr)} {values : List Expr} {l : List (Str × EvM)} (h : MPs tb X pos keys values l) : PPs X pos keys values (tPsM (kx tb X) l) := by
  induction h with
  | nil => exact pps_nil
  | cons h r ih => exact pps_cons pe_str h ih
theorem Rkv.merge {K : Kx} {H : Hp} {m : List Addr} : ∀ {more : List (Key × D)} {ms : List (Key × V)} {kvs : List (Key × D)} {ws : List (Key × V)}, Rkv K H m more ms → Rkv K H m kvs ws → Rkv K H m (mergeKD kvs more) (L2.mergeK ws ms) := by
  intro more ms kvs ws r
  unfold Rkv at r
  induction r generalizing kvs ws with
  | nil => intro h; exact h
  | @cons p q ps qs h t ih =>
    intro h0
    have : Rkv K H m (putKD kvs p.1 p.2) (L2.putK ws q.1 q.2) := by rw [← h.1]; exact h0.putK p.1 h.2
    exact ih this
theorem pairs_core {K : Kx} {γ : Sl} {σ : L2.St} : ∀ (l : List (Str × EvM)) {H : Hp} {m : List Addr} {S S' : Sto} {ps : List (Key × D)} {Q : List (V × V) → Hp → Prop}, SR K H m S → SLR K H m γ σ → pairsM l γ S = some (ps, S') →
    (∀ (ws : List (Key × V)) (H' : Hp) (m' : List Addr), Ext K H m H' m' → SR K H' m' S' → Rkv K H' m' ps ws → Q (ws.map fun e => (kV e.1, e.2)) H') → tPairs (tPsM K l) σ H Q
  | [], H, m, S, S', ps, Q, hS, hγ, e, q => by
    cases e
    exact q [] H m .refl hS .nil
  | (z, ev) :: r, H, m, S, S', ps, Q, hS, hγ, e, q => by
    unfold pairsM at e
    split at e
    · cases e
    · rename_i d S1 h1
      split at e
      · cases e
      · rename_i ps2 S2 h2
        cases e
        refine ⟨m, S, γ, _, _, hS, hγ, h1, fun v H1 m1 x1 hS1 hv => ?_⟩
        refine pairs_core r hS1 (hγ.mono x1) h2 fun ws H2 m2 x2 hS2 hw => ?_
        exact q ((.inr z, v) :: ws) H2 m2 (x1.trans x2) hS2 (.cons ⟨rfl, hv.mono x2⟩ hw)
theorem me_disp {keys : List (Option Expr)} {values : List Expr} {l : List (Str × EvM)} (h : MPs tb X pos keys values l) (hall : keys.all (·.isSome) = true := by rfl) (hl : keys.length = values.length := by rfl) (h0 : keys ≠ [] := by exact List.cons_ne_nil _ _)
    (h15 : keys.length ≤ 15 := by decide) : ME tb X (.Dict keys values pos) (dispM l) := PE.imp (pe_disp h.pps hall hl h0 h15) fun σ H Q hq => by
  obtain ⟨m, S, γ, d, S', hS, hγ, e, q⟩ := hq
  unfold dispM at e
  split at e
  · rename_i ps S1 h1
    split at e
    · rename_i h2
      split at e
      · rename_i h3
        cases e
        intro p hp
        have y0 : Ext (kx tb X) H m (upd H p (.dK [])) (m ++ [p]) := Ext.newM hp
        have s0 : SR (kx tb X) (upd H p (.dK [])) (m ++ [p]) (S ++ [.dk []]) := hS.newM hp ⟨[], upd_same .., .nil⟩
        refine pairs_core l s0 (hγ.mono y0) h1 fun ws H2 m2 x2 hS2 hw => ?_
        have hp0 : (m ++ [p])[S.length]? = some p := by rw [← hS.len]; simp
        have hp2 := x2.get hp0
        obtain ⟨ws0, g1, g2⟩ := hS2.dk h2 hp2
        cases g2
        refine ⟨g1, ws, rfl, by rw [hw.len]; exact h3, ?_⟩
        have xu : Ext (kx tb X) H2 m2 (upd H2 p (.dK (L2.mergeK [] ws))) m2 := Ext.upd g1 trivial
        refine q _ _ m2 ((y0.trans x2).trans xu) (hS2.upd hp2 (lt_of h2) ⟨_, upd_same .., (hw.mono xu).merge .nil⟩) ?_
        rw [Rp]
        exact ⟨p, hp2, rfl⟩
      · cases e
    · cases e
  · cases e
end
section
variable {tb : List NdefX.NTab} {X : Cx} {k n na : Nat} {f C : Addr} {fd : FuncData} {ps ks : List Str} {is : List Nat} {G : List D → Sto → Option (D × Sto)} {mn : Str} {pos apos : Pos} {o : Expr} {kws : List Keyword} {eo : EvM} {rk : AvM}
/-- o.m(k = v, ..) -/
def objKM (C : Addr) (mn : Str) (nk n : Nat) (is : List Nat) (F : List D → Sto → Option (D × Sto)) (eo : EvM) (rk : AvM) : EvM := fun γ S => match eo γ S with
  | some (.ref i, S1) => match S1[i]? with
    | some (.ins C' fs) => if C' = C ∧ fs.lookup mn = none then match rk γ S1 with
        | some (ys, S2) => if ys.length = nk ∧ (permL is ys).length + 1 = n then F (.ref i :: permL is ys) S2 else none
        | none => none
      else none
    | _ => none
  | _ => none
theorem me_objK {pl : Sem Bool} (c : Cls X.K C) (hm : Meth X.K C mn f) (F : FnOk X.prog X.w X.K X.mg X.base CX0 k f fd ps (spM (kx tb X) n G)) (hr : Room k X.A) (hb : KBind fd ps ks 1 is) (ho : ME tb X o eo) (hkw : MK tb X kws rk)
    (hall : (backToKw pos (keywordEach kws X.env)).all (·.1.isSome) = true := by rfl) (hks : (backToKw pos (keywordEach kws X.env)).filterMap (·.1) = ks := by rfl)
    (hpl : ((backTo pos (starEach [] X.env)).any (·.1) || (backToKw pos (keywordEach kws X.env)).any (·.1.isNone)) = false := by rfl)
    (ht : eval (.Call (.Attribute o mn apos) [] kws pos) X.env = (do
      let ov ← eval o X.env
      standAt apos.atName
      let (f, first) ← holding [ov] (getMethod ov mn pl)
      callWith pos f first (backTo pos (starEach [] X.env)) (backToKw pos (keywordEach kws X.env))) := by rfl) : ME tb X (.Call (.Attribute o mn apos) [] kws pos) (objKM C mn ks.length n is G eo rk) := by
  refine .mk fun pins s σ H Q I h => ?_
  obtain ⟨m, S, γ, d, S', hS, hγ, e1, q⟩ := h
  unfold objKM at e1
  split at e1
  · rename_i i S1 h1
    split at e1
    · rename_i C' fs h2
      split at e1
      · rename_i hC
        obtain ⟨rfl, hl⟩ := hC
        split at e1
        · rename_i ys S2 h3
          split at e1
          · rename_i hn
            refine PySem.W.methodCall_KW (pl := pl) (thn (ho.run pins s σ H (fun w H1 => ∃ m1, Ext (kx tb X) H m H1 m1 ∧ SR (kx tb X) H1 m1 S1 ∧ Rp (kx tb X) H1 m1 (.ref i) w) I ⟨m, S, γ, _, S1, hS, hγ, h1, fun w H1 m1 x1 hS1 hw => ⟨m1, x1, hS1, hw⟩⟩) fun u s1 hq => ?_) ht
            obtain ⟨w, H1, I1, rx, m1, x1, hS1, hw⟩ := hq
            have hw0 := hw
            rw [Rp] at hw
            obtain ⟨a, ha, rfl⟩ := hw
            obtain rfl : u = Value.ref a := rx; obtain ⟨dx, ws, g1, g2⟩ := hS1.ins h2 ha
            have gl : ws.lookup mn = none := by
              rcases g2.look mn with ⟨_, z⟩ | ⟨d2, v, z1, _⟩
              · exact z
              · rw [hl] at z1; cases z1
            refine getmeth_ok I1 g1 c hm gl ?_
            refine PySem.W.callWith_KW0 (first := [.ref a]) (h₀ := X.base) I1.ok.mod.kin hm.kp hall ?_ hpl
            refine thn (hkw.run pos pins s1 σ H1 (fun zs H2 => ∃ m2, Ext (kx tb X) H1 m1 H2 m2 ∧ SR (kx tb X) H2 m2 S2 ∧ Rps (kx tb X) H2 m2 ys zs) I1 ⟨m1, S1, γ, ys, S2, hS1, hγ.mono x1, h3, fun vs H2 m2 x2 hS2 hz => ⟨m2, x2, hS2, hz⟩⟩) fun vs s2 hq => ?_
            obtain ⟨zs, H2, I2, rz, m2, x2, hS2, hz⟩ := hq
            refine ⟨I2.kIn, ?_⟩
            rw [hks]
            refine run_kw (us := [.ref a]) (vs := [.ref a]) F hr hb I2 (.cons rfl .nil) rz rfl (by rw [← rz.length, hz.length]; exact hn.1) ?_
            exact ⟨m2, S2, _, d, S', by simpa using hn.2, hS2, Rps.cons (hw0.mono x2) (hz.perm is), e1, fun y H3 m3 x3 => q y H3 m3 (x1.trans (x2.trans x3))⟩
          · cases e1
        · cases e1
      · cases e1
    · cases e1
  · cases e1
end
end Ml
/-! Ml18: a walk over a dict of int and text keys; chains; is True; isinstance of several; insert, pop(i) -/
namespace Ml
open L2 PyProof.Rows PySem PySem.Spec
open Classical
section
variable {tb : List NdefX.NTab} {X : Cx} {K : Kx} {e tg iter : Expr} {ed ee : EvM} {σ : L2.St} {H : Hp} {m : List Addr} {S : Sto} {n : Nat} {a : Addr} {od : Obj} {kvs : List (Key × D)} {ws : List (Key × V)}
theorem srK_lock (hS : SR K H m S) (e : S[n]? = some (.dk kvs)) (hm : m[n]? = some a) (h : H a = some (.dK ws)) (r : Rkv K H m kvs ws) : SR K (upd H a (.frz od (.dK ws))) m (S.set n (.dkl kvs)) :=
  hS.upd hm (lt_of e) ⟨od, ws, upd_same .., r.mono (.upd h trivial)⟩
theorem srK_unlock (hS : SR K H m S) (e : S[n]? = some (.dkl kvs)) (hm : m[n]? = some a) (h : H a = some (.frz od (.dK ws))) : SR K (upd H a (.dK ws)) m (S.set n (.dk kvs)) := by
  obtain ⟨a', h1, od2, ws2, h2, r⟩ := hS.addr e
  rw [hm] at h1; cases h1
  rw [h] at h2; cases h2
  exact hS.upd hm (lt_of e) ⟨ws, upd_same .., r.mono0 (Ext0.upd h trivial)⟩
theorem walks_dk {H0 : Hp} {m0 : List Addr} (h1 : H0 a = some (.frz od (.dK ws))) (h2 : Rkv K H0 m0 kvs ws) : Walks K (Itk a od ws) H0 m0 (some (n, .dkl kvs)) (kvs.map fun e => match e.1 with | .inl i => .int i | .inr z => .str z) where
  go := fun H m S i x hS hc hi => by
    have hi : i < kvs.length := by simpa using hi
    have hl : ws.length = kvs.length := h2.len
    refine ⟨⟨x.frz _ _ _ h1, by omega⟩, fun y H' q => ?_⟩
    obtain ⟨rfl, k, v, hz, rfl⟩ := q
    have hk : kvs[i]? = some kvs[i] := List.getElem?_eq_getElem hi
    obtain ⟨b, hb, e1, _⟩ := paired_get h2 hk
    rw [hb] at hz; cases hz
    refine ⟨_, by rw [List.getElem?_map, hk]; rfl, .refl, hS, ?_⟩
    have e1 : kvs[i].1 = k := e1
    dsimp only
    rw [e1]
    cases k with
    | inl j => show Rp _ _ _ (.int j) _; rw [Rp]; rfl
    | inr z => show Rp _ _ _ (.str z) _; rw [Rp]; rfl
  stop := fun H m S x hS hc => ⟨x.frz _ _ _ h1, by
    have hl : ws.length = kvs.length := h2.len
    rw [List.length_map]; omega⟩
def keyOf : Key → D
  | .inl i => .int i
  | .inr z => .str z
def keysK (ed : EvM) : IvM := fun γ S => match ed γ S with
  | some (.ref n, S') => match S'[n]? with
    | some (.dkl kvs) => some (some (n, .dkl kvs), kvs.map (fun e => match e.1 with | .inl i => .int i | .inr z => .str z), S')
    | _ => none
  | _ => none
theorem mi_keysK (he : ME tb X iter ed) : MI tb X tg iter (keysK ed) := PI.imp (pi_keys he) fun σ H R hq => by
  obtain ⟨m, S, γ, ck, ds, S', hS, hγ, e1, q⟩ := hq
  unfold keysK at e1
  split at e1
  · rename_i n S1 h1
    split at e1
    · rename_i kvs h2
      cases e1
      refine ⟨m, S, γ, _, _, hS, hγ, h1, fun v H1 m1 x1 hS1 hv => ?_⟩
      rw [Rp] at hv
      obtain ⟨a, ha, rfl⟩ := hv
      obtain ⟨od, ws, h4, h5⟩ := hS1.at_ n a _ ha h2
      exact ⟨a, od, rfl, .inl ⟨ws, h4, q _ H1 m1 x1 hS1 (walks_dk h4 h5)⟩⟩
    · cases e1
  · cases e1
def lockKM (i : Nat) (e : EvM) : EvM := fun γ S => match γ[i]? with
  | some (some (.ref n)) => match S[n]? with
    | some (.dk kvs) => match e γ (S.set n (.dkl kvs)) with
      | some (d, S1) => match S1[n]? with
        | some (.dkl kvs') => some (d, S1.set n (.dk kvs'))
        | _ => none
      | none => none
    | _ => none
  | _ => none
def lockKS (i : Nat) (e : SvM) : SvM := fun γ S => match γ[i]? with
  | some (some (.ref n)) => match S[n]? with
    | some (.dk kvs) => match e γ (S.set n (.dkl kvs)) with
      | some (d, γ1, S1) => match S1[n]? with
        | some (.dkl kvs') => some (d, γ1, S1.set n (.dk kvs'))
        | _ => none
      | none => none
    | _ => none
  | _ => none
theorem me_lockK (i : Nat) (h : ME tb X e ee) : ME tb X e (lockKM i ee) := PE.imp (pe_lock h) fun σ H Q hq => by
  obtain ⟨m, S, γ, d, S', hS, hγ, e1, q⟩ := hq
  unfold lockKM at e1
  split at e1
  · rename_i n h1
    split at e1
    · rename_i kvs h2
      split at e1
      · rename_i d1 S1 h3
        split at e1
        · rename_i kvs' h4
          cases e1
          obtain ⟨a, h5, ws, h6, h7⟩ := hS.addr h2
          refine ⟨a, _, h6, trivial, fun od => ?_⟩
          refine ⟨m, _, γ, _, _, srK_lock hS h2 h5 h6 h7, hγ.mono (.upd h6 trivial), h3, fun w H1 m1 x1 hS1 hw => ?_⟩
          have h8 := x1.frz _ _ _ upd_same
          exact ⟨h8, q w _ m1 (.unlock h6 trivial trivial x1) (srK_unlock hS1 h4 (x1.get h5) h8) (hw.mono0 (Ext0.upd h8 trivial))⟩
        · cases e1
      · cases e1
    · cases e1
  · cases e1
theorem ms_lockK {st : Stmt} {ss : SvM} (i : Nat) (h : MS tb X st ss) : MS tb X st (lockKS i ss) := PS.imp (ps_lock h) fun Dn σ H hq => by
  obtain ⟨m, S, γ, f, γ', S', hS, hγ, e1, q⟩ := hq
  unfold lockKS at e1
  split at e1
  · rename_i n h1
    split at e1
    · rename_i kvs h2
      split at e1
      · rename_i f1 γ1 S1 h3
        split at e1
        · rename_i kvs' h4
          cases e1
          obtain ⟨a, h5, ws, h6, h7⟩ := hS.addr h2
          refine ⟨a, _, h6, trivial, fun od => ?_⟩
          refine ⟨m, _, γ, _, _, _, srK_lock hS h2 h5 h6 h7, hγ.mono (.upd h6 trivial), h3, ?_⟩
          have up : ∀ H1 m1, Ext (kx tb X) (upd H a (.frz od (.dK ws))) m H1 m1 → H1 a = some (.frz od (.dK ws)) := fun H1 m1 x => x.frz _ _ _ upd_same
          have hz : ∀ {H1 m1 σ1}, SLR (kx tb X) H1 m1 γ' σ1 → H1 a = some (.frz od (.dK ws)) → SLR (kx tb X) (upd H1 a (.dK ws)) m1 γ' σ1 :=
            fun hg h8 => ⟨hg.len, fun i d q => let ⟨v, a, b⟩ := hg.at_ i d q; ⟨v, a, b.mono0 (Ext0.upd h8 trivial)⟩⟩
          cases f with
          | nx => exact fun σ1 H1 m1 x1 hS1 hγ1 => ⟨up _ _ x1, q σ1 _ m1 (.unlock h6 trivial trivial x1) (srK_unlock hS1 h4 (x1.get h5) (up _ _ x1)) (hz hγ1 (up _ _ x1))⟩
          | bk => exact fun σ1 H1 m1 x1 hS1 hγ1 => ⟨up _ _ x1, q σ1 _ m1 (.unlock h6 trivial trivial x1) (srK_unlock hS1 h4 (x1.get h5) (up _ _ x1)) (hz hγ1 (up _ _ x1))⟩
          | ct => exact fun σ1 H1 m1 x1 hS1 hγ1 => ⟨up _ _ x1, q σ1 _ m1 (.unlock h6 trivial trivial x1) (srK_unlock hS1 h4 (x1.get h5) (up _ _ x1)) (hz hγ1 (up _ _ x1))⟩
          | rt d => exact fun w H1 m1 x1 hS1 hw => ⟨up _ _ x1, q w _ m1 (.unlock h6 trivial trivial x1) (srK_unlock hS1 h4 (x1.get h5) (up _ _ x1)) (hw.mono0 (Ext0.upd (up _ _ x1) trivial))⟩
        · cases e1
      · cases e1
    · cases e1
  · cases e1
end
section
variable {tb : List NdefX.NTab} {X : Cx} {K : Kx} {a b c e : Expr} {ea eb ec : EvM} {pos : Pos}
/-! ### a op b op c -/
def chainM (F G : D → D → Sto → Option (D × Sto)) (ea eb ec : EvM) : EvM := fun γ S => match ea γ S with
  | none => none
  | some (x, S1) => match eb γ S1 with
    | none => none
    | some (y, S2) => match F x y S2 with
      | some (.bl false, S3) => some (.bl false, S3)
      | some (.bl true, S3) => match ec γ S3 with
        | some (z, S4) => G y z S4
        | none => none
      | _ => none
theorem chain_core {F G : D → D → Sto → Option (D × Sto)} {r r' : R2} (hF : FOk2 K F r) (hG : FOk2 K G r') {σ : L2.St} {H : Hp} {Q : VK} (h : tM K (chainM F G ea eb ec) σ H Q) : tChain r r' (tM K ea) (tM K eb) (tM K ec) σ H Q := by
  obtain ⟨m, S, γ, d, S', hS, hγ, e1, q⟩ := h
  unfold chainM at e1
  split at e1
  · cases e1
  · rename_i x S1 h1
    split at e1
    · cases e1
    · rename_i y S2 h2
      refine ⟨m, S, γ, _, _, hS, hγ, h1, fun v H1 m1 x1 hS1 hv => ?_⟩
      refine ⟨m1, S1, γ, _, _, hS1, hγ.mono x1, h2, fun u H2 m2 x2 hS2 hu => ?_⟩
      split at e1
      · rename_i S3 h3
        cases e1
        refine hF _ _ _ _ _ h3 H2 m2 v u _ hS2 (hv.mono x2) hu fun w H3 m3 x3 hS3 hw => ?_
        rw [Rp] at hw; subst hw
        refine ⟨false, rfl, ?_⟩
        rw [if_neg (by decide)]
        exact q _ H3 m3 ((x1.trans x2).trans x3) hS3 (by rw [Rp])
      · rename_i S3 h3
        split at e1
        · rename_i z S4 h4
          refine hF _ _ _ _ _ h3 H2 m2 v u _ hS2 (hv.mono x2) hu fun w H3 m3 x3 hS3 hw => ?_
          rw [Rp] at hw; subst hw
          refine ⟨true, rfl, ?_⟩
          rw [if_pos rfl]
          refine ⟨m3, S3, γ, _, _, hS3, hγ.mono ((x1.trans x2).trans x3), h4, fun t H4 m4 x4 hS4 ht => ?_⟩
          exact hG _ _ _ _ _ e1 H4 m4 u t Q hS4 (hu.mono (x3.trans x4)) ht fun w H5 m5 x5 => q w H5 m5 (((x1.trans x2).trans x3).trans (x4.trans x5))
        · cases e1
      · cases e1
theorem me_chain {op op' : CmpOp} {F G : D → D → Sto → Option (D × Sto)} {r r' : R2} (ho : OpR X (compareOp op) r) (hF : FOk2 (kx tb X) F r) (ho' : OpR X (compareOp op') r') (hG : FOk2 (kx tb X) G r') (ha : ME tb X a ea) (hb : ME tb X b eb) (hc : ME tb X c ec)
    (hm : lastMarks [op, op'] [b, c] = false := by with_unfolding_all rfl) : ME tb X (.Compare a [op, op'] [b, c] pos) (chainM F G ea eb ec) := PE.imp (pe_chain ho ho' ha hb hc hm) fun _ _ _ h => chain_core hF hG h
theorem mt_chain {op op' : CmpOp} {F G : D → D → Sto → Option (D × Sto)} {r r' : R2} (ho : OpR X (compareOp op) r) (hF : FOk2 (kx tb X) F r) (ho' : OpR X (compareOp op') r') (hG : FOk2 (kx tb X) G r') (ha : ME tb X a ea) (hb : ME tb X b eb) (hc : ME tb X c ec)
    (hm : lastMarks [op, op'] [b, c] = false := by with_unfolding_all rfl) : MT tb X (.Compare a [op, op'] [b, c] pos) (tstM (chainM F G ea eb ec)) := PT.imp (pt_chain ho ho' ha hb hc hm) fun _ _ _ h => chain_core hF hG (tst_core h)
/-! ### is True, is None -/
def sameD : D → D → Option Bool
  | .bl a, .bl b => some (decide (a = b))
  | _, _ => none
def isB (neg : Bool) : D → D → Sto → Option (D × Sto) := fun x y S => match sameD x y with
  | some b => some (.bl (if neg then !b else b), S)
  | none => none
theorem isB_ok : FOk2 K (isB false) (fun x y H Q => ∃ a b, x = .bl a ∧ y = .bl b ∧ Q (.bl (decide (a = b))) H) := by
  intro x y S d S' e H m vx vy Q hS hx hy q
  unfold isB sameD at e
  cases x <;> cases y <;> simp at e
  obtain ⟨rfl, rfl⟩ := e
  rw [Rp] at hx hy
  subst hx; subst hy
  exact ⟨_, _, rfl, rfl, fin_bl hS q⟩
theorem isNB_ok : FOk2 K (isB true) (fun x y H Q => ∃ a b, x = .bl a ∧ y = .bl b ∧ Q (.bl (!decide (a = b))) H) := by
  intro x y S d S' e H m vx vy Q hS hx hy q
  unfold isB sameD at e
  cases x <;> cases y <;> simp at e
  obtain ⟨rfl, rfl⟩ := e
  rw [Rp] at hx hy
  subst hx; subst hy
  refine ⟨_, _, rfl, rfl, fin_bl hS ?_⟩
  simpa using q
/-! ### what cannot be told -/
theorem me_void : ME tb X e (fun _ _ => none) := ⟨fun pins s σ H Q I h => by
  obtain ⟨m, S, γ, d, S', hS, hγ, e1, q⟩ := h
  cases e1⟩
theorem mt_void : MT tb X e (fun _ _ => none) := ⟨fun pins s σ H Q I h => by
  obtain ⟨m, S, γ, d, S', hS, hγ, e1, q⟩ := h
  cases e1⟩
theorem mw_void : MW tb X e (fun _ _ => none) := ⟨fun wh pins s σ H Q I h => by
  obtain ⟨m, S, γ, d, S', hS, hγ, e1, q⟩ := h
  cases e1⟩
theorem ms_void {st : Stmt} : MS tb X st (fun _ _ => none) := ⟨fun pins s σ H D I h => by
  obtain ⟨m, S, γ, f, γ', S', hS, hγ, e1, q⟩ := h
  cases e1⟩
theorem mss_void {sts : List Stmt} : MSs tb X sts (fun _ _ => none) := ⟨fun pins s σ H D I h => by
  obtain ⟨m, S, γ, f, γ', S', hS, hγ, e1, q⟩ := h
  cases e1⟩
/-! ### xs.insert(i, x), xs.pop(i) -/
def insertF : D → List D → Sto → Option (D × Sto)
  | .ref n, [.int i, y], S => match S[n]? with
    | some (.lst xs) => if xs.length < sizeLine ∧ 0 ≤ i ∧ i < 2 ^ 63 then some (.non, S.set n (.lst (xs.take i.toNat ++ [y] ++ xs.drop i.toNat))) else none
    | _ => none
  | _, _, _ => none
theorem insertF_ok : FOkM K insertF (fun x vs H Q => ∃ (l : Addr) (xs : List V) (i : Int) (y : V), x = .ref l ∧ vs = [.int i, y] ∧ H l = some (.lst xs) ∧ xs.length < sizeLine ∧ 0 ≤ i ∧ i < 2 ^ 63 ∧ Q .non (upd H l (.lst (xs.take i.toNat ++ [y] ++ xs.drop i.toNat)))) := by
  intro x xs S d S' e H m vx vs Q hS hx hxs q
  unfold insertF at e
  split at e
  · rename_i n i y
    split at e
    · rename_i zs h1
      split at e
      · rename_i hz
        cases e
        simp only [Rp] at hx
        obtain ⟨a, ea, rfl⟩ := hx
        rw [Rps] at hxs
        obtain ⟨v1, r1, rfl, hv1, hr⟩ := hxs
        rw [Rp] at hv1; subst hv1
        obtain ⟨v, rfl, hy⟩ := hr.one_iff
        obtain ⟨a', ws, m1, k1, r1⟩ := hS.lst h1
        rw [ea] at m1; cases m1
        refine ⟨a, ws, i, v, rfl, rfl, k1, by rw [r1.length]; exact hz.1, hz.2.1, hz.2.2, ?_⟩
        have hv2 : Rps K H m (zs.take i.toNat ++ [y] ++ zs.drop i.toNat) (ws.take i.toNat ++ [v] ++ ws.drop i.toNat) := ((r1.take _).append (Rps.one hy)).append (r1.drop _)
        exact fin_set hS ea k1 (lt_of h1) hv2 (by rw [Rp]) q
      · cases e
    · cases e
  · cases e
def popAtF : D → List D → Sto → Option (D × Sto)
  | .ref n, [.int i], S => match S[n]? with
    | some (.lst xs) => if 0 ≤ i ∧ i < 2 ^ 63 then match xs[i.toNat]? with
        | some y => some (y, S.set n (.lst (xs.eraseIdx i.toNat)))
        | none => none
      else none
    | _ => none
  | _, _, _ => none
theorem Rps.erase {H : Hp} {m : List Addr} : ∀ (n : Nat) {xs : List D} {vs : List V}, Rps K H m xs vs → Rps K H m (xs.eraseIdx n) (vs.eraseIdx n)
  | n, [], vs, h => by rw [Rps] at h; subst h; simpa using Rps.nil
  | 0, x :: xs, vs, h => by
    rw [Rps] at h
    obtain ⟨w, r, rfl, s, t⟩ := h
    simpa using t
  | n + 1, x :: xs, vs, h => by
    rw [Rps] at h
    obtain ⟨w, r, rfl, s, t⟩ := h
    simpa using Rps.cons s (Rps.erase n t)
theorem popAtF_ok : FOkM K popAtF rPopAt := by
  intro x xs S d S' e H m vx vs Q hS hx hxs q
  unfold popAtF at e
  split at e
  · rename_i n i
    split at e
    · rename_i zs h1
      split at e
      · rename_i hz
        split at e
        · rename_i y h2
          cases e
          simp only [Rp] at hx
          obtain ⟨a, ea, rfl⟩ := hx
          obtain ⟨v, rfl, hy⟩ := hxs.one_iff
          rw [Rp] at hy; subst hy
          obtain ⟨a', ws, m1, k1, r1⟩ := hS.lst h1
          rw [ea] at m1; cases m1
          obtain ⟨w, hw, rw'⟩ := r1.get h2
          have hl : i.toNat < ws.length := lt_of hw
          refine ⟨a, ws, i, i.toNat, w, rfl, rfl, k1, by omega, hz.2, ?_, hw, fin_set hS ea k1 (lt_of h1) (r1.erase _) rw' q⟩
          unfold seqIndex?
          have h0 : ¬ i < 0 := by omega
          simp only [if_neg h0]
          have h9 : (decide (0 ≤ i) && decide (i < (ws.length : Int))) = true := by simp; omega
          simp only [h9, if_true]
        · cases e
      · cases e
    · cases e
  · cases e
/-! ### the script, gone through -/
def rlI (e : EvM) : IvM := fun γ S => match e γ S with
  | some (.rl xs, S') => some (none, xs, S')
  | _ => none
theorem walks_rl {K : Kx} {H0 : Hp} {m0 : List Addr} {xs : List D} {a : Addr} {vs : List V} (ha : RoL K.f H0 a vs) (hv : Rps K H0 m0 xs vs) : Walks K (Itl K.f a) H0 m0 none xs where
  go := fun H m S i x hS _ hi => by
    obtain ⟨v, h1, h2⟩ := hv.get (List.getElem?_eq_getElem hi)
    have hl := (x.rol _ _ ha).sq
    refine ⟨⟨vs, v, hl, h1⟩, fun y H' q => ?_⟩
    obtain ⟨rfl, q⟩ := q
    have e := q vs hl
    rw [h1] at e; cases e
    exact ⟨_, List.getElem?_eq_getElem hi, .refl, hS, h2.mono x⟩
  stop := fun H m S x hS _ => ⟨vs, (x.rol _ _ ha).sq, by rw [hv.length]; exact Nat.le_refl _⟩
theorem mi_rl {tg iter : Expr} (he : ME tb X iter ea) : MI tb X tg iter (rlI ea) := by
  refine ⟨fun pins s σ H R I hq => ?_⟩
  obtain ⟨m, S, γ, ck, xs, S', hS, hγ, e1, q⟩ := hq
  unfold rlI at e1
  split at e1
  · rename_i ys S1 h1
    cases e1
    refine (pi_list he).run pins s σ H R I ⟨m, S, γ, _, _, hS, hγ, h1, fun w H1 m1 x1 hS1 hw => ?_⟩
    rw [Rp] at hw
    obtain ⟨a, vs, rfl, ha, hv⟩ := hw
    exact ⟨a, rfl, ⟨vs, ha.sq⟩, q _ H1 m1 x1 hS1 (walks_rl ha hv)⟩
  · cases e1
end
end Ml
set_option maxHeartbeats 1000000 -- wide
/-! Ml19: defs as values: a def of the module by its name; a def within a def, handed on and called there -/
namespace Ml
open L2 PyProof.Rows PySem PySem.Spec
section
variable {tb : List NdefX.NTab} {X : Cx} {pos p : Pos} {x : Str} {e : Expr} {es : List Expr} {ra : AvM}
/-- a def of the module as a value -/
theorem me_gl {z : Str} {f : Addr} (hg : Gl X z) (hm : X.mg z = some (.ref f)) (hn : PySem.W.nsIn X.K mainGlobals z = some (some (.ref f))) (hd : (z == ("__debug__" : Str)) = false := by decide) : ME tb X (.Name z pos) (conM (.gl z)) :=
  me_con (pe_glob (v := .ref f) hg hm rfl hd) fun H m => by rw [Rp]; exact ⟨f, rfl, hn⟩
/-- a local name that holds one of these defs is called -/
def callGM (i n : Nat) (cands : Str → Option (List D → Sto → Option (D × Sto))) (ra : AvM) : EvM := fun γ S => match γ[i]? with
  | some (some (.gl z)) => match cands z with
    | some G => match ra γ S with
      | some (xs, S1) => if xs.length = n then G xs S1 else none
      | none => none
    | none => none
  | _ => none
theorem me_callG {k i n : Nat} {cands : Str → Option (List D → Sto → Option (D × Sto))}
    (C : ∀ z G, cands z = some G → ∃ (f : Addr) (fd : FuncData) (ps : List Str), FnOk X.prog X.w X.K X.mg X.base CX0 k f fd ps (spM (kx tb X) n G) ∧ PySem.W.nsIn X.K mainGlobals z = some (some (.ref f)) ∧ PySem.W.keepIn X.K (.ref f) = true ∧ Binds X.K fd ps [])
    (hr : Room k X.A) (hN : X.N[i]? = some x) (hv : Vis X.env.scope x) (ha : MA tb X (e :: es) ra)
    (hdb : (x == ("__debug__" : Str)) = false := by decide) (hcd : (x == ("__classdict__" : Str)) = false := by decide) (he : starEach (e :: es) X.env = (false, eval e X.env) :: starEach es X.env := by rfl) (hpl : (backTo pos (starEach es X.env)).any (·.1) = false := by rfl) :
    ME tb X (.Call (.Name x p) (e :: es) [] pos) (callGM i n cands ra) := by
  refine .mk fun pins s σ H Q I h => ?_
  obtain ⟨m, S, γ, d, S', hS, hγ, e1, q⟩ := h
  unfold callGM at e1
  split at e1
  · rename_i z h1
    split at e1
    · rename_i G h2
      split at e1
      · rename_i xs S1 h3
        split at e1
        · rename_i hl
          obtain ⟨f, fd, ps, F, hn, hk, hb⟩ := C z G h2
          obtain ⟨v, hs, rv⟩ := hγ.at_ i _ h1
          rw [Rp] at rv
          obtain ⟨f', rfl, hn'⟩ := rv
          rw [hn] at hn'
          cases hn'
          refine (pe_callL (i := i) (f := f) (dvs := []) (E := E0) F hr hN hv hk hb .nil pass0 ha hdb hcd he hpl).run pins s σ H Q I ⟨hs, ?_⟩
          refine ⟨m, S, γ, xs, S1, hS, hγ, h3, fun vs H1 m1 x1 hS1 hv => ?_⟩
          show spM (kx tb X) n G (vs ++ []) H1 Q E0
          rw [List.append_nil]
          exact ⟨m1, S1, xs, d, S', hl, hS1, hv, e1, fun w H2 m2 x2 => q w H2 m2 (x1.trans x2)⟩
        · cases e1
      · cases e1
    · cases e1
  · cases e1
/-! ### a def within a def: what it promises, how it is called -/
/-- its promise: the captured values stand behind the arguments -/
def NokM (P : Program) (w : World) (K : PySem.W.Frag) (mg : Str → Option Value) (base : Heap) (tb : List NdefX.NTab) (k : Nat) (nd : NDef) (G : List D → Sto → Option (D × Sto)) : Prop :=
  ∀ (cl : List (Str × Addr)) (c f : Addr), NdefX.NOk P w K mg base CX0 k f (nd.nf cl c) nd.ps nd.fr fun ws vs H Q E => ∃ vs2 : List V, ws = vs2.map some ∧ vs.length = nd.ps.length ∧ vs2.length = nd.fr.length ∧ spM ⟨K, P, w, base, tb⟩ (nd.ps.length + nd.fr.length) G (vs ++ vs2) H Q E
open Classical in
/-- a local name that holds a def made within a def is called -/
noncomputable def callNM (i : Nat) (tab : Nat → Option NDef) (G : Nat → List D → Sto → Option (D × Sto)) (ra : AvM) : EvM := fun γ S => match γ[i]? with
  | some (some (.ref n)) => match S[n]? with
    | some (.fn _ _ _) => match ra γ S with
      | some (xs, S1) => match S1[n]? with
        | some (.fn id nd ws) => if tab id = some nd ∧ xs.length = nd.ps.length ∧ ws.length = nd.fr.length then G id (xs ++ ws) S1 else none
        | _ => none
      | none => none
    | _ => none
  | _ => none
theorem me_callN {k i : Nat} {tab : Nat → Option NDef} {G : Nat → List D → Sto → Option (D × Sto)} (C : ∀ id nd, tab id = some nd → NokM X.prog X.w X.K X.mg X.base tb k nd (G id))
    (hr : Room k X.A) (hN : X.N[i]? = some x) (hv : Vis X.env.scope x) (ha : MA tb X (e :: es) ra)
    (hdb : (x == ("__debug__" : Str)) = false := by decide) (hcd : (x == ("__classdict__" : Str)) = false := by decide) (he : starEach (e :: es) X.env = (false, eval e X.env) :: starEach es X.env := by rfl) (hpl : (backTo pos (starEach es X.env)).any (·.1) = false := by rfl) :
    ME tb X (.Call (.Name x p) (e :: es) [] pos) (callNM i tab G ra) := by
  refine .mk fun pins s σ H Q I h => ?_
  obtain ⟨m, S, γ, d, S', hS, hγ, e1, q⟩ := h
  unfold callNM at e1
  split at e1
  · rename_i n h1
    split at e1
    · rename_i id0 nd0 ws0 h2
      split at e1
      · rename_i xs S1 h3
        split at e1
        · rename_i id nd ws h4
          split at e1
          · rename_i hl
            obtain ⟨v, hs, rv⟩ := hγ.at_ i _ h1
            rw [Rp] at rv
            obtain ⟨f, hm, rfl⟩ := rv
            obtain ⟨cl0, c0, vs0, f0, _⟩ := hS.at_ n f _ hm h2
            refine wpAny_Call_Name_kw (thn ((pe_var (pos := p) hN hv hdb hcd).run pins s σ H (fun v H1 => v = .ref f ∧ H1 = H) I ⟨.ref f, hs, rfl, rfl⟩) fun u s1 ⟨v, H1, I1, r1, q1⟩ => ?_); obtain ⟨rfl, rfl⟩ := q1
            obtain rfl : u = Value.ref f := r1; refine PySem.W.callWith_F (first := []) (NdefX.fnAt_of I1 f0) (thn (ha.run pos pins s1 σ H1 (fun vs H2 => ∃ m2, Ext (kx tb X) H1 m H2 m2 ∧ SR (kx tb X) H2 m2 S1 ∧ Rps (kx tb X) H2 m2 xs vs) I1 ⟨m, S, γ, xs, S1, hS, hγ, h3, fun vs H2 m2 x2 hS2 hz => ⟨m2, x2, hS2, hz⟩⟩) fun us s2 hq => ?_) he hpl
            obtain ⟨vs, H2, I2, r, m2, x2, hS2, hvs⟩ := hq
            have hm2 := x2.get hm
            obtain ⟨cl, c, vs2, f2, c2, cm, ci, hws⟩ := hS2.at_ n f _ hm2 h4
            refine ⟨NdefX.fnAt_of I2 f2, ?_⟩
            show wpAny _ _ (call (.ref f) us) _ _ _; have Fn := C id nd hl.1 cl c f
            have hln : vs2.length = nd.fr.length := ci.len
            refine wpAny_call (codeAny_mono (Fn.run X.A X.stack s2 H2 us vs (vs2.map some) Q E0 hr I2.env0 f2 c2 ?_ r ⟨vs2, rfl, by rw [hvs.length]; exact hl.2.1, hln, m2, S1, xs ++ ws, d, S', ?_, hS2, hvs.append hws, e1, fun w H3 m3 x3 => q w H3 m3 (x2.trans x3)⟩) fun r s' hq => ?_)
            · refine ⟨by simpa using hln, fun y c' e => ?_, ci.inj, fun j y e => ?_⟩
              · obtain ⟨v, o, ho, hd⟩ := ci.all y c' e
                exact ⟨(I2.bs _ _ ho).2, v, o, (I2.bs _ _ ho).1, hd⟩
              · obtain ⟨c', hc, hv⟩ := ci.has j y e
                refine ⟨c', hc, fun v ev => ?_⟩
                rw [List.getElem?_map] at ev
                cases ew : vs2[j]? with
                | none => rw [ew] at ev; cases ev
                | some v' =>
                  rw [ew] at ev
                  cases ev
                  obtain ⟨u, ru, o, ho, hd⟩ := hv v ew
                  exact ⟨u, ru, o, (I2.bs _ _ ho).1, hd⟩
            · rw [List.length_append, hl.2.1, hl.2.2]
            · cases r with
              | error err => exact False.elim hq
              | ok fl =>
                cases fl with
                | ret u => exact I2.after hq
                | next => exact False.elim hq
                | brk => exact False.elim hq
                | cont => exact False.elim hq
          · cases e1
        · cases e1
      · cases e1
    · cases e1
  · cases e1
end
section
variable {P : Program} {w : World} {K : PySem.W.Frag} {tb : List NdefX.NTab} {mg : Str → Option Value} {base : Heap}
theorem nok_zero {nd : NDef} {k : Nat} : NokM P w K mg base tb k nd fun _ _ => none := fun cl c f => by
  have no : ∀ ws vs H Q E, ¬ ∃ vs2 : List V, ws = vs2.map some ∧ vs.length = nd.ps.length ∧ vs2.length = nd.fr.length ∧ spM ⟨K, P, w, base, tb⟩ (nd.ps.length + nd.fr.length) (fun _ _ => none) (vs ++ vs2) H Q E := fun ws vs H Q E h => by
    obtain ⟨_, _, _, _, m, S, xs, d, S', h1, _, h2, h3, _⟩ := h
    cases h3
  exact ⟨fun ws vs H Q E h => (no _ _ _ _ _ h).elim, fun A outer s H us vs ws Q E _ _ _ _ _ _ h => (no _ _ _ _ _ h).elim⟩
/-- THE RULE for a def within a def -/
theorem nok_def {nd : NDef} {N : List Str} {k : Nat} {s : SvM} (S : NdefX.NScope N nd.ps nd.fr (C8.fnScope nd.st)) (hn : nd.ps.length + nd.fr.length ≤ N.length)
    (hbind : ∀ (cl : List (Str × Addr)) (c : Addr) (doc pm ctv : Value) (us : List Value), us.length = nd.ps.length → bindArgs ((nd.nf cl c).fd doc pm ctv) ⟨us, []⟩ = pure (nd.ps.zip us))
    (hb : ∀ (cl : List (Str × Addr)) (c f : Addr) (A : Around) (outer : List Env) (s0 : Shared) (H : Hp) (E : XK), Room k (NdefX.ncx CX0 P w K mg base N (nd.nf cl c) f A outer s0 H E).A → MSs tb (NdefX.ncx CX0 P w K mg base N (nd.nf cl c) f A outer s0 H E) (C8.fnBody nd.st) s) :
    NokM P w K mg base tb (k + 1) nd (bodyM N.length s) := fun cl c f => by
  refine NdefX.nok_of (N := N) S (hbind cl c) (fun ws vs H Q E h => ?_) fun A outer s0 H vs ws Q E hr hf hc hl h => ?_
  · obtain ⟨_, _, h, _⟩ := h; exact h
  · obtain ⟨vs2, rfl, hv, hv2, m, S0, xs, d, S', h1, hS, h2, h3, q⟩ := h
    refine ⟨_, hb cl c f A outer s0 H E hr, ?_⟩
    have hst : NdefX.startF N vs (vs2.map some) = L2.start N (vs ++ vs2) := by
      unfold NdefX.startF L2.start
      rw [List.map_append, List.append_assoc, List.length_append, List.length_map, Nat.sub_sub]
    have sl := slr_start (N := N) h2 (by rw [h1]; exact hn)
    unfold bodyM at h3
    split at h3
    · rename_i d' γ' S1 h4
      cases h3
      exact ⟨m, S0, _, .rt d, γ', _, hS, by rw [hst]; exact sl, h4, q⟩
    · rename_i γ' S1 h4
      cases h3
      exact ⟨m, S0, _, .nx, γ', _, hS, by rw [hst]; exact sl, h4, fun σ' H' m' x hS' _ => q _ H' m' x hS' (by rw [Rp])⟩
    · cases h3
end
end Ml
set_option maxHeartbeats 1000000 -- wide
/-! Ml20: a def within a def, made and handed on in the return behind it -/
namespace Ml
open L2 PyProof.Rows PySem PySem.Spec
/-! ### another ground, another context -/
section
variable {f : PySem.W.Frag} {p : Program} {w : World} {b b' : Heap} {t t' : List NdefX.NTab} {H H' : Hp} {m m' : List Addr}
mutual
theorem Rp.gr : ∀ (d : D) (v : V), Rp ⟨f, p, w, b, t⟩ H m d v → Rp ⟨f, p, w, b', t'⟩ H m d v
  | .non, v, h => by simpa only [Rp] using h
  | .bl _, v, h => by simpa only [Rp] using h
  | .int _, v, h => by simpa only [Rp] using h
  | .str _, v, h => by simpa only [Rp] using h
  | .gl _, v, h => by simpa only [Rp] using h
  | .ref _, v, h => by simpa only [Rp] using h
  | .tup xs, v, h => by
    rw [Rp] at h ⊢
    obtain ⟨a, vs, r, s, q⟩ := h
    exact ⟨a, vs, r, s, Rps.gr xs vs q⟩
  | .rl xs, v, h => by
    rw [Rp] at h ⊢
    obtain ⟨a, vs, r, s, q⟩ := h
    exact ⟨a, vs, r, s, Rps.gr xs vs q⟩
theorem Rps.gr : ∀ (d : List D) (v : List V), Rps ⟨f, p, w, b, t⟩ H m d v → Rps ⟨f, p, w, b', t'⟩ H m d v
  | [], v, h => by simpa only [Rps] using h
  | x :: xs, v, h => by
    rw [Rps] at h ⊢
    obtain ⟨w, r, q, s, t⟩ := h
    exact ⟨w, r, q, Rp.gr x w s, Rps.gr xs r t⟩
end
theorem Ext.gr (e : Ext ⟨f, p, w, b, t⟩ H m H' m') : Ext ⟨f, p, w, b', t'⟩ H m H' m' := ⟨⟨e.pre, e.tup, e.rol⟩, e.frz⟩
theorem Rkv.gr {κ : Type} {a : List (κ × D)} {c : List (κ × V)} (h : Rkv ⟨f, p, w, b, t⟩ H m a c) : Rkv ⟨f, p, w, b', t'⟩ H m a c := Paired.mapP h fun _ _ q => ⟨q.1, q.2.gr⟩
theorem Rdn.gr {a : List (D × D)} {c : List (NestedKey × Addr × V)} (h : Rdn ⟨f, p, w, b, t⟩ H m a c) : Rdn ⟨f, p, w, b', t'⟩ H m a c := Paired.mapP h fun _ _ q => ⟨q.1, q.2.1, q.2.2.1.gr, q.2.2.2.gr⟩
theorem CellsIn.up {cl : List (Str × Addr)} {fr : List Str} {vs : List V} (k : ∀ a o, b.get? a = some o → b'.get? a = some o) (h : CellsIn b cl fr vs) : CellsIn b' cl fr vs :=
  ⟨h.inj, fun y c e => let ⟨v, o, ho, hd⟩ := h.all y c e; ⟨v, o, k _ _ ho, hd⟩, h.len, fun i y e => let ⟨c, hc, hv⟩ := h.has i y e; ⟨c, hc, fun v ev => let ⟨u, r, o, ho, hd⟩ := hv v ev; ⟨u, r, o, k _ _ ho, hd⟩⟩⟩
theorem OR.up {a : Addr} {o : O} (k : ∀ a o, b.get? a = some o → b'.get? a = some o) (h : OR ⟨f, p, w, b, t⟩ H m a o) : OR ⟨f, p, w, b', t'⟩ H m a o := by
  cases o with
  | lst xs => obtain ⟨vs, q, r⟩ := h; exact ⟨vs, q, r.gr⟩
  | dk kvs => obtain ⟨vs, q, r⟩ := h; exact ⟨vs, q, r.gr⟩
  | dn lk kvs =>
    cases lk with
    | false => obtain ⟨xs, q, r⟩ := h; exact ⟨xs, q, r.gr⟩
    | true => obtain ⟨od, xs, q, r⟩ := h; exact ⟨od, xs, q, r.gr⟩
  | ins C fs => obtain ⟨dx, ws, q, r⟩ := h; exact ⟨dx, ws, q, r.gr⟩
  | dkl kvs => obtain ⟨od, ws, q, r⟩ := h; exact ⟨od, ws, q, r.gr⟩
  | fn i nd ws => obtain ⟨cl, c, vs, q, r, z, y, x⟩ := h; exact ⟨cl, c, vs, q, r, z, y.up k, x.gr⟩
  | junk => exact h
/-- no def is kept as one -/
def jk : O → O
  | .fn _ _ _ => .junk
  | o => o
def junkAll (S : Sto) : Sto := S.map jk
theorem OR.jk {a : Addr} {o : O} (h : OR ⟨f, p, w, b, t⟩ H m a o) : OR ⟨f, p, w, b', t'⟩ H m a (Ml.jk o) := by
  cases o with
  | lst xs => obtain ⟨vs, q, r⟩ := h; exact ⟨vs, q, r.gr⟩
  | dk kvs => obtain ⟨vs, q, r⟩ := h; exact ⟨vs, q, r.gr⟩
  | dn lk kvs =>
    cases lk with
    | false => obtain ⟨xs, q, r⟩ := h; exact ⟨xs, q, r.gr⟩
    | true => obtain ⟨od, xs, q, r⟩ := h; exact ⟨od, xs, q, r.gr⟩
  | ins C fs => obtain ⟨dx, ws, q, r⟩ := h; exact ⟨dx, ws, q, r.gr⟩
  | dkl kvs => obtain ⟨od, ws, q, r⟩ := h; exact ⟨od, ws, q, r.gr⟩
  | fn i nd ws => obtain ⟨cl, c, vs, q, _⟩ := h; exact ⟨_, q⟩
  | junk => exact h
theorem SR.jk {S : Sto} (h : SR ⟨f, p, w, b, t⟩ H m S) : SR ⟨f, p, w, b', t⟩ H m (junkAll S) :=
  ⟨h.tb, by rw [h.len]; exact (List.length_map ..).symm, h.nd, fun n a o e1 e2 => by
    unfold junkAll at e2
    rw [List.getElem?_map] at e2
    cases e3 : S[n]? with
    | none => rw [e3] at e2; cases e2
    | some u => rw [e3] at e2; cases e2; exact (h.at_ n a u e1 e3).jk⟩
theorem SR.up {S : Sto} (k : ∀ a o, b.get? a = some o → b'.get? a = some o) (h : SR ⟨f, p, w, b, t⟩ H m S) : SR ⟨f, p, w, b', t⟩ H m S := ⟨h.tb, h.len, h.nd, fun n a o e1 e2 => (h.at_ n a o e1 e2).up k⟩
end
/-- what a code object is nothing else is -/
theorem code_fn {P : Program} {w : World} {H : Hp} {h : Heap} {c : Addr} {q : Str} {F : NdefX.NF} (hok : HOk P w H h) (hc : H c = some (LamX.CodeO c q)) : H c ≠ some (NdefX.FnO c F) := fun e => by
  obtain ⟨⟨oc, vs, t, h1, h2, _⟩, _⟩ := hok c _ hc
  obtain ⟨od, sl, doc, pm, ctv, h3⟩ := NdefX.fnO_at hok e
  rw [h1] at h3
  cases h3
  cases h2
theorem code_out {K : Kx} {P : Program} {w : World} {H : Hp} {h : Heap} {m : List Addr} {S : Sto} {c : Addr} {q : Str} (hok : HOk P w H h) (hl : m.length = S.length) (hS : ∀ (n : Nat) (a : Addr) (o : O), m[n]? = some a → S[n]? = some o → OR K H m a o) (hc : H c = some (LamX.CodeO c q)) : c ∉ m := fun hm => by
  obtain ⟨n, hn, e⟩ := List.getElem_of_mem hm
  have hs : n < S.length := by rw [← hl]; exact hn
  have o := hS n c S[n] (by rw [List.getElem?_eq_getElem hn, e]) (List.getElem?_eq_getElem hs)
  have hcc := hc
  unfold LamX.CodeO at hc
  cases z : S[n] with
  | lst xs => rw [z] at o; obtain ⟨_, y, _⟩ := o; rw [hc] at y; cases y
  | dk xs => rw [z] at o; obtain ⟨_, y, _⟩ := o; rw [hc] at y; cases y
  | dn lk xs =>
    rw [z] at o
    cases lk with
    | false =>
      obtain ⟨xs, y, _⟩ := o
      obtain ⟨⟨oc, vs, t, h1, h2, _⟩, _⟩ := hok c _ hcc
      obtain ⟨⟨_, _, ys, _, ob, es, ep, h3, _, h4, _⟩, _⟩ := hok c _ y
      rw [h1] at h3
      cases h3
      rw [h2] at h4
      cases h4
    | true => obtain ⟨_, _, y, _⟩ := o; rw [hc] at y; cases y
  | ins C xs => rw [z] at o; obtain ⟨_, _, y, _⟩ := o; rw [hc] at y; cases y
  | dkl xs => rw [z] at o; obtain ⟨_, _, y, _⟩ := o; rw [hc] at y; cases y
  | fn i nd ws => rw [z] at o; obtain ⟨_, _, _, y, _⟩ := o; exact code_fn hok hcc y
  | junk => rw [z] at o; obtain ⟨_, y⟩ := o; exact code_fn hok hcc y
/-! ### the def's object is made -/
section
variable {tb : List NdefX.NTab} {X : Cx}
/-- the store is as before, the slot i holds the new function at f -/
def tDefX (K : Kx) (i : Nat) (mk : Addr → NdefX.NF) : TS := fun Dn σ H => ∃ m S γ, SR K H m S ∧ SLR K H m γ σ ∧ ∀ (f c' : Addr) (H1 : Hp), Ext K H m H1 m → SR K H1 m S → H1 f = some (NdefX.FnO f (mk c')) → H1 c' = some (LamX.CodeO c' (mk c').qual) → f ∉ m →
  (∀ c q, H1 c = some (LamX.CodeO c q) → c ≠ f ∧ c ∉ m) → Dn.nx (σ.set i (some (.ref f))) H1
theorem ps_defX {nd : NDef} {nm : Nat → Nat → Str} {c P : Addr} {pos : Pos} {i : Nat} (hst : nd.st = .FunctionDef nd.name (C8.fnArgs nd.st) (C8.fnBody nd.st) [] none [] (C8.fnScope nd.st) none nd.name pos) (hq : nd.qual = X.env.qual ++ nd.name)
    (TB : LamX.TabB X.base X.mg c P) (hcode : X.env.code = .ref c) (hm : (P, nm) ∈ tb) (hn : nm pos.line pos.col = X.env.qual ++ nd.name) (hu : ∀ p ∈ tb, p.1 = P → p.2 = nm)
    (hfree : ∀ y ∈ (C8.fnScope nd.st).names, y.2 = .free → X.env.scope.names.lookup y.1 = some .cell ∨ X.env.scope.names.lookup y.1 = some .free) (hd0 : (C8.fnArgs nd.st).defaults = []) (hk0 : (C8.fnArgs nd.st).kw_defaults = []) (ha : annTrees (C8.fnArgs nd.st) none X.env = [])
    (hN : X.N.Nodup) (hi : X.N[i]? = some nd.name) (hx : Loc X.env.scope nd.name) (hf : X.fn nd.name = true ∨ X.env.scope.names.lookup nd.name = some .local) :
    PS X nd.st (tDefX (kx tb X) i fun c' => nd.nf (cloFrom X.env.cells (C8.fnScope nd.st).names []) c') := by
  refine ⟨fun pins s σ H Dn I h => ?_⟩
  obtain ⟨m, S, γ, hS, hγ, h⟩ := h
  have hqn : qualnameIn X.env nd.name nd.name = X.env.qual ++ nd.name := by
    have hk : X.env.kindOf nd.name = some .local ∨ X.env.kindOf nd.name = some .cell := hx
    unfold qualnameIn; rcases hk with k | k <;> rw [k] <;> first | rfl | exact if_neg (by decide)
  have hfr : ∀ y ∈ (C8.fnScope nd.st).names, y.2 = .free → ∃ c, X.env.cells.lookup y.1 = some c := fun y hy e => (hfree y hy e).elim (fun z => I.ok.has _ (.inl z)) fun z => I.ok.has _ (.inr z)
  have hT : NdefX.TabsN tb H := fun p hp => by
    obtain ⟨ps, h1, h2, h3⟩ := hS.tb p hp
    exact ⟨ps, h1, h2, fun pos cv e => let ⟨c, e1, e2, _⟩ := h3 pos cv e; ⟨c, e1, e2⟩⟩
  rw [hst]
  refine PySem.W.nestDef_K hd0 hk0 ha ?_; rw [hqn]
  refine NdefX.ndef_make I TB hcode hm hn hu hT hfr fun f c' H1 s' I1 eN _ T1 f0 f1 c1 => ?_
  refine store_ok I1 hN hi hx (v := .ref f) rfl (fun s'' J => ⟨_, H1, J, ?_⟩) hf
  have keep : ∀ (a : Addr) (u : HO), H a = some u → (∀ ps, u ≠ .tbl ps) → H1 a = some u := fun a u e n => eN a u e n
  have sq : ∀ a vs, SqT X.K H a vs → SqT X.K H1 a vs := fun a vs z => by
    rcases z with (z | ⟨o, z⟩) | z
    · exact .inl (.inl (keep _ _ z fun ps y => by cases y))
    · exact .inl (.inr ⟨o, keep _ _ z fun ps y => by cases y⟩)
    · exact .inr z
  have x : Ext (kx tb X) H m H1 m := ⟨⟨⟨[], by simp⟩, sq, fun a vs z => by
    rcases z with ⟨o, z⟩ | z
    · exact .inl ⟨o, keep _ _ z fun ps y => by cases y⟩
    · exact .inr z⟩, fun a od u z => keep _ _ z fun ps y => by cases y⟩
  have hmf : f ∉ m := hS.none f0
  have st : ∀ (n : Nat) (a : Addr) (o : O), m[n]? = some a → S[n]? = some o → OR (kx tb X) H1 m a o := fun n a o e1 e2 => by
    have r := hS.at_ n a o e1 e2
    obtain ⟨u, hu1, hu2⟩ := r.there
    have nt : ∀ ps, u ≠ .tbl ps := fun ps y => by subst y; exact hu2
    have k : ∀ w, H a = some w → H1 a = some w := fun w z => by rw [hu1] at z; cases z; exact keep _ _ hu1 nt
    cases o with
    | lst xs => obtain ⟨vs, q, r⟩ := r; exact ⟨vs, k _ q, r.mono x⟩
    | dk kvs => obtain ⟨vs, q, r⟩ := r; exact ⟨vs, k _ q, r.mono x⟩
    | dn lk kvs =>
      cases lk with
      | false => obtain ⟨xs, q, r⟩ := r; exact ⟨xs, k _ q, r.mono x⟩
      | true => obtain ⟨od, xs, q, r⟩ := r; exact ⟨od, xs, k _ q, r.mono x⟩
    | ins C fs => obtain ⟨dx, ws, q, r⟩ := r; exact ⟨dx, ws, k _ q, r.mono x⟩
    | dkl kvs => obtain ⟨od, ws, q, r⟩ := r; exact ⟨od, ws, k _ q, r.mono x⟩
    | fn i nd ws => obtain ⟨cl, c, vs, q, r, z, y, w⟩ := r; exact ⟨cl, c, vs, k _ q, keep _ _ r LamX.codeO_ne, z, y, w.mono x⟩
    | junk => obtain ⟨F, q⟩ := r; exact ⟨F, k _ q⟩
  have out : ∀ c q, H1 c = some (LamX.CodeO c q) → c ≠ f ∧ c ∉ m := fun c q z => ⟨fun y => by subst y; exact code_fn I1.hok z f1, code_out I1.hok hS.len st z⟩
  have hS1 : SR (kx tb X) H1 m S := ⟨fun p hp => by
    obtain ⟨ps, h1, h2, h3⟩ := T1 p hp
    exact ⟨ps, h1, h2, fun pos cv e => let ⟨c, e1, e2⟩ := h3 pos cv e; ⟨c, e1, e2, (out c _ e2).2⟩⟩, hS.len, hS.nd, st⟩
  refine h f c' H1 x hS1 ?_ ?_ hmf out
  · rw [f1]
    unfold NDef.nf NdefX.NF.of
    rw [hq]
  · rw [c1]
    show some (LamX.CodeO c' (X.env.qual ++ nd.name)) = some (LamX.CodeO c' nd.qual)
    rw [hq]
end
end Ml
set_option maxHeartbeats 1000000 -- wide
/-! Ml21: .. and handed on, in the return behind it -/
namespace Ml
open L2 PyProof.Rows PySem PySem.Spec
/-- the ground with these cells in it -/
noncomputable def gnd (base h : Heap) (cs : List Addr) : Heap := hidT h fun b => if (base.get? b).isSome = true ∨ b ∈ cs then none else some (.own 0)
theorem gnd_get {base h : Heap} {cs : List Addr} {b : Addr} {o : Obj} (e : h.get? b = some o) (c : (base.get? b).isSome = true ∨ b ∈ cs) : (gnd base h cs).get? b = some o := hidT_get e (if_pos c)
theorem of_gnd {base h : Heap} {cs : List Addr} {b : Addr} {o : Obj} (e : (gnd base h cs).get? b = some o) : h.get? b = some o ∧ ((base.get? b).isSome = true ∨ b ∈ cs) := by
  obtain ⟨h1, h2⟩ := of_hidT e
  refine ⟨h1, ?_⟩
  by_cases c : (base.get? b).isSome = true ∨ b ∈ cs
  · exact c
  · have z : (if (base.get? b).isSome = true ∨ b ∈ cs then (none : Option HO) else some (.own 0)) = none := h2
    rw [if_neg c] at z
    cases z
section
variable {tb : List NdefX.NTab} {X : Cx} {pins : List (Addr × Obj)} {σ : L2.St} {H : Hp} {s : Shared}
theorem gnd_keep {cs : List Addr} (I : Inv X pins σ H s) : ∀ b o, X.base.get? b = some o → (gnd X.base s.heap cs).get? b = some o := fun b o e => gnd_get (I.bk b o e) (.inl (by rw [e]; rfl))
/-- what is asked ahead of a call: over the ground with some cells of the running frame -/
theorem env0_gnd {cs : List Addr} (I : Inv X pins σ H s) (hfn : ∀ y, X.fn y = true) (hcs : ∀ c ∈ cs, ∃ y, X.env.cells.lookup y = some c) : Env0 X.prog X.w X.K X.mg (gnd X.base s.heap cs) X.A X.stack s H := by
  have k := gnd_keep (cs := cs) I
  have e0 := I.env0
  obtain ⟨mb, h1, h2⟩ := I.mod.blt; refine ⟨e0.frames, ⟨I.mod.kin.keeps k, I.mod.glob.keeps k, ⟨mb, h1.keeps k, h2⟩, I.mod.nolimit.keeps k⟩, fun b o e => ?_, Nat.le_of_eq (hidT_size _ _), ?_, e0.frf, e0.hok, e0.bare⟩
  · obtain ⟨h3, h4 | h4⟩ := of_gnd e
    · obtain ⟨o2, h5⟩ := Option.isSome_iff_exists.mp h4
      exact ⟨h3, (I.bs b o2 h5).2⟩
    · obtain ⟨y, hy⟩ := hcs b h4
      exact ⟨h3, I.freeC y b hy⟩
  · refine funFrames_none I.stack fun L hL => ?_
    cases q : (gnd X.base s.heap cs).get? L with
    | none => rfl
    | some o =>
      obtain ⟨h3, h4 | h4⟩ := of_gnd q
      · obtain ⟨z, _⟩ := I.stack.mem hL
        rw [z] at h4
        cases h4
      · obtain ⟨y, hy⟩ := hcs L h4
        rcases List.mem_cons.mp (I.stkSub L hL) with e | e
        · exact (I.cne y L hy e).elim
        · obtain ⟨_, o', ho, _⟩ := I.ok.funs.mem e
          exact absurd (Nat.lt_of_lt_of_le (Heap.lt_size ho) (I.ok.cab y L (hfn y) hy)) (Nat.lt_irrefl _)
/-- the slots' values -/
theorem slots_of {K : Kx} {m : List Addr} {γ : Sl} (hγ : SLR K H m γ σ) : ∀ {js : List Nat} {ws : List D}, js.map (fun j => γ[j]?) = ws.map (fun w => some (some w)) → ∃ vs : List V, js.map (NdefX.slotAt σ) = vs.map some ∧ Rps K H m ws vs
  | [], [], _ => ⟨[], rfl, Rps.nil⟩
  | [], _ :: _, e => by cases e
  | _ :: _, [], e => by cases e
  | j :: js, w :: ws, e => by
    rw [List.map_cons, List.map_cons] at e; obtain ⟨e1, e2⟩ := List.cons.inj e
    obtain ⟨vs, h1, h2⟩ := slots_of hγ e2
    obtain ⟨v, h3, h4⟩ := hγ.at_ j w e1
    exact ⟨v :: vs, by rw [List.map_cons, List.map_cons, h1, NdefX.slotAt_of h3], Rps.cons h4 h2⟩
/-- what is given back by the call that a new def is handed to -/
def dretM (id : Nat) (nd : NDef) (ia : Nat) (js : List Nat) (G : List D → Sto → Option (D × Sto)) : SvM := fun γ S => match γ[ia]? with
  | some (some y) => match js.mapM (fun j => γ[j]?.join) with
    | some ws => match G [y, .ref S.length] (S ++ [.fn id nd ws]) with
      | some (d, S2) => some (.rt d, γ, junkAll S2)
      | none => none
    | none => none
  | _ => none
theorem mapM_slots {γ : Sl} : ∀ {js : List Nat} {ws : List D}, js.mapM (fun j => γ[j]?.join) = some ws → js.map (fun j => γ[j]?) = ws.map (fun w => some (some w))
  | [], ws, e => by simp at e; subst e; rfl
  | j :: js, ws, e => by
    rw [List.mapM_cons] at e
    cases h1 : γ[j]?.join with
    | none => rw [h1] at e; simp at e
    | some w =>
      cases h2 : js.mapM (fun j => γ[j]?.join) with
      | none => rw [h1, h2] at e; simp at e
      | some r =>
        rw [h1, h2] at e
        simp at e
        subst e
        have h3 : γ[j]? = some (some w) := by
          cases h4 : γ[j]? with
          | none => rw [h4] at h1; cases h1
          | some o => rw [h4] at h1; have h1 : o = some w := h1; rw [h1]
        rw [List.map_cons, List.map_cons, mapM_slots h2, h3]
variable {k i ia : Nat} {f c P : Addr} {fd : FuncData} {ps : List Str} {G : List D → Sto → Option (D × Sto)} {x xa : Str} {nd : NDef} {nm : Nat → Nat → Str} {pos pr pc px pa pq : Pos} {js : List Nat} {id : Nat}
theorem mss_dret (hst : nd.st = .FunctionDef nd.name (C8.fnArgs nd.st) (C8.fnBody nd.st) [] none [] (C8.fnScope nd.st) none nd.name pos) (hq : nd.qual = X.env.qual ++ nd.name)
    (TB : LamX.TabB X.base X.mg c P) (hcode : X.env.code = .ref c) (hm : (P, nm) ∈ tb) (hn : nm pos.line pos.col = X.env.qual ++ nd.name) (hu : ∀ p ∈ tb, p.1 = P → p.2 = nm)
    (hnd : NdefX.ndefB X.env.scope (C8.fnScope nd.st) nd.fr = true) (hd0 : (C8.fnArgs nd.st).defaults = []) (hk0 : (C8.fnArgs nd.st).kw_defaults = []) (ha : annTrees (C8.fnArgs nd.st) none X.env = [])
    (hN : X.N.Nodup) (hi : X.N[i]? = some nd.name) (hx : Loc X.env.scope nd.name) (hfn : ∀ y, X.fn y = true) (hjs : js.map (fun j => X.N[j]?) = nd.fr.map some) (hji : i ∉ js) (hia : X.N[ia]? = some xa) (hva : Vis X.env.scope xa) (hne : ia ≠ i)
    (F : ∀ base : Heap, (∀ b o, X.base.get? b = some o → base.get? b = some o) → FnOk X.prog X.w X.K X.mg base CX0 k f fd ps (spM ⟨X.K, X.prog, X.w, base, tb⟩ 2 G)) (hr : Room k X.A) (hg : Gl X x) (hmf : X.mg x = some (.ref f)) (hk : PySem.W.keepIn X.K (.ref f) = true) (hb : Binds X.K fd ps [])
    (d1 : (x == ("__debug__" : Str)) = false := by decide) (d2 : (xa == ("__debug__" : Str)) = false := by decide) (d3 : (xa == ("__classdict__" : Str)) = false := by decide) (d4 : (nd.name == ("__debug__" : Str)) = false := by decide) (d5 : (nd.name == ("__classdict__" : Str)) = false := by decide)
    (a0 : starEach [.Name xa pa, .Name nd.name pq] X.env = (false, eval (.Name xa pa) X.env) :: starEach [.Name nd.name pq] X.env := by rfl) (a1 : starEach [.Name nd.name pq] X.env = (false, eval (.Name nd.name pq) X.env) :: starEach [] X.env := by rfl)
    (hpl : (backTo pc (starEach [.Name nd.name pq] X.env)).any (·.1) = false := by rfl) :
    MSs tb X [nd.st, .Return (some (.Call (.Name x px) [.Name xa pa, .Name nd.name pq] [] pc)) pr] (dretM id nd ia js G) := by
  have hvi : Vis X.env.scope nd.name := hx.elim .inl fun z => .inr (.inl z)
  have hfree := NdefX.ndef_free hnd
  have hfr := NdefX.ndef_fr hnd
  have hD := ps_defX (tb := tb) (i := i) (nm := nm) hst hq TB hcode hm hn hu hfree hd0 hk0 ha hN hi hx (.inl (hfn _))
  refine ⟨fun pins s σ H Dn I h => ?_⟩
  obtain ⟨m, S, γ, fl, γ', S', hS, hγ, e1, q⟩ := h
  unfold dretM at e1
  split at e1
  · rename_i y h1
    split at e1
    · rename_i ws h2
      split at e1
      · rename_i d S2 h3
        cases e1
        have h2' := mapM_slots h2
        -- the call behind the def
        have hP : PE X (.Call (.Name x px) [.Name xa pa, .Name nd.name pq] [] pc) (fun σ H Q => ∃ m γ f0 c', SR (kx tb X) H m S ∧ SLR (kx tb X) H m γ σ ∧ σ[i]? = some (some (.ref f0)) ∧ H f0 = some (NdefX.FnO f0 (nd.nf (cloFrom X.env.cells (C8.fnScope nd.st).names []) c')) ∧ H c' = some (LamX.CodeO c' nd.qual) ∧ f0 ∉ m ∧
            (∀ c q, H c = some (LamX.CodeO c q) → c ≠ f0 ∧ c ∉ m) ∧ γ[ia]? = some (some y) ∧ js.map (fun j => γ[j]?) = ws.map (fun w => some (some w)) ∧ Fin (kx tb X) H m (junkAll S2) d Q) := by
          refine .mk fun pins s σ H Q I h => ?_
          obtain ⟨m, γ, f0, c', hS, hγ, hf0, f1, c1, fm, out, hy, hws, q⟩ := h
          obtain ⟨va, hva1, rya⟩ := hγ.at_ ia _ hy
          have hA : PA X [.Name xa pa, .Name nd.name pq] _ := pa_cons (pe_var (pos := pa) hia hva d2 d3) (pa_cons (pe_var (pos := pq) hi hvi d4 d5) pa_nil a1) a0
          refine wpAny_Call_Name_kw (ld_glob I hg hmf ?_ d1)
          refine PySem.W.callWith_K (h₀ := X.base) I.ok.mod.kin hk (thn (hA.run pc pins s σ H (fun vs H1 => vs = [va, .ref f0] ∧ H1 = H) I ⟨va, hva1, .ref f0, hf0, rfl, rfl⟩) fun us s1 hq => ?_) a0 hpl
          obtain ⟨vs, H1, I1, r, rfl, rfl⟩ := hq
          refine ⟨I1.kIn, ?_⟩
          have cp := NdefX.Caps.made (X := X) (js := js) I1.ok hfree hfr hjs
          have ca := NdefX.cells_of I1 cp
          obtain ⟨vs, ev, rws⟩ := slots_of hγ hws
          rw [ev] at ca
          let cs : List Addr := (cloFrom X.env.cells (C8.fnScope nd.st).names []).map (·.2)
          have hcs : ∀ c ∈ cs, ∃ y, X.env.cells.lookup y = some c := fun c hc => by
            obtain ⟨⟨y, c2⟩, h5, h6⟩ := List.mem_map.mp hc
            cases h6
            rcases cloFrom_mem h5 with z | ⟨z1, z2⟩
            · cases z
            · obtain ⟨c3, hc3⟩ := (hfree _ z1 rfl).elim (fun z => I1.ok.has _ (.inl z)) fun z => I1.ok.has _ (.inr z)
              have hc3 : X.env.cells.lookup y = some c3 := hc3
              refine ⟨y, ?_⟩
              rw [hc3]
              have : c2 = c3 := by rw [z2, hc3] <;> rfl
              show some c3 = some c2
              rw [this]
          have kk := gnd_keep (cs := cs) I1
          have inC : ∀ {y : Str} {c : Addr} {v : Option Value}, (cloFrom X.env.cells (C8.fnScope nd.st).names []).lookup y = some c → s1.heap.IsCell c v → (gnd X.base s1.heap cs).IsCell c v := fun {y c v} e ⟨o, ho, hd⟩ => ⟨o, gnd_get ho (.inr (List.mem_map.mpr ⟨_, PySem.mem_of_lookup e, rfl⟩)), hd⟩
          have ci : CellsIn (gnd X.base s1.heap cs) (cloFrom X.env.cells (C8.fnScope nd.st).names []) nd.fr vs := by
            refine ⟨ca.inj, fun y c e => ?_, by simpa using ca.len, fun j y e => ?_⟩
            · obtain ⟨v, z⟩ := (ca.all y c e).2
              exact ⟨v, inC e z⟩
            · obtain ⟨c, hc, hv⟩ := ca.has j y e
              refine ⟨c, hc, fun v ev2 => ?_⟩
              obtain ⟨u, ru, z⟩ := hv v (by rw [List.getElem?_map, ev2]; rfl)
              exact ⟨u, ru, inC hc z⟩
          have x0 : Ext (kx tb X) H1 m H1 (m ++ [f0]) := ⟨⟨⟨[f0], rfl⟩, fun _ _ z => z, fun _ _ z => z⟩, fun _ _ _ z => z⟩
          have hS2 : SR ⟨X.K, X.prog, X.w, gnd X.base s1.heap cs, tb⟩ H1 (m ++ [f0]) (S ++ [.fn id nd ws]) := by
            have hU : SR ⟨X.K, X.prog, X.w, gnd X.base s1.heap cs, tb⟩ H1 m S := SR.up kk hS
            have kc : ∀ (c : Addr) (x : HO), c ∉ m → c ≠ f0 → H1 c = some x → H1 c = some x ∧ c ∉ m ++ [f0] := fun c x z z2 q => ⟨q, fun y => by
              rcases List.mem_append.mp y with y | y
              · exact z y
              · exact z2 (by simpa using y)⟩
            refine ⟨fun p hp => ?_, by simp [hU.len], ?_, fun n a o e1 e2 => ?_⟩
            · obtain ⟨ps, h1, h2, h3⟩ := hU.tb p hp
              refine ⟨ps, h1, h2, fun pos cv e => ?_⟩
              obtain ⟨c, e1, e2, e3⟩ := h3 pos cv e
              exact ⟨c, e1, (kc _ _ e3 (out _ _ e2).1 e2).1, (kc _ _ e3 (out _ _ e2).1 e2).2⟩
            · rw [List.nodup_append]
              refine ⟨hU.nd, by simp, fun a ha b hb z => ?_⟩
              have : b = f0 := by simpa using hb
              subst this; subst z
              exact fm ha
            · by_cases hn : n < m.length
              · rw [List.getElem?_append_left hn] at e1
                rw [List.getElem?_append_left (by rw [← hU.len]; exact hn)] at e2
                have r := hU.at_ n a o e1 e2
                have x1 : Ext (⟨X.K, X.prog, X.w, gnd X.base s1.heap cs, tb⟩ : Kx) H1 m H1 (m ++ [f0]) := x0.gr
                cases o with
                | lst xs => obtain ⟨vs, q, r⟩ := r; exact ⟨vs, q, r.mono x1⟩
                | dk kvs => obtain ⟨vs, q, r⟩ := r; exact ⟨vs, q, r.mono x1⟩
                | dn lk kvs =>
                  cases lk with
                  | false => obtain ⟨xs, q, r⟩ := r; exact ⟨xs, q, r.mono x1⟩
                  | true => obtain ⟨od, xs, q, r⟩ := r; exact ⟨od, xs, q, r.mono x1⟩
                | ins C fs => obtain ⟨dx, ws, q, r⟩ := r; exact ⟨dx, ws, q, r.mono x1⟩
                | dkl kvs => obtain ⟨od, ws, q, r⟩ := r; exact ⟨od, ws, q, r.mono x1⟩
                | fn i nd ws =>
                  obtain ⟨cl, c, vs, q, r, z, y, w⟩ := r
                  exact ⟨cl, c, vs, q, r, (kc _ _ z (out _ _ r).1 r).2, y, w.mono x1⟩
                | junk => exact r
              · have hn' : m.length ≤ n := Nat.le_of_not_lt hn
                rw [List.getElem?_append_right hn'] at e1
                rw [List.getElem?_append_right (by rw [← hU.len]; exact hn')] at e2
                rw [hU.len] at e1
                cases q : n - S.length with
                | zero =>
                  rw [q] at e1 e2
                  simp at e1 e2
                  subst e1; subst e2
                  have z := out _ _ c1
                  exact ⟨_, c', vs, f1, c1, (kc _ _ z.2 z.1 c1).2, ci, (rws.mono x0).gr⟩
                | succ k =>
                  rw [q] at e1
                  simp at e1
          have F2 := F (gnd X.base s1.heap cs) kk
          have hl : (us ++ []).length = ps.length := by
            rw [List.append_nil, ← r.length]
            refine F2.len [va, .ref f0] H1 Q E0 ⟨m ++ [f0], _, [y, .ref S.length], d, S2, rfl, hS2, ?_, h3, fun w H' m' x hS' hw => ?_⟩
            · exact Rps.cons (rya.mono x0).gr (Rps.one (by rw [Rp]; exact ⟨f0, by rw [← hS.len]; simp, rfl⟩))
            · exact q w H' m' (x0.trans x.gr) (SR.jk hS') hw.gr
          refine wpAny_call (codeAny_mono (F2.run X.A X.stack s1 H1 ⟨us, []⟩ (us ++ []) ([va, .ref f0] ++ []) Q E0 hr (env0_gnd I1 hfn hcs) (hb s1 us I1.kIn hl) (r.append .nil) ⟨m ++ [f0], _, [y, .ref S.length], d, S2, rfl, hS2, ?_, h3, fun w H' m' x hS' hw => ?_⟩) fun r s' hq => ?_)
          · rw [List.append_nil]
            exact Rps.cons (rya.mono x0).gr (Rps.one (by rw [Rp]; exact ⟨f0, by rw [← hS.len]; simp, rfl⟩))
          · exact q w H' m' (x0.trans x.gr) (SR.jk hS') hw.gr
          · cases r with
            | error err => exact False.elim hq
            | ok fl =>
              cases fl with
              | ret u => exact I1.after hq
              | next => exact False.elim hq
              | brk => exact False.elim hq
              | cont => exact False.elim hq
        refine (pss_cons hD (pss_one (ps_ret (pos := pr) hP))).run pins s σ H Dn I ?_
        refine ⟨m, S, γ, hS, hγ, fun f0 c' H1 x1 hS1 f1 c1 fm out => ?_⟩
        have hil : i < σ.length := by
          rw [I.len]
          exact (List.getElem?_eq_some_iff.mp hi).1
        refine ⟨m, γ.set i none, f0, c', hS1, ?_, List.getElem?_set_self hil, f1, c1, fm, out, ?_, ?_, fun w H' m' x2 => q w H' m' (x1.trans x2)⟩
        · have z := hγ.mono x1
          refine ⟨by simp [z.len], fun j dd e => ?_⟩
          by_cases hj : j = i
          · subst hj
            rw [List.getElem?_set] at e
            simp at e
          · rw [List.getElem?_set_ne (Ne.symm hj)] at e
            rw [List.getElem?_set_ne (Ne.symm hj)]
            exact z.at_ j dd e
        · rw [List.getElem?_set_ne (Ne.symm hne)]; exact h1
        · rw [← h2']
          refine List.map_congr_left fun j hj => ?_
          exact List.getElem?_set_ne fun z => hji (by rw [z]; exact hj)
      · cases e1
    · cases e1
  · cases e1
end
end Ml
set_option maxHeartbeats 1000000 -- wide
/-! Ml22: a def that makes defs -/
namespace Ml
open L2 PyProof.Rows PySem PySem.Spec
/-- a def of the text whose code object stands at c -/
structure FunC (K : PySem.W.Frag) (x qual : Str) (st : Stmt) (f : Addr) (fd : FuncData) (c : Addr) : Prop where
  ex : ∃ (oc : Value) (od : Option Addr) (kV doc pm : Value) (an : Option Addr) (ct : Value) (osl : Array (Option Value)),
    fd = PySem.W.fnOf x qual (defArgs st) (defBody st) (defScope st) .none kV doc pm an (.ref c) ct ∧ K.lookup f = some ⟨oc, od, .func fd, osl⟩ ∧ PySem.W.codeIn K (.ref c) qual = true
section
variable {P : Program} {w : World} {K : PySem.W.Frag} {tb : List NdefX.NTab} {mg : Str → Option Value} {base : Heap}
theorem ok_defC {x qual : Str} {st : Stmt} {f c : Addr} {fd : FuncData} {N ps : List Str} {k : Nat} {s : SvM} (F : FunC K x qual st f fd c) (S : FnScope N ps (defScope st)) (hn : ps.length ≤ N.length)
    (hb : ∀ (A : Around) (outer : List Env) (s0 : Shared) (H : Hp) (E : XK), Room k (cxOf CX0 P w K mg base N qual (defScope st) f (.ref c) A outer s0 H E).A → MSs tb (cxOf CX0 P w K mg base N qual (defScope st) f (.ref c) A outer s0 H E).nox (defBody st) s) :
    FnOk P w K mg base CX0 (k + 1) f fd ps (spM ⟨K, P, w, base, tb⟩ ps.length (bodyM N.length s)) := by
  obtain ⟨oc, od, kV, doc, pm, an, ct, osl, rfl, lk, hcd⟩ := F.ex
  refine fn_of lk hcd S (fun vs H Q E h => ?_) fun A outer s0 H vs Q E hr h => ?_
  · obtain ⟨m, S, xs, d, S', h1, _, h2, _⟩ := h
    rw [h2.length, h1]
  · obtain ⟨m, S, xs, d, S', h1, hS, h2, h3, q⟩ := h
    refine ⟨_, (hb A outer s0 H E hr).nox, ?_⟩
    unfold bodyM at h3
    split at h3
    · rename_i d' γ' S1 h4
      cases h3
      exact ⟨m, S, _, .rt d, γ', _, hS, slr_start h2 (by rw [h1]; exact hn), h4, q⟩
    · rename_i γ' S1 h4
      cases h3
      exact ⟨m, S, _, .nx, γ', _, hS, slr_start h2 (by rw [h1]; exact hn), h4, fun σ' H' m' x hS' _ => q _ H' m' x hS' (by rw [Rp])⟩
    · cases h3
end
theorem tabB_keeps {base base' : Heap} {mg : Str → Option Value} {c P : Addr} (k : ∀ b o, base.get? b = some o → base'.get? b = some o) (h : LamX.TabB base mg c P) : LamX.TabB base' mg c P := ⟨h.code.keeps k, h.bm.keeps k, h.gP⟩
/-- the first store -/
theorem sr_nil {K : Kx} {H : Hp} (h : ∀ p ∈ K.t, H p.1 = some (.tbl #[])) : SR K H [] [] := ⟨fun p hp => ⟨#[], h p hp, True.intro, fun pos cv e => by
  have z : codeAmong pos [] = some cv := e
  simp [codeAmong] at z⟩, rfl, List.nodup_nil, fun n a o e => by simp at e⟩
end Ml
set_option maxHeartbeats 1000000 -- wide
/-! Ml23: the end of a law's text that makes defs within defs -/
namespace Ml
open L2 PyProof.Rows PySem PySem.Spec
theorem rps_intsD {K : Kx} {H : Hp} {m : List Addr} : ∀ ns : List Int, Rps K H m (ns.map D.int) (ns.map V.int)
  | [] => Rps.nil
  | n :: ns => Rps.cons (by rw [Rp]) (rps_intsD ns)
/-- what the law is asked -/
def spLaw (K : PySem.W.Frag) (tb : List NdefX.NTab) : Sp := fun vs H Q _ => ∃ (a : Addr) (ns : List Int), vs = [.ref a] ∧ ns.length ≤ 63 ∧ (∀ p ∈ tb, H p.1 = some (.tbl #[])) ∧ SqL K H a (ns.map V.int) ∧ ∀ H', Q (.bl true) H'
section
variable {P : Program} {w : World} {K : PySem.W.Frag} {mg : Str → Option Value} {base : Heap} {tb : List NdefX.NTab}
/-- a list that nobody writes may be locked -/
theorem hok_frz {H : Hp} {h : Heap} {a : Addr} {xs : List V} {o : Obj} (hok : HOk P w H h) (e : H a = some (.lst xs)) (ho : h.get? a = some o) : HOk P w (upd H a (.frz o (.lst xs))) h := by
  have ot : ∀ b u, b ≠ a → H b = some u → upd H a (.frz o (.lst xs)) b = some u := fun b u n z => by rw [upd_ne n]; exact z
  have ho2 : ∀ c b, H b = some (.own c) → upd H a (.frz o (.lst xs)) b = some (.own c) := fun c b z => ot _ _ (fun y => by subst y; rw [e] at z; cases z) z
  have ht : ∀ b ys, H b = some (.tup ys) → upd H a (.frz o (.lst xs)) b = some (.tup ys) := fun b ys z => ot _ _ (fun y => by subst y; rw [e] at z; cases z) z
  intro b u z
  by_cases hb : b = a
  · subst hb
    rw [upd_same] at z
    cases z
    exact ⟨ho, (hok b _ e).stay (fun _ _ _ q => q) (ho2 _) ht⟩
  · rw [upd_ne hb] at z
    exact (hok b u z).stay (fun _ _ _ q => q) (ho2 _) ht
theorem fn_law {k : Nat} {f : Addr} {fd : FuncData} {x : Str} {G : List D → Sto → Option (D × Sto)} (F : FnOk P w K mg base CX0 k f fd [x] (spM ⟨K, P, w, base, tb⟩ 1 G)) (good : ∀ ns : List Int, ns.length ≤ 63 → ∃ S, G [.rl (ns.map D.int)] [] = some (.bl true, S)) :
    FnOk P w K mg base CX0 k f fd [x] (spLaw K tb) := by
  refine ⟨fun vs H Q E h => ?_, fun A outer s H args us vs Q E hr e0 hb r h => ?_⟩
  · obtain ⟨a, ns, rfl, _⟩ := h; rfl
  · obtain ⟨a, ns, rfl, hl, hT, hS, q⟩ := h
    obtain ⟨S, e⟩ := good ns hl
    have go : ∀ H' : Hp, (∀ p ∈ tb, H' p.1 = some (.tbl #[])) → RoL K H' a (ns.map V.int) → spM ⟨K, P, w, base, tb⟩ 1 G [.ref a] H' Q E := fun H' hT' hr' => by
      refine ⟨[], [], _, _, S, rfl, sr_nil hT', Rps.one (by rw [Rp]; exact ⟨a, _, rfl, hr', rps_intsD ns⟩), e, fun v H'' m' _ _ hv => ?_⟩
      rw [Rp] at hv
      subst hv
      exact q H''
    rcases hS with (h1 | ⟨o, h1⟩) | h1
    · obtain ⟨ob, ho⟩ : ∃ ob : Obj, s.heap.get? a = some ob := by
        obtain ⟨_, its, n, _, ho⟩ := e0.hok a _ h1
        exact ⟨_, ho⟩
      have nb : ∀ b, H b = none → b ≠ a := fun b z y => by subst y; rw [h1] at z; cases z
      have hT2 : ∀ p ∈ tb, upd H a (.frz ob (.lst (ns.map V.int))) p.1 = some (.tbl #[]) := fun p hp => by
        rw [upd_ne fun y => by have := hT p hp; rw [y, h1] at this; cases this]
        exact hT p hp
      have e1 : Env0 P w K mg base A outer s (upd H a (.frz ob (.lst (ns.map V.int)))) := ⟨e0.frames, e0.mod, fun b o z => ⟨(e0.bs b o z).1, by rw [upd_ne (nb b (e0.bs b o z).2)]; exact (e0.bs b o z).2⟩, e0.bsz, e0.funs,
        fun b z => by rw [upd_ne (nb b (e0.frf b z))]; exact e0.frf b z, hok_frz e0.hok h1 ho, e0.bare⟩
      refine codeAny_mono (F.run A outer s _ args us [.ref a] Q E hr e1 hb r (go _ hT2 (.inl ⟨_, upd_same⟩))) fun res s' hres => ?_
      cases res with
      | error e => exact hres
      | ok fl =>
        cases fl with
        | ret u =>
          obtain ⟨v, H', os, bare, un, hok, rv, qq⟩ := hres
          have ot : ∀ b (u : HO), H b = some u → u ≠ .lst (ns.map V.int) → upd H a (.frz ob (.lst (ns.map V.int))) b = some u := fun b u z n => by
            rw [upd_ne fun y => by subst y; rw [h1] at z; cases z; exact n rfl]; exact z
          have no : ∀ b, H b = none → upd H a (.frz ob (.lst (ns.map V.int))) b = none := fun b z => by rw [upd_ne (nb b z)]; exact z
          exact ⟨v, H', os, bare, ⟨fun b o z n => un.keep b o z (no b n), fun b o z n => un.slot b o z (no b n), fun b o z n => un.free b o z (no b n), un.there,
            fun b ys z => un.tups b ys (ot _ _ z fun y => by cases y), fun b o u z => un.frzs b o u (ot _ _ z fun y => by cases y), fun b ps z => un.tbls b ps (ot _ _ z fun y => by cases y)⟩, hok, rv, qq⟩
        | next => exact hres
        | brk => exact hres
        | cont => exact hres
    · exact F.run A outer s H args us [.ref a] Q E hr e0 hb r (go H hT (.inl ⟨o, h1⟩))
    · exact F.run A outer s H args us [.ref a] Q E hr e0 hb r (go H hT (.inr fun _ => .inr h1))
end
end Ml
set_option maxHeartbeats 2000000 -- wide
/-! Ml24: any(x[k] == y for x in e), e a tuple of tuples, y a captured int -/
namespace Ml
open L2 PyProof.Rows PySem PySem.Spec
/-- the item k of each, an int: is it j -/
def fe (k : Nat) (j : Int) : List D → Option (List Bool)
  | [] => some []
  | .tup ys :: r => match ys[k]?, fe k j r with
    | some (.int i), some bs => some ((i == j) :: bs)
    | _, _ => none
  | _ :: _ => none
def anyFE (k iy : Nat) (e : EvM) : EvM := fun γ S => match e γ S with
  | some (.tup xs, S') => match γ[iy]? with
    | some (some (.int j)) => match fe k j xs with
      | some bs => some (.bl (bs.any id), S')
      | none => none
    | _ => none
  | _ => none
/-- an item's test, of the heap h -/
def FeV (h : Heap) (k : Nat) (j : Int) (v : Value) (b : Bool) : Prop := ∃ (a : Addr) (its : Array Value) (i : Int) (t : Tok), v = .ref a ∧ IsTup h a its ∧ its.size ≤ sizeLine ∧ its[k]? = some (.int i t) ∧ b = (i == j)
theorem fe_vals {tb : List NdefX.NTab} {X : Cx} {pins : List (Addr × Obj)} {σ : L2.St} {H : Hp} {s : Shared} (I : Inv X pins σ H s) {m : List Addr} {k : Nat} {j : Int} : ∀ {xs : List D} {vs : List V} {us : List Value} {bs : List Bool}, Rps (kx tb X) H m xs vs → Vals vs us → fe k j xs = some bs →
    bs.length = us.length ∧ ∀ (i : Nat) (v : Value), us[i]? = some v → ∃ b, bs[i]? = some b ∧ FeV s.heap k j v b
  | [], vs, us, bs, h, r, e => by
    rw [Rps] at h
    subst h
    cases r
    cases e
    exact ⟨rfl, fun i v e => by simp at e⟩
  | x :: xs, vs, us, bs, h, r, e => by
    rw [Rps] at h
    obtain ⟨w, r0, rfl, h1, h2⟩ := h
    cases r with
    | cons rw rr =>
      cases x <;> simp only [fe, reduceCtorEq] at e
      rename_i ys
      split at e
      · rename_i i0 bs0 e1 e2
        cases e
        obtain ⟨l, f⟩ := fe_vals I h2 rr e2
        refine ⟨by simp [l], fun i v ev => ?_⟩
        cases i with
        | zero =>
          simp at ev
          subst ev
          rw [Rp] at h1
          obtain ⟨a, ws, rfl, ha, hw⟩ := h1
          cases rw
          obtain ⟨its, rv, pl, hz⟩ := I.tuple ha
          obtain ⟨v2, g1, g2⟩ := hw.get e1
          rw [Rp] at g2
          subst g2
          obtain ⟨u2, g3, g4⟩ := rv.get g1
          obtain ⟨t, rfl⟩ := g4
          refine ⟨_, rfl, a, its.toArray, i0, t, rfl, pl, ?_, by simpa using g3, rfl⟩
          rw [List.size_toArray, ← rv.length]
          exact hz
        | succ i =>
          obtain ⟨b, g1, g2⟩ := f i v (by simpa using ev)
          exact ⟨b, by simpa using g1, g2⟩
      · cases e
/-- what the test says at place i -/
def trB (bs : List Bool) (i : Nat) : Bool := bs.getD i false
theorem any_trB : ∀ (bs : List Bool), (List.range bs.length).any (trB bs) = bs.any id := fun bs => by
  rw [Bool.eq_iff_iff, List.any_eq_true, List.any_eq_true]; constructor
  · rintro ⟨i, hi, h⟩
    have hi' := List.mem_range.mp hi; unfold trB at h
    rw [List.getD_eq_getElem?_getD, List.getElem?_eq_getElem hi'] at h
    exact ⟨bs[i], List.getElem_mem hi', h⟩
  · rintro ⟨b, hb, h⟩
    obtain ⟨i, hi, e⟩ := List.getElem_of_mem hb; refine ⟨i, List.mem_range.mpr hi, ?_⟩
    unfold trB
    rw [List.getD_eq_getElem?_getD, List.getElem?_eq_getElem hi, e]
    exact h
section
variable {prog : Program}
variable {w : World}
/-- the element at a frame of the generator -/
theorem elt_fe {scope : Scope} {x y : Str} {k : Nat} {jj : Nat} {p1 p2 p3 p4 p5 : Pos} {cenv : Env} {A' : Around} {E' : Value → Shared → Prop} {v : Value} {b : Bool} {j : Int} {t0 : Tok} {c : Addr} {s₂ : Shared} {m₂ : Str → Option Value}
    (hs : cenv.scope = scope) (hk : scope.kind = .function) (hl : scope.names.lookup x = some .local) (hf : scope.names.lookup y = some .free) (hc : cenv.cells.lookup y = some c) (hcell : s₂.heap.IsCell c (some (.int j t0))) (hv : FeV s₂.heap k j v b) (hkn : k < 1000) (hn : s₂.heap.Ns cenv.locals m₂) (hm : m₂ x = some v)
    (hd : (x == ("__debug__" : Str)) = false := by decide) (hd2 : (y == ("__debug__" : Str)) = false := by decide) (hd3 : (y == ("__classdict__" : Str)) = false := by decide) :
    wpAny (model prog w) A' (eval (.Compare (.Subscript (.Name x p1) (.Constant (.int (k : Int)) jj p2) p3) [.Eq] [.Name y p4] p5) cenv) (fun r s₃ => r = .bool b ∧ Keeps s₂ s₃) E' s₂ := by
  obtain ⟨a, its, i, t, rfl, ht, hz, hi, rfl⟩ := hv
  refine wpAny_Compare1 ?_
  refine wpAny_Subscript_Constant_late ?_
  refine wpAny_Name (wpAny_loadName_local (by rw [hs]; exact hk) (show cenv.scope.names.lookup x = some .local by rw [hs]; exact hl) hn hm ?_) hd; refine wpAny_Constant_int ?_
  have hlt : k < its.size := (Array.getElem?_eq_some_iff.mp hi).1
  have hline := line63
  refine ⟨"tuple", _, slot_tuple_getitem.lookup, ht.typeIs, getItem_tuple (j := k) ht (by omega) (by omega) (seqIndex_of (Int.natCast_nonneg _) (by omega)) hi ?_⟩
  refine wpAny_Name (wpAny_loadName_free (by rw [hs]; exact hk) (show cenv.scope.names.lookup y = some .free by rw [hs]; exact hf) hc hcell ?_ hd3) hd2
  refine PySem.P.eq_int ⟨rfl, ⟨s₂.heap, _, rfl, fun _ _ e => e⟩⟩
end
/-- the looks at the scope of the generator -/
structure GSc (sc scope : Scope) (x y : Str) : Prop where
  (kind : scope.kind = .function) (co : scope.isCoroutine = false) (cell : ∀ z ∈ scope.names, z.2 ≠ .cell) (dot : scope.names.lookup (".0" : Str) = some NameKind.local) (loc : scope.names.lookup x = some .local) (fr : scope.names.lookup y = some .free) (up : sc.names.lookup y = some .cell) (free : ∀ z ∈ scope.names, z.2 = .free → sc.names.lookup z.1 = some .cell ∨ sc.names.lookup z.1 = some .free)
def gscB (sc scope : Scope) (x y : Str) : Bool := decide (scope.kind = .function) && !scope.isCoroutine && scope.names.all (fun z => !decide (z.2 = .cell)) && decide (scope.names.lookup (".0" : Str) = some NameKind.local) && decide (scope.names.lookup x = some .local) && decide (scope.names.lookup y = some .free) && decide (sc.names.lookup y = some .cell) &&
  scope.names.all (fun z => !decide (z.2 = .free) || decide (sc.names.lookup z.1 = some .cell) || decide (sc.names.lookup z.1 = some .free))
theorem gsc_by {sc scope : Scope} {x y : Str} (h : gscB sc scope x y = true) : GSc sc scope x y := by
  unfold gscB at h
  simp only [Bool.and_eq_true, Bool.not_eq_true', decide_eq_true_eq, List.all_eq_true, Bool.or_eq_true, decide_eq_false_iff_not] at h; obtain ⟨⟨⟨⟨⟨⟨⟨h1, h2⟩, h3⟩, h4⟩, h5⟩, h6⟩, h7⟩, h8⟩ := h
  exact ⟨h1, h2, h3, h4, h5, h6, h7, fun z hz e => by
    rcases h8 z hz with (q | q) | q
    · exact (q e).elim
    · exact .inl q
    · exact .inr q⟩
/-- what a growing table leaves -/
theorem sr_tab {K : Kx} {H H1 : Hp} {m : List Addr} {S : Sto} (hS : SR K H m S) (keep : ∀ (a : Addr) (u : HO), H a = some u → (∀ ps, u ≠ .tbl ps) → H1 a = some u) :
    Ext K H m H1 m ∧ ∀ (n : Nat) (a : Addr) (o : O), m[n]? = some a → S[n]? = some o → OR K H1 m a o := by
  have x : Ext K H m H1 m := ⟨⟨⟨[], by simp⟩, fun a vs z => by
    rcases z with (z | ⟨o, z⟩) | z
    · exact .inl (.inl (keep _ _ z fun ps y => by cases y))
    · exact .inl (.inr ⟨o, keep _ _ z fun ps y => by cases y⟩)
    · exact .inr z, fun a vs z => by
    rcases z with ⟨o, z⟩ | z
    · exact .inl ⟨o, keep _ _ z fun ps y => by cases y⟩
    · exact .inr z⟩, fun a od u z => keep _ _ z fun ps y => by cases y⟩
  refine ⟨x, fun n a o e1 e2 => ?_⟩
  have r := hS.at_ n a o e1 e2
  obtain ⟨u, hu1, hu2⟩ := r.there
  have k : ∀ w, H a = some w → H1 a = some w := fun w z => by rw [hu1] at z; cases z; exact keep _ _ hu1 fun ps y => by subst y; exact hu2
  cases o with
  | lst xs => obtain ⟨vs, q, r⟩ := r; exact ⟨vs, k _ q, r.mono x⟩
  | dk kvs => obtain ⟨vs, q, r⟩ := r; exact ⟨vs, k _ q, r.mono x⟩
  | dn lk kvs =>
    cases lk with
    | false => obtain ⟨xs, q, r⟩ := r; exact ⟨xs, k _ q, r.mono x⟩
    | true => obtain ⟨od, xs, q, r⟩ := r; exact ⟨od, xs, k _ q, r.mono x⟩
  | ins C fs => obtain ⟨dx, ws, q, r⟩ := r; exact ⟨dx, ws, k _ q, r.mono x⟩
  | dkl kvs => obtain ⟨od, ws, q, r⟩ := r; exact ⟨od, ws, k _ q, r.mono x⟩
  | fn i nd ws => obtain ⟨cl, c, vs, q, r, z, y, w⟩ := r; exact ⟨cl, c, vs, k _ q, keep _ _ r LamX.codeO_ne, z, y, w.mono x⟩
  | junk => obtain ⟨F, q⟩ := r; exact ⟨F, k _ q⟩
section
variable {tb : List NdefX.NTab} {X : Cx} {x y : Str} {k iy jj n : Nat} {p p1 p2 p3 p4 p5 px pos gpos : Pos} {iter : Expr} {ea : EvM} {scope : Scope} {c P : Addr} {nm : Nat → Nat → Str}
theorem me_anyFE (hr : Room n X.A) (hg : Gl X "any") (hm : X.mg "any" = none) (TB : LamX.TabB X.base X.mg c P) (hcode : X.env.code = .ref c) (hmT : (P, nm) ∈ tb) (hnm : nm gpos.line gpos.col = X.env.qual ++ "<genexpr>") (hu : ∀ p ∈ tb, p.1 = P → p.2 = nm)
    (G : GSc X.env.scope scope x y) (hN : X.N[iy]? = some y) (hkn : k < 1000) (hi : ME tb X iter ea) (hs : ∀ v, genFold iter X.env v = pure v)
    (hd : (x == ("__debug__" : Str)) = false := by decide) (hd2 : (y == ("__debug__" : Str)) = false := by decide) (hd3 : (y == ("__classdict__" : Str)) = false := by decide)
    (he : starEach [.GeneratorExp (.Compare (.Subscript (.Name x p1) (.Constant (.int (k : Int)) jj p2) p3) [.Eq] [.Name y p4] p5) [⟨.Name x px, iter, [], 0⟩] scope gpos] X.env = (false, eval (.GeneratorExp (.Compare (.Subscript (.Name x p1) (.Constant (.int (k : Int)) jj p2) p3) [.Eq] [.Name y p4] p5) [⟨.Name x px, iter, [], 0⟩] scope gpos) X.env) :: starEach [] X.env := by rfl) :
    ME tb X (.Call (.Name "any" p) [.GeneratorExp (.Compare (.Subscript (.Name x p1) (.Constant (.int (k : Int)) jj p2) p3) [.Eq] [.Name y p4] p5) [⟨.Name x px, iter, [], 0⟩] scope gpos] [] pos) (anyFE k iy ea) := by
  refine .mk fun pins s σ H Q I h => ?_
  obtain ⟨m, S, γ, d, S', hS, hγ, e1, q⟩ := h
  unfold anyFE at e1
  split at e1
  · rename_i xs S1 h1
    split at e1
    · rename_i j h2
      split at e1
      · rename_i bs h3
        cases e1
        obtain ⟨vj, hvj, rj⟩ := hγ.at_ iy _ h2
        rw [Rp] at rj
        subst rj
        refine wpAny_Call_Name_kw (ld_blt I hg hm boot_any ?_); refine PyProof.Rows.callWith_builtin1 ?_ he (by rfl)
        rw [he]
        show wpAny _ _ (spliced ((false, eval (.GeneratorExp (.Compare (.Subscript (.Name x p1) (.Constant (.int (k : Int)) jj p2) p3) [.Eq] [.Name y p4] p5) [⟨.Name x px, iter, [], 0⟩] scope gpos) X.env) :: backTo pos (starEach [] X.env))) _ _ s
        have hfree : ∀ z ∈ scope.names, z.2 = .free → ∃ c, X.env.cells.lookup z.1 = some c := fun z hz e => (G.free z hz e).elim (fun w => I.ok.has _ (.inl w)) fun w => I.ok.has _ (.inr w)
        refine Calls.spliced_cons ?_
        refine wpAny_GeneratorExp_walksQ hr.hd G.co (closure_ok hfree) G.cell G.dot G.loc G.kind (by have := hr.dp; omega) ?_ hs
        refine thn (hi.run pins s σ H (fun v H1 => ∃ m1, Ext (kx tb X) H m H1 m1 ∧ SR (kx tb X) H1 m1 S' ∧ Rp (kx tb X) H1 m1 (.tup xs) v) I ⟨m, S, γ, _, _, hS, hγ, h1, fun w H1 m1 x1 hS1 hw => ⟨m1, x1, hS1, hw⟩⟩) fun xv s1 ⟨v, H1, I1, r1, m1, x1, hS1, hv⟩ => ?_
        rw [Rp] at hv
        obtain ⟨a, vs, rfl, ha, hvs⟩ := hv
        cases r1
        obtain ⟨its, rv, pl, hz⟩ := I1.tuple ha
        obtain ⟨hbl, hfe⟩ := fe_vals I1 hvs rv h3
        -- the cell of y
        obtain ⟨cc, hcc⟩ := I1.ok.has y (.inl G.up)
        obtain ⟨t0, hcell⟩ : ∃ t0, s1.heap.IsCell cc (some (.int j t0)) := by
          obtain ⟨mm, hn, hl⟩ := I1.loc
          obtain ⟨u, r, l⟩ := hl iy y (.int j) hN hvj (.inr (.inl G.up))
          obtain ⟨t, rfl⟩ := r
          rcases l with ⟨z, _⟩ | ⟨_, a', ha', hc'⟩
          · have z' : X.env.scope.names.lookup y = some .local := z; rw [G.up] at z'
            cases z'
          · rw [hcc] at ha'
            cases ha'
            exact ⟨t, hc'⟩
        refine wpAny_pyIter_tuple pl ?_
        obtain ⟨ps, hP, htr, hco⟩ := hS1.tb (P, nm) hmT
        have hPs : s1.heap.get? P = some { cls := .none, data := .fields ps } := I1.hok P _ hP; have hPlt : P < s1.heap.objs.size := Heap.lt_size hPs
        -- behind all: the table has grown by more, the store stands
        have back : ∀ (H2 : Hp) (s' : Shared), Inv X pins σ H2 s' → (∀ (a : Addr) (u : HO), H1 a = some u → (∀ ps, u ≠ .tbl ps) → H2 a = some u) → TbOk tb H2 m1 → Q (.bl (bs.any id)) H2 := fun H2 s' J keep ht => by
          obtain ⟨x2, st⟩ := sr_tab hS1 keep
          exact q _ H2 m1 (x1.trans x2) ⟨ht, hS1.len, hS1.nd, st⟩ (by rw [Rp])
        generalize ho : ({ cls := .type "tuple_iterator", data := .fields #[.ref a, .int 0 0] } : Obj) = o
        have hP2 : (s1.heap.push o).get? P = some { cls := .none, data := .fields ps } := Heap.get?_push_of_some _ hPs; have cd : PySem.W.CodeHd (s1.heap.push o) c P := TB.code.keeps fun b u e => Heap.get?_push_of_some _ (I1.bk b u e)
        have lim2 : (s1.heap.push o).NoLimit := I1.nolimit.push o; have sz2 : (s1.heap.push o).objs.size = s1.heap.objs.size + 1 := Heap.size_push ..
        have hit : (s1.heap.push o).IsTupleIter s1.heap.objs.size a 0 := ⟨o, Heap.get?_push_size _ (by rw [← ho]; rfl), by rw [← ho], by rw [← ho]; rfl⟩
        have alt : a < s1.heap.objs.size := pl.lt
        -- what follows the code object: H2 is known at the end
        have cont : ∀ (code : Value) (h3 : Heap) (tk : Nat) (ps' : Array Value), Heap.ExtBut P (s1.heap.push o) h3 → (s1.heap.push o).objs.size ≤ h3.objs.size → h3.get? P = some { cls := .none, data := .fields ps' } →
            (∀ s' : Shared, (∀ b u, b ≠ s1.heap.objs.size → b < h3.objs.size → h3.get? b = some u → s'.heap.get? b = some u) → AllBare s'.gens → s'.os = s1.os → ∃ H2, Inv X pins σ H2 s' ∧ (∀ (a : Addr) (u : HO), H1 a = some u → (∀ ps, u ≠ .tbl ps) → H2 a = some u) ∧ TbOk tb H2 m1) →
            wpAny (model X.prog X.w) X.A (builtinsFor X.env.globals X.env.builtins) (fun bi s₄ => ∃ Ia fp wr n₀ Pf St₀ pz F, Value.ref s1.heap.objs.size = .ref Ia ∧ (∀ A' : Around, A'.handled = none → PySem.Walks X.prog X.w A' Ia fp wr n₀ Pf St₀) ∧ St₀ 0 s₄.heap ∧ (∀ b ∈ fp, b < s₄.heap.objs.size) ∧ s₄.heap.NoLimit ∧ cStatics ∉ wr ∧
              (∀ href : Heap, (∀ b o, s₄.heap.get? b = some o → href.get? b = some o) → QuietGen X.prog X.w (genEnv scope (cloFrom X.env.cells scope.names []) s₄.heap.objs.size code bi X.env) x [] (.Compare (.Subscript (.Name x p1) (.Constant (.int (k : Int)) jj p2) p3) [.Eq] [.Name y p4] p5) (List.range s₄.heap.objs.size) wr Pf pz F href) ∧ (∀ a h₅ tk gs, gs.bare = true → s₄.heap.objs.size < a → h₅.objs.size = a + 1 → (∀ b o, s₄.heap.get? b = some o → h₅.get? b = some o) →
                WalksS X.prog X.w X.A.in4 a (a :: s₄.heap.objs.size :: List.range s₄.heap.objs.size) (s₄.heap.objs.size :: wr) (GenOnlyQ s₄.gens.size) (passing pz n₀ 0).length (fun j y => ∃ i, (passing pz n₀ 0)[j]? = some i ∧ F i y) (GenAt X.prog X.w X.A.in4 a s₄.gens.size s₄.heap.objs.size (List.range s₄.heap.objs.size) wr pz n₀ F) →
                GenAt X.prog X.w X.A.in4 a s₄.gens.size s₄.heap.objs.size (List.range s₄.heap.objs.size) wr pz n₀ F 0 { s₄ with gens := s₄.gens.push gs, toks := tk, heap := h₅ } → wpAny (model X.prog X.w) X.A (spliced (backTo pos (starEach [] X.env))) (fun us s' => wpAny (model X.prog X.w) X.A (call (.builtin "any") (Value.ref a :: us)) (EP X pins σ Q) X.xe s') X.xe { s₄ with gens := s₄.gens.push gs, toks := tk, heap := h₅ })) X.xe { s1 with heap := h3, toks := tk } := by
          intro code h3 tk ps' hx hsz hP3 hend
          obtain ⟨bm, ob, e1, e2, e3, e4, e5, e6, e7, e8⟩ := TB.bm; have hcP : cStatics ≠ P := fun e => by
            obtain ⟨_, hns, _⟩ := I1.nolimit; obtain ⟨o', es, ep, ho, hd, _⟩ := hns
            rw [e, hPs] at ho
            cases ho
            cases hd
          have hcl : cStatics < s1.heap.objs.size := let ⟨_, hns, _⟩ := I1.nolimit; hns.lt; have keep3 : ∀ b u, b ≠ P → s1.heap.get? b = some u → h3.get? b = some u := fun b u hb e => hx b u hb (Heap.get?_push_of_some _ e)
          refine wpAny_builtinsFor (m := X.mg) (by rw [I1.ok.glob]; exact ((I1.mod.glob.keeps I1.bk).push o).extBut hx TB.gP) e1 e2 (keep3 _ _ e4 (I1.bk _ _ e5)) e6 e7 e8 ?_; refine ⟨s1.heap.objs.size, [s1.heap.objs.size, a], [s1.heap.objs.size], its.toArray.size, (fun i v => its.toArray[i]? = some v), _, (fun _ => true), (fun i r => r = .bool (trB bs i)), rfl, fun A' hA => PySem.Walks.tuple hA _ _ (Nat.ne_of_lt alt) _, ?_, ?_, lim2.extBut hx hcP, ?_, ?_, ?_⟩
          · refine ⟨hit.extBut hx (Ne.symm (Nat.ne_of_lt hPlt)), ?_⟩
            obtain ⟨ob, g1, g2⟩ := pl
            refine ⟨ob, keep3 _ _ (fun z => ?_) g1, g2⟩
            subst z
            rw [hPs] at g1
            cases g1
            obtain ⟨g3, _⟩ := g2
            cases g3
          · intro b hb
            show b < h3.objs.size
            have hsz' := hsz
            rw [sz2] at hsz'
            simp at hb
            rcases hb with z | z
            · rw [z]; exact Nat.lt_of_lt_of_le (Nat.lt_succ_self _) hsz'
            · rw [z]; exact Nat.lt_of_lt_of_le (Nat.lt_succ_of_lt alt) hsz'
          · intro z
            simp at z
            exact Nat.ne_of_lt hcl z
          · intro href hhref; refine ⟨fun A' E' i v s₂ m₂ hA hPv hn hm hk => ?_, fun A' E' i v s₂ m₂ hA hPv hp hn hm hk => ?_⟩
            · simp only [List.forIn_nil]
              exact wpAny_pure ⟨rfl, s₂.heap, s₂.toks, rfl, fun _ _ e => e⟩
            · have up : ∀ b u, b ≠ P → s1.heap.get? b = some u → s₂.heap.get? b = some u := fun b u hb e => by
                have e3 := keep3 b u hb e
                exact hk b (List.mem_range.mpr (Heap.lt_size e3)) (fun z => by simp at z; exact Nat.ne_of_lt (Heap.lt_size e) z) u (hhref b u e3)
              obtain ⟨b, hb, a1, its1, i1, t1, rfl, g1, g2, g3, g4⟩ := hfe i v (by simpa using hPv)
              have hFe : FeV s₂.heap k j (.ref a1) b := by
                obtain ⟨ob, w1, w2, w3⟩ := g1
                refine ⟨a1, its1, i1, t1, rfl, ⟨ob, up _ _ (fun z => ?_) w1, w2, w3⟩, g2, g3, g4⟩
                subst z
                rw [hPs] at w1
                cases w1
                cases w2
              have hC2 : s₂.heap.IsCell cc (some (.int j t0)) := by
                obtain ⟨ob, w1, w2⟩ := hcell
                refine ⟨ob, up _ _ (fun z => ?_) w1, w2⟩
                subst z
                rw [hPs] at w1
                cases w1
                cases w2
              have htr : trB bs i = b := by
                unfold trB
                rw [List.getD_eq_getElem?_getD, hb]; rfl
              refine wpAny_mono (elt_fe (scope := scope) rfl G.kind G.loc G.fr (NdefX.clo_has hfree (PySem.mem_of_lookup G.fr) hcc) hC2 hFe hkn hn hm hd hd2 hd3) (fun r s3 hr3 => ⟨by rw [htr]; exact hr3.1, hr3.2⟩) fun _ _ e => e
          · intro g h5 tk5 gs hgb hag hsz5 hk5 W5 hat; simp only [GxR.passing_true, List.length_range] at W5
            refine Calls.spliced_nil ?_
            have W := W5.in4_1
            refine call_any_walkS (W.self 0 _ _ _ hat ⟨g, _, _, _, _, _, _, trB bs, rfl, W, hat, fun i v s Q E hP hQ => ?_, fun s' hmv => ?_⟩)
            · obtain ⟨i', hi', rfl⟩ := hP
              obtain ⟨hj', ej'⟩ := List.getElem?_eq_some_iff.mp hi'
              rw [List.getElem_range] at ej'
              subst ej'
              exact wpAny_truthy_bool hQ
            · obtain ⟨H2, J, keep, ht⟩ := hend s' (fun b u hb hlt e => hmv.heap b u (fun z => by
                rcases (List.mem_cons.mp z) with zh | z
                · rw [zh] at hlt
                  exact Nat.lt_irrefl _ hlt
                · exact hb (by simpa using z)) (hk5 b u e)) (AllBare.movedS (I1.bare.push hgb) hmv) hmv.os
              refine ⟨.bl _, H2, J, rfl, ?_⟩; have : its.toArray.size = bs.length := by rw [List.size_toArray, hbl]
              rw [this, any_trB]
              exact back H2 s' J keep ht
        refine ⟨lim2, ?_⟩
        have nN : ∀ b, H1 b = none → b ≠ P := fun b e z => by rw [z, hP] at e; cases e
        have szl : ∀ b u, s1.heap.get? b = some u → b ≠ s1.heap.objs.size := fun b u e => Nat.ne_of_lt (Heap.lt_size e); cases hf : codeAmong gpos ps.toList with
        | none =>
          refine wpAny_genexprCodeX hcode (cd.code hP2 htr) (cd.tab hP2) hf fun c' h' tk hx hge hlt hco' hrec htab' _ => ?_
          refine cont _ h' tk _ hx (Nat.le_trans hge (Nat.le_of_lt hlt)) htab'.2 fun s' hk hb hos => ?_
          have hge' : s1.heap.objs.size < c' := by
            have z := hge
            rw [sz2] at z
            exact z
          have nC : H1 c' = none := I1.hok.fresh (Nat.le_of_lt hge')
          obtain ⟨c2, oc, vs2, t2, e2, hoc, hd2', hv2⟩ := hrec
          cases e2
          have kk : ∀ b u, b ≠ P → s1.heap.get? b = some u → s'.heap.get? b = some u := fun b u hb e => by
            have e3 := hx b u hb (Heap.get?_push_of_some _ e)
            exact hk b u (szl b u e) (Heap.lt_size e3) e3
          have hPe : s'.heap.get? P = some { cls := .none, data := .fields (ps ++ #[rawInt gpos.line, rawInt gpos.col, .ref c']) } := hk P _ (Nat.ne_of_lt hPlt) (Heap.lt_size htab'.2) htab'.2
          have hCe : s'.heap.get? c' = some oc := hk c' _ (Nat.ne_of_gt hge') hlt hoc
          have J0 := LamX.inv_table (t' := s'.toks) (more := #[rawInt gpos.line, rawInt gpos.col, .ref c']) (h' := s'.heap) I1 hP kk hPe (Nat.le_of_lt hge') ⟨oc, vs2, t2, hCe, hd2', hv2⟩
          have nPc : P ≠ c' := fun z => by rw [← z, hP] at nC; cases nC
          have hP3 : upd (upd H1 P (.tbl (ps ++ #[rawInt gpos.line, rawInt gpos.col, .ref c']))) c' (LamX.CodeO c' (X.env.qual ++ "<genexpr>")) P = some (.tbl (ps ++ #[rawInt gpos.line, rawInt gpos.col, .ref c'])) := by rw [upd_ne nPc, upd_same]
          have J1 := GxR.inv_tab (more := #[]) (h' := s'.heap) (g' := s'.gens) (d' := s'.drawn) (t' := s'.toks) J0 hP3 (fun b u _ e => e) (by rw [Array.append_empty]; exact hPe) hb
          have es := GxR.sh_eta s1 s' hos
          rw [Array.append_empty] at J1
          have keep : ∀ (a : Addr) (u : HO), H1 a = some u → (∀ ps, u ≠ .tbl ps) → upd (upd (upd H1 P (.tbl (ps ++ #[rawInt gpos.line, rawInt gpos.col, .ref c']))) c' (LamX.CodeO c' (X.env.qual ++ "<genexpr>"))) P (.tbl (ps ++ #[rawInt gpos.line, rawInt gpos.col, .ref c'])) a = some u := fun a u e n => by
            have h1 : a ≠ P := fun z => by rw [z, hP] at e; cases e; exact n _ rfl
            rw [upd_ne h1, upd_ne (ne_of_none e nC), upd_ne h1]; exact e
          have cm : c' ∉ m1 := hS1.none nC
          refine ⟨_, (by rw [← es]; exact J1), keep, fun pp hpp => ?_⟩
          by_cases hpe : pp.1 = P
          · refine ⟨_, by rw [hpe]; exact upd_same, ?_, fun pos' cv e => ?_⟩
            · have : (ps ++ #[rawInt gpos.line, rawInt gpos.col, .ref c']).toList = ps.toList ++ [rawInt gpos.line, rawInt gpos.col, .ref c'] := by simp
              rw [this]
              exact PySem.TriplesOk_snoc _ _ _ _ htr
            · have : (ps ++ #[rawInt gpos.line, rawInt gpos.col, .ref c']).toList = ps.toList ++ [rawInt gpos.line, rawInt gpos.col, .ref c'] := by simp
              rw [this] at e
              rw [hu pp hpp hpe]
              rcases NdefX.among_app2 _ htr e with z | ⟨z, z1, z2⟩
              · obtain ⟨c0, w1, w2, w3⟩ := hco pos' cv z
                exact ⟨c0, w1, keep _ _ w2 LamX.codeO_ne, w3⟩
              · refine ⟨c', z, ?_, cm⟩
                rw [← z1, ← z2]
                show upd _ P _ c' = some (LamX.CodeO c' (nm gpos.line gpos.col))
                rw [upd_ne (Ne.symm nPc), upd_same, hnm]
          · obtain ⟨ps2, w1, w2, w3⟩ := hS1.tb pp hpp
            refine ⟨ps2, ?_, w2, fun pos' cv e => ?_⟩
            · rw [upd_ne hpe, upd_ne (ne_of_none w1 nC), upd_ne hpe]; exact w1
            · obtain ⟨c0, v1, v2, v3⟩ := w3 pos' cv e
              exact ⟨c0, v1, keep _ _ v2 LamX.codeO_ne, v3⟩
        | some cv =>
          refine wpAny_genexprCode_hit hcode (cd.code hP2 htr) hf ?_
          refine cont cv (s1.heap.push o) s1.toks ps (Heap.ExtBut.refl _ _) (Nat.le_refl _) hP2 fun s' hk hb hos => ?_
          have kk : ∀ b u, s1.heap.get? b = some u → s'.heap.get? b = some u := fun b u e => by
            have e3 : (s1.heap.push o).get? b = some u := Heap.get?_push_of_some _ e
            exact hk b u (szl b u e) (Heap.lt_size e3) e3
          have J1 := GxR.inv_tab (more := #[]) (h' := s'.heap) (g' := s'.gens) (d' := s'.drawn) (t' := s'.toks) I1 hP (fun b u _ e => kk b u e) (by rw [Array.append_empty]; exact kk P _ hPs) hb
          have es := GxR.sh_eta s1 s' hos
          rw [Array.append_empty] at J1
          have heq : upd H1 P (.tbl ps) = H1 := by
            funext b
            by_cases hb : b = P
            · rw [hb, upd_same, hP]
            · rw [upd_ne hb]
          rw [heq, es] at J1
          exact ⟨H1, J1, fun _ _ e _ => e, hS1.tb⟩
      · cases e1
    · cases e1
  · cases e1
end
end Ml
set_option maxHeartbeats 1000000 -- wide
/-! Ml25: the written part without some tables -/
namespace Ml
open L2 PyProof.Rows PySem PySem.Spec
theorem hu1b {k : Nat} {A : Around} (hr : Room k A) : A.units + 1 < cLine := by have := hr.un; omega
/-- without these -/
def less (K : PySem.W.Frag) (ts : List Addr) : PySem.W.Frag := K.filter fun p => !ts.contains p.1
theorem less_get {ts : List Addr} {a : Addr} (h : a ∉ ts) : ∀ K : PySem.W.Frag, (less K ts).lookup a = K.lookup a
  | [] => rfl
  | (b, o) :: K => by
    have ih := less_get h K
    unfold less at ih ⊢
    by_cases hb : b ∈ ts
    · rw [List.filter_cons_of_neg (by simpa using hb), ih]
      have : (a == b) = false := by
        rw [beq_eq_false_iff_ne]
        exact fun z => h (by rw [z]; exact hb)
      rw [List.lookup_cons, this]
    · rw [List.filter_cons_of_pos (by simpa using hb), List.lookup_cons, List.lookup_cons, ih]
theorem less_none {ts : List Addr} {a : Addr} (h : a ∈ ts) : ∀ K : PySem.W.Frag, (less K ts).lookup a = none
  | [] => rfl
  | (b, o) :: K => by
    have ih := less_none h K
    unfold less at ih ⊢
    by_cases hb : b ∈ ts
    · rw [List.filter_cons_of_neg (by simpa using hb), ih]
    · have : (a == b) = false := by
        rw [beq_eq_false_iff_ne]
        exact fun z => hb (by rw [← z]; exact h)
      rw [List.filter_cons_of_pos (by simpa using hb), List.lookup_cons, this, ih]
/-- all but empty tables is told still -/
structure Less (K K' : PySem.W.Frag) : Prop where
  up : ∀ a o, K.lookup a = some o → o ≠ PySem.W.tabObj #[] → K'.lookup a = some o
  dn : ∀ a o, K'.lookup a = some o → K.lookup a = some o
theorem less_ok {K : PySem.W.Frag} {ts : List Addr} (h : ∀ a ∈ ts, K.lookup a = some (PySem.W.tabObj #[])) : Less K (less K ts) := by
  refine ⟨fun a o e n => ?_, fun a o e => ?_⟩
  · by_cases ha : a ∈ ts
    · rw [h a ha] at e; cases e; exact (n rfl).elim
    · rw [less_get ha]; exact e
  · by_cases ha : a ∈ ts
    · rw [less_none ha] at e; cases e
    · rw [less_get ha] at e; exact e
section
variable {K K' : PySem.W.Frag}
theorem Less.inn (L : Less K K') {h : Heap} (X : K.In h) : K'.In h := fun a o e => X a o (L.dn a o e)
theorem Less.ns (L : Less K K') {a : Addr} {n : Str} {r : Option Value} (e : PySem.W.nsIn K a n = some r) : PySem.W.nsIn K' a n = some r := by
  unfold PySem.W.nsIn at e ⊢
  split at e
  · rename_i c d es n' sl q
    rw [L.up _ _ q fun z => by cases z]
    exact e
  · cases e
theorem Less.look (L : Less K K') {a : Addr} {o : Obj} (e : K.lookup a = some o) (n : o.data ≠ .fields #[]) : K'.lookup a = some o := L.up a o e fun z => n (by rw [z])
theorem Less.code (L : Less K K') {cd : Value} {q : Str} (e : PySem.W.codeIn K cd q = true) : PySem.W.codeIn K' cd q = true := by
  unfold PySem.W.codeIn at e ⊢
  split at e
  · rename_i c
    split at e
    · rename_i d1 d2 vs sl h
      rw [L.up _ _ h fun z => by cases z; simp at e]
      exact e
    · cases e
  · cases e
theorem Less.hd (L : Less K K') {c P : Addr} (e : PySem.W.codeHdIn K c P = true) : PySem.W.codeHdIn K' c P = true := by
  unfold PySem.W.codeHdIn at e ⊢
  split at e
  · rename_i d vs sl h
    rw [L.up _ _ h fun z => by cases z]
    exact e
  · cases e
theorem Less.keep (L : Less K K') {a : Addr} {oc : Value} {od : Option Addr} {fd : FuncData} {sl : Array (Option Value)} (l : K.lookup a = some ⟨oc, od, .func fd, sl⟩) : PySem.W.keepIn K' (.ref a) = true := by
  have e := L.up _ _ l fun z => by cases z
  unfold PySem.W.keepIn
  simp only [e]
end
end Ml
set_option maxHeartbeats 1000000 -- wide
/-! Ml26: a text's facts by names -/
namespace Ml
open L2 PyProof.Rows PySem PySem.Spec
/-- a written scalar -/
def litB : D → Value → Bool
  | .non, .none => true
  | .bl b, .bool c => b == c
  | .int di, .int vi _ => decide (di = vi)
  | .str dx, .str vx _ => decide (dx = vx)
  | _, _ => false
def litAll : List D → List Value → Bool
  | [], [] => true
  | d :: ds, u :: us => litB d u && litAll ds us
  | _, _ => false
theorem litB_ok {d : D} {u : Value} (h : litB d u = true) : ∃ v, RelV v u ∧ ∀ (K : Kx) (H : Hp) (m : List Addr), Rp K H m d v := by
  unfold litB at h
  split at h
  · exact ⟨.non, rfl, fun _ _ _ => by rw [Rp]⟩
  · rename_i b c; rw [eq_of_beq h]; exact ⟨.bl c, rfl, fun _ _ _ => by rw [Rp]⟩
  · rename_i i j t; rw [of_decide_eq_true h]; exact ⟨.int j, ⟨t, rfl⟩, fun _ _ _ => by rw [Rp]⟩
  · rename_i x y t; rw [of_decide_eq_true h]; exact ⟨.str y, ⟨t, rfl⟩, fun _ _ _ => by rw [Rp]⟩
  · cases h
theorem litAll_ok : ∀ {ds : List D} {us : List Value}, litAll ds us = true → ∃ vs, Vals vs us ∧ ∀ (K : Kx) (H : Hp) (m : List Addr), Rps K H m ds vs
  | [], [], _ => ⟨[], .nil, fun _ _ _ => Rps.nil⟩
  | [], _ :: _, h => by cases h
  | _ :: _, [], h => by cases h
  | d :: ds, u :: us, h => by
    have h' : (litB d u && litAll ds us) = true := h
    rw [Bool.and_eq_true] at h'
    obtain ⟨v, r1, r2⟩ := litB_ok h'.1
    obtain ⟨vs, s1, s2⟩ := litAll_ok h'.2
    exact ⟨v :: vs, .cons r1 s1, fun K H m => Rps.cons (r2 K H m) (s2 K H m)⟩
/-- a written tuple -/
def tupAt (K : PySem.W.Frag) (a : Addr) (xs : List D) : Bool := match K.lookup a with
  | some ⟨.type c, _, .seq its _, _⟩ => decide (c = "tuple") && (decide (its.size ≤ sizeLine) && litAll xs its.toList)
  | _ => false
theorem tupAt_ok {K : PySem.W.Frag} {a : Addr} {xs : List D} (h : tupAt K a xs = true) (P : Program) (w : World) (b : Heap) (t : List NdefX.NTab) (H : Hp) (m : List Addr) : Rp ⟨K, P, w, b, t⟩ H m (.tup xs) (.ref a) := by
  unfold tupAt at h
  split at h
  · rename_i c d its n sl q
    rw [Bool.and_eq_true, Bool.and_eq_true] at h
    obtain ⟨h1, h2, h3⟩ := h
    obtain ⟨vs, s1, s2⟩ := litAll_ok h3
    rw [Rp]
    exact ⟨a, vs, rfl, .inr ⟨_, its, n, q, congrArg Value.type (of_decide_eq_true h1), rfl, of_decide_eq_true h2, s1⟩, s2 _ H m⟩
  · cases h
/-- a written dict's entries: tuples, or none -/
def entAt (K : PySem.W.Frag) (a : Addr) (p : Str × Option D) : Bool := match PySem.W.nsIn K a p.1, p.2 with
  | some (some (.ref t)), some (.tup xs) => tupAt K t xs
  | some none, none => true
  | _, _ => false
theorem cdict_of {K : PySem.W.Frag} {w : World} {a : Addr} {tbl : List (Str × Option D)} (h : ∃ es n, KDict K w a es n) (e : tbl.all (entAt K a) = true) : CDict K w a tbl := by
  obtain ⟨es, n, h⟩ := h
  refine ⟨⟨es, n, h.at_, h.lit⟩, h.low, fun z r hz => ?_⟩
  have e1 := List.all_eq_true.mp e _ hz
  unfold entAt at e1
  split at e1
  · rename_i t xs q1 q2
    have q2' : r = some (.tup xs) := q2
    subst q2'
    exact ⟨_, .ref t, q1, rfl, fun P b t0 H m => tupAt_ok e1 P w b t0 H m⟩
  · rename_i q1 q2
    have q2' : r = none := q2
    subst q2'
    exact q1
  · cases e1
section
variable {K : PySem.W.Frag} {x qual : Str} {st : Stmt} {f : Addr} {fd : FuncData}
theorem fun_of (F : FunD K x qual (defArgs st) (defBody st) (defScope st) [] [] f fd) : Fun K x qual st f fd := by
  obtain ⟨oc, od, dV, kV, doc, pm, an, cdv, ct, osl, e, l, c, d, k⟩ := F.ex
  rcases d with ⟨_, rfl⟩ | ⟨n, _⟩
  · exact ⟨⟨oc, od, kV, doc, pm, an, cdv, ct, osl, e, l, c⟩, F.kp⟩
  · exact (n rfl).elim
theorem funC_of {p : Str × Option Str} (F : FunD K x qual (defArgs st) (defBody st) (defScope st) [] [] (He.fAd K p) fd) : FunC K x qual st (He.fAd K p) fd (He.cT K p).1 := by
  obtain ⟨oc, od, dV, kV, doc, pm, an, cdv, ct, osl, e, l, c, d, k⟩ := F.ex
  rcases d with ⟨_, rfl⟩ | ⟨n, _⟩
  · obtain ⟨c0, rfl⟩ := He.codeIn_ref c
    have : (He.cT K p).1 = c0 := He.codeOf_eq l (by rw [e])
    rw [this]
    exact ⟨oc, od, kV, doc, pm, an, ct, osl, e, l, c⟩
  · exact (n rfl).elim
end
end Ml
/-! Ml27: x is a bool, x a bool, an int, a text or None. -/
namespace Ml
open L2 PyProof.Rows PySem PySem.Spec
def sameF : D → Bool → Option Bool
  | .non, _ => some false
  | .bl a, b => some (decide (a = b))
  | .int _, _ => some false
  | .str _, _ => some false
  | _, _ => none
def isT (neg : Bool) : D → D → Sto → Option (D × Sto) := fun x y S => match y with
  | .bl b => match sameF x b with
    | some r => some (.bl (if neg then !r else r), S)
    | none => none
  | _ => none
/-- what `is` tells of plain values -/
def sameV : V → Bool → Option Bool
  | .non, _ => some false
  | .bl a, b => some (decide (a = b))
  | .int _, _ => some false
  | .str _, _ => some false
  | _, _ => none
def rIsT (neg : Bool) : R2 := fun x y H Q => ∃ b r, y = .bl b ∧ sameV x b = some r ∧ Q (.bl (if neg then !r else r)) H
theorem op_isT {X : Cx} : OpR X (compareOp .Is) (rIsT false) := fun pins s σ H x y vx vy Q I rx ry h => by
  obtain ⟨b, r, rfl, hr, q⟩ := h
  cases x <;> simp only [sameV, Option.some.injEq, reduceCtorEq] at hr
  case bl a => exact op_is_bl pins s σ H _ _ _ _ Q I rx ry ⟨a, b, rfl, rfl, by rw [hr]; exact q⟩
  all_goals
    cases ry
    subst hr
    first | obtain ⟨t, rfl⟩ := rx | cases rx
    exact wpAny_is_other rfl (fun z => by cases z) ⟨.bl false, H, I, rfl, q⟩
theorem op_isnotT {X : Cx} : OpR X (compareOp .IsNot) (rIsT true) := fun pins s σ H x y vx vy Q I rx ry h => by
  obtain ⟨b, r, rfl, hr, q⟩ := h
  cases x <;> simp only [sameV, Option.some.injEq, reduceCtorEq] at hr
  case bl a => exact op_isnot_bl pins s σ H _ _ _ _ Q I rx ry ⟨a, b, rfl, rfl, by rw [hr]; exact q⟩
  all_goals
    cases ry
    subst hr
    first | obtain ⟨t, rfl⟩ := rx | cases rx
    exact wpAny_isNot_other rfl (fun z => by cases z) ⟨.bl true, H, I, rfl, q⟩
theorem isT_ok {K : Kx} {neg : Bool} : FOk2 K (isT neg) (rIsT neg) := by
  intro x y S d S' e H m vx vy Q hS hx hy q
  unfold isT at e
  split at e
  · rename_i b
    rw [Rp] at hy
    subst hy
    split at e
    · rename_i r hr
      cases e
      cases x <;> simp only [sameF, Option.some.injEq, reduceCtorEq] at hr <;> (rw [Rp] at hx; subst hx; exact ⟨b, r, rfl, by simpa [sameV] using hr, fin_bl hS q⟩)
    · cases e
  · cases e
theorem isNT_ok {K : Kx} : FOk2 K (isT true) (rIsT true) := isT_ok
theorem isPT_ok {K : Kx} : FOk2 K (isT false) (rIsT false) := isT_ok
end Ml
/-! Ml28: d[k] of a dict that may be locked. -/
namespace Ml
open L2 PyProof.Rows PySem PySem.Spec
def dkAt : O → Option (List (Key × D))
  | .dk kvs => some kvs
  | .dkl kvs => some kvs
  | _ => none
def getL : D → D → Sto → Option (D × Sto)
  | .ref n, y, S => match (S[n]?).bind dkAt, keyD y with
    | some kvs, some k => match valD kvs k with
      | some d => some (d, S)
      | none => none
    | _, _ => none
  | _, _, _ => none
theorem SR.dkAt {K : Kx} {H : Hp} {m : List Addr} {S : Sto} {n : Nat} {kvs : List (Key × D)} (hS : SR K H m S) (e : (S[n]?).bind dkAt = some kvs) {a : Addr} (ha : m[n]? = some a) : ∃ ws, Rd H a (.dK ws) ∧ Rkv K H m kvs ws := by
  cases h : S[n]? with
  | none => rw [h] at e; cases e
  | some o =>
    rw [h] at e
    have r := hS.at_ n a o ha h
    cases o <;> simp [Ml.dkAt] at e
    · subst e
      obtain ⟨ws, r1, r2⟩ := r
      exact ⟨ws, .inl r1, r2⟩
    · subst e
      obtain ⟨od, ws, r1, r2⟩ := r
      exact ⟨ws, .inr ⟨od, r1⟩, r2⟩
theorem me_getL {tb : List NdefX.NTab} {X : Cx} {a b : Expr} {ea eb : EvM} {pos : Pos} (hu : X.A.units + 1 < cLine) (ha : ME tb X a ea) (hb : ME tb X b eb) (hs : NoSl b := by exact fun _ _ => rfl) : ME tb X (.Subscript a b pos) (binM getL ea eb) := PE.imp (pe_dget hu ha hb hs) fun σ H Q h => by
  obtain ⟨m, S, γ, d, S', hS, hγ, e, q⟩ := h
  unfold binM at e
  split at e
  · cases e
  · rename_i x S1 h1
    split at e
    · cases e
    · rename_i y S2 h2
      refine ⟨m, S, γ, _, _, hS, hγ, h1, fun w H1 m1 x1 hS1 hw => ?_⟩
      refine ⟨m1, S1, γ, _, _, hS1, hγ.mono x1, h2, fun u H2 m2 x2 hS2 hv => ?_⟩
      unfold getL at e
      split at e
      · rename_i n
        split at e
        · rename_i kvs k h3 h4
          split at e
          · rename_i d2 h5
            cases e
            have hw2 := hw.mono x2
            rw [Rp] at hw2
            obtain ⟨c, hc, rfl⟩ := hw2
            obtain ⟨ws, g1, g2⟩ := hS2.dkAt h3 hc
            rcases g2.valK k with ⟨z, _⟩ | ⟨d3, v, z1, z2, r⟩
            · rw [h5] at z; cases z
            · rw [h5] at z1; cases z1
              rw [keyD_ok hv h4]
              exact ⟨c, v, rfl, .inl ⟨ws, k, g1, rfl, z2.symm⟩, q v H2 m2 (x1.trans x2) hS2 r⟩
          · cases e
        · cases e
      · cases e
end Ml
/-! Ml29: a, b = a list. -/
namespace Ml
open L2 PyProof.Rows PySem PySem.Spec
def lstG (n : Nat) (g : List D → Sl → Sto → Option (Sl × Sto)) : TvM := fun d γ S => match d with
  | .ref r => match S[r]? with
    | some (.lst xs) => if xs.length = n then g xs γ S else none
    | _ => none
  | _ => none
theorem mg_lst {tb : List NdefX.NTab} {X : Cx} {es : List Expr} {pos : Pos} {k n : Nat} {g : List D → Sl → Sto → Option (Sl × Sto)} (hc : X.calm = true) (h : MGs tb X es g) (hn : (assignEach es X.env).length = n := by rfl) (hst : (assignEach es X.env).findIdx? (·.1) = none := by rfl) : MG tb X (.Tuple es k pos) (lstG n g) :=
  PG.imp (pg_lst hc h hn hst) fun v σ H Q hw => by
    obtain ⟨m, S, γ, d, γ', S', hS, hγ, hd, e, q⟩ := hw
    unfold lstG at e
    split at e
    · rename_i r
      split at e
      · rename_i xs h1
        split at e
        · rename_i hl
          rw [Rp] at hd
          obtain ⟨a, ea, rfl⟩ := hd
          obtain ⟨a', ws, m1, k1, r1⟩ := hS.lst h1
          rw [ea] at m1; cases m1
          exact ⟨a, ws, rfl, .inl (.inl k1), by rw [r1.length]; exact hl, m, S, γ, xs, γ', S', hS, hγ, r1, e, q⟩
        · cases e
      · cases e
    · cases e
end Ml
/-! Ml30: values compared by order, place by place; sorted; max; isinstance of one of two; three targets; list(range(..)). -/
namespace Ml
open L2 PyProof.Rows PySem PySem.Spec
/-! ### order of data in the hand layer -/
/-- two data that may be compared -/
structure CmpD (K : PySem.W.Frag) (H : Hp) (x y : V) (d e : PyData) : Prop where
  dx : Dp K H x d
  dy : Dp K H y e
  alike : PySem.W.alike d e = true
  nn : d ≠ .none
  deep : d.depth ≤ 50
def rOrdD (K : PySem.W.Frag) (f : PyData → PyData → Bool) : R2 := fun x y H Q => ∃ d e, CmpD K H x y d e ∧ Q (.bl (f d e)) H
section
variable {X : Cx}
theorem deep_min {n : Nat} {d e : PyData} (hu : n + 64 < cLine) (h : d.depth ≤ 50) : n + min d.depth e.depth < cLine := by
  have hmin := Nat.min_le_left d.depth e.depth
  omega
theorem op_ltD (hu : X.A.units + 64 < cLine) : OpR X (compareOp .Lt) (rOrdD X.K fun d e => PySem.W.dataLt d e) := by
  intro pn s σ H x y v u Q I rx ry hq
  obtain ⟨d, e, ⟨hd, he, al, nn, dp⟩, q⟩ := hq
  obtain ⟨al1, r1⟩ := Dp.reads I d x v hd rx
  obtain ⟨al2, r2⟩ := Dp.reads I e y u he ry
  exact PySem.W.lt_data r1 r2 al nn (deep_min hu dp) ⟨.bl _, H, I, rfl, q⟩
theorem op_gtD (hu : X.A.units + 64 < cLine) : OpR X (compareOp .Gt) (rOrdD X.K fun d e => PySem.W.dataLt e d) := by
  intro pn s σ H x y v u Q I rx ry hq
  obtain ⟨d, e, ⟨hd, he, al, nn, dp⟩, q⟩ := hq
  obtain ⟨al1, r1⟩ := Dp.reads I d x v hd rx
  obtain ⟨al2, r2⟩ := Dp.reads I e y u he ry
  exact PySem.W.gt_data r1 r2 al nn (deep_min hu dp) ⟨.bl _, H, I, rfl, q⟩
theorem op_leD (hu : X.A.units + 64 < cLine) : OpR X (compareOp .LtE) (rOrdD X.K fun d e => !PySem.W.dataLt e d) := by
  intro pn s σ H x y v u Q I rx ry hq
  obtain ⟨d, e, ⟨hd, he, al, nn, dp⟩, q⟩ := hq
  obtain ⟨al1, r1⟩ := Dp.reads I d x v hd rx
  obtain ⟨al2, r2⟩ := Dp.reads I e y u he ry
  exact PySem.W.le_data r1 r2 al nn (deep_min hu dp) ⟨.bl _, H, I, rfl, q⟩
theorem op_geD (hu : X.A.units + 64 < cLine) : OpR X (compareOp .GtE) (rOrdD X.K fun d e => !PySem.W.dataLt d e) := by
  intro pn s σ H x y v u Q I rx ry hq
  obtain ⟨d, e, ⟨hd, he, al, nn, dp⟩, q⟩ := hq
  obtain ⟨al1, r1⟩ := Dp.reads I d x v hd rx
  obtain ⟨al2, r2⟩ := Dp.reads I e y u he ry
  exact PySem.W.ge_data r1 r2 al nn (deep_min hu dp) ⟨.bl _, H, I, rfl, q⟩
/-- sorted(xs), sorted(xs, reverse=b) of a list that reads as data: bs tells what the items stand for -/
def rSortD (K : PySem.W.Frag) (b : Bool) : List V → List V → Hp → VK → Prop := fun vs zs H Q => ∃ (β : Type) (R : V → β → Prop) (enc : β → PyData) (a : Addr) (xs : List V) (bs : List β), vs = [V.ref a] ∧ (zs = [] ∧ b = false ∨ zs = [.bl b]) ∧ SqL K H a xs ∧
  PySem.W.EachIs (fun v d => R v d ∧ Dp K H v (enc d)) xs bs ∧ PySem.W.AllAlike (bs.map enc) ∧ PySem.W.Sortable (bs.map enc) ∧ (∀ d ∈ bs, (enc d).depth ≤ 50) ∧
  ∀ ws p, PySem.W.EachIs R ws (bs.mergeSort (PySem.W.dataLe b enc)) → H p = none → Q (.ref p) (upd H p (.lst ws))
theorem each_vals {β : Type} {pins : List (Addr × Obj)} {σ : L2.St} {H : Hp} {s : Shared} (I : Inv X pins σ H s) {R : V → β → Prop} {enc : β → PyData} : ∀ {xs : List V} {bs : List β} {its : List Value}, PySem.W.EachIs (fun v d => R v d ∧ Dp X.K H v (enc d)) xs bs → Vals xs its →
    PySem.W.EachIs (fun u d => ∃ v, RelV v u ∧ R v d) its bs ∧ PySem.W.EachIs (fun u d => ∃ as, Reads s.heap u (enc d) as) its bs
  | [], [], _, .nil, r => by cases r; exact ⟨.nil, .nil⟩
  | x :: xs, b :: bs, _, .cons h t, r => by
    cases r with
    | cons r1 r2 =>
      obtain ⟨h1, h2⟩ := each_vals I t r2
      exact ⟨.cons ⟨x, r1, h.1⟩ h1, .cons (Dp.reads I _ _ _ h.2 r1) h2⟩
theorem vals_each {β : Type} {R : V → β → Prop} : ∀ {out : List Value} {bs : List β}, PySem.W.EachIs (fun u d => ∃ v, RelV v u ∧ R v d) out bs → ∃ ws, Vals ws out ∧ PySem.W.EachIs R ws bs
  | [], [], .nil => ⟨[], .nil, .nil⟩
  | u :: us, b :: bs, .cons h t => by
    obtain ⟨ws, h1, h2⟩ := vals_each t
    obtain ⟨v, r, hR⟩ := h
    exact ⟨v :: ws, .cons r h1, .cons hR h2⟩
theorem sortD_run {β : Type} {b : Bool} {kw : List (Str × Value)} {pins : List (Addr × Obj)} {s : Shared} {σ : L2.St} {H : Hp} {a : Addr} {R : V → β → Prop} {enc : β → PyData} {xs : List V} {bs : List β} {Q : VK} (hu : X.A.units + 64 < cLine) (I : Inv X pins σ H s) (hs : SqL X.K H a xs)
    (he : PySem.W.EachIs (fun v d => R v d ∧ Dp X.K H v (enc d)) xs bs) (hal : PySem.W.AllAlike (bs.map enc)) (hk : PySem.W.Sortable (bs.map enc)) (hd : ∀ d ∈ bs, (enc d).depth ≤ 50)
    (hkw : (kw = [] ∧ b = false) ∨ kw = [(Str.ofString "reverse", .bool b)])
    (q : ∀ ws p, PySem.W.EachIs R ws (bs.mergeSort (PySem.W.dataLe b enc)) → H p = none → Q (.ref p) (upd H p (.lst ws))) : wpAny (model X.prog X.w) X.A (call (.builtin "sorted") [.ref a] kw) (EP X pins σ Q) X.xe s := by
  obtain ⟨itz, rv, hl, hz⟩ := I.list hs
  obtain ⟨e1, e2⟩ := each_vals I he rv
  have hlen : bs.length ≤ sizeLine := by rw [← e1.length, ← rv.length]; exact hz
  have hdeep : ∀ d, d ∈ bs → X.A.units + 2 + (enc d).depth < cLine := fun d hm => by have := hd d hm; omega
  have fin : ∀ out : List Value, out.length = bs.length → PySem.W.EachIs (fun u d => ∃ v, RelV v u ∧ R v d) out (bs.mergeSort (PySem.W.dataLe b enc)) → EP X pins σ Q (.ref (s.heap.objs.size + 1)) { s with heap := PyProof.Rows.sortedAll s.heap itz out.toArray } := by
    intro out h1 h2
    obtain ⟨ws, r1, r2⟩ := vals_each h2
    obtain ⟨ep, hep⟩ := PyProof.Rows.sortedAll_at s.heap itz out.toArray
    have hl2 : ws.length ≤ sizeLine := by rw [r1.length, h1]; exact hlen
    exact ⟨.ref _, upd H (s.heap.objs.size + 1) (.lst ws), I.laid (t' := s.toks) (fun _ _ => PyProof.Rows.sortedAll_old) (Nat.le_succ _) ⟨hl2, out, ep, r1, by simpa using hep⟩, rfl, q ws _ r2 (I.hok.fresh (Nat.le_succ _))⟩
  rcases hkw with ⟨rfl, rfl⟩ | rfl
  · exact PySem.W.sorted_data hl.isList e1 e2 hal hk hlen hdeep fin
  · exact PySem.W.sorted_rev_data hl.isList e1 e2 hal hk hlen hdeep fin
theorem cr_sortedD (hu : X.A.units + 64 < cLine) : CallR X (.builtin "sorted") (fun vs H Q => rSortD X.K false vs [] H Q) := by
  intro pn s σ H vs us Q I r hq
  obtain ⟨β, R, enc, a, xs, bs, rfl, hz, hs, he, hal, hk, hd, q⟩ := hq
  rw [Vals.ref1 r]
  exact sortD_run hu I hs he hal hk hd (.inl ⟨rfl, rfl⟩) q
theorem cr_sortedDR {b : Bool} (hu : X.A.units + 64 < cLine) : CallRK X (.builtin "sorted") [Str.ofString "reverse"] (fun vs zs H Q => zs = [.bl b] ∧ rSortD X.K b vs zs H Q) := by
  intro pn s σ H vs zs us ws Q I r rz hq
  obtain ⟨rfl, β, R, enc, a, xs, bs, rfl, hz, hs, he, hal, hk, hd, q⟩ := hq
  obtain rfl := Vals.ref1 r
  obtain ⟨wb, rfl, eb⟩ := vals1 rz
  obtain rfl : wb = Value.bool b := eb
  exact sortD_run hu I hs he hal hk hd (.inr rfl) q
/-- max(xs) of a list of data -/
def rMaxD (K : PySem.W.Frag) : List V → Hp → VK → Prop := fun vs H Q => ∃ (a : Addr) (xs : List V) (d : PyData) (ds : List PyData), vs = [V.ref a] ∧ SqL K H a xs ∧ DpAll K H xs (d :: ds) ∧ PySem.W.AlikeAll (d :: ds) ∧ PyData.depthAll (d :: ds) ≤ 50 ∧
  ∀ (i : Nat) v e, xs[i]? = some v → (d :: ds)[i]? = some e → e = PySem.W.maxD d ds → Q v H
theorem dpAll_at {K : PySem.W.Frag} {H : Hp} : ∀ {xs : List V} {ds : List PyData} {i : Nat} {v : V}, DpAll K H xs ds → xs[i]? = some v → ∃ e, ds[i]? = some e ∧ Dp K H v e
  | _, _, _, _, .nil, h => by simp at h
  | _, _, 0, _, .cons (d := d) h t, e => by simp at e; subst e; exact ⟨d, rfl, h⟩
  | _, _, i + 1, _, .cons h t, e => by
    obtain ⟨e', a, b⟩ := dpAll_at (i := i) t (by simpa using e)
    exact ⟨e', by simpa using a, b⟩
theorem maxD_mem (d : PyData) : ∀ ds : List PyData, PySem.W.maxD d ds ∈ d :: ds := by
  have key : ∀ (ds : List PyData) (d : PyData), ds.foldl (fun a y => if PySem.W.dataLt a y then y else a) d ∈ d :: ds := by
    intro ds
    induction ds with
    | nil => intro d; simp
    | cons y ds ih =>
      intro d
      rw [List.foldl_cons]
      have := ih (if PySem.W.dataLt d y = true then y else d)
      rcases List.mem_cons.mp this with h | h
      · rw [h]; split <;> simp
      · simp [h]
  exact fun ds => key ds d
theorem cr_maxD (hc : X.calm = true) (hu : X.A.units + 64 < cLine) : CallR X (.builtin "max") (rMaxD X.K) := by
  intro pn s σ H vs us Q I r hq
  obtain ⟨a, xs, d, ds, rfl, hs, hd, hal, hdp, q⟩ := hq
  obtain ⟨itz, rv, hl, _⟩ := I.list hs
  rw [Vals.ref1 r]
  obtain ⟨as, hr⟩ := Dp.readsAll I _ _ _ hd rv
  refine PySem.W.max_list_data (I.ok.hd hc) hl.isList (by simpa using hr) hal (by omega) fun i v h' tk bs hi hv hk => ?_
  have hi' : itz[i]? = some v := by simpa using hi
  obtain ⟨x, hx, rx⟩ : ∃ x, xs[i]? = some x ∧ RelV x v := by
    have hlt : i < xs.length := by rw [rv.length]; exact (List.getElem?_eq_some_iff.mp hi').1
    obtain ⟨u, hu1, hu2⟩ := Vals.get rv (List.getElem?_eq_getElem hlt)
    rw [hi'] at hu1
    cases hu1
    exact ⟨xs[i], List.getElem?_eq_getElem hlt, hu2⟩
  obtain ⟨e, he, dx⟩ := dpAll_at hd hx
  have I' : Inv X pn σ H { s with heap := h', toks := tk } := I.kept (t' := tk) hk
  obtain ⟨cs, re⟩ := Dp.reads I' e x v dx rx
  have hm : e = PySem.W.maxD d ds := PySem.W.alike_unique e _ v cs bs (hal.1 e (List.mem_of_getElem? he) _ (maxD_mem d ds)) re hv
  exact ⟨x, H, I', rx, q i x e hx he hm⟩
end
/-! ### the same by content -/
def nnP : PyData → Bool
  | .none => false
  | _ => true
theorem nnP_ne {p : PyData} (h : nnP p = true) : p ≠ .none := fun e => by subst e; cases h
/-- two values that may be compared, as data -/
def twoD (x y : D) : Option (PyData × PyData) := match pyD x, pyD y with
  | some p, some q => if PySem.W.alike p q && nnP p && decide (p.depth ≤ 50) then some (p, q) else none
  | _, _ => none
def ordT (f : PyData → PyData → Bool) : D → D → Sto → Option (D × Sto) := fun x y S => match twoD x y with
  | some (p, q) => some (.bl (f p q), S)
  | none => none
section
variable {K : Kx}
theorem ordT_ok {f : PyData → PyData → Bool} : FOk2 K (ordT f) (rOrdD K.f f) := by
  intro x y S d S' e H m vx vy Q hS hx hy q
  unfold ordT at e
  split at e
  · rename_i p r h1
    cases e
    unfold twoD at h1
    split at h1
    · rename_i p' q' h2 h3
      split at h1
      · rename_i hc
        cases h1
        simp only [decide_eq_true_eq, Bool.and_eq_true] at hc
        exact ⟨p, r, ⟨pyD_ok _ _ _ hx h2, pyD_ok _ _ _ hy h3, hc.1.1, nnP_ne hc.1.2, hc.2⟩, fin_bl hS q⟩
      · cases h1
    · cases h1
  · cases e
def encD (d : D) : PyData := (pyD d).getD .none
def tupNE : PyData → Bool
  | .tuple (_ :: _) => true
  | _ => false
def flatNN : PyData → Bool
  | .none => false
  | .tuple _ => false
  | _ => true
/-- a list that can be sorted -/
def sortOk (xs : List D) : Bool := xs.all (fun x => (pyD x).isSome && decide ((encD x).depth ≤ 50)) && (xs.all (fun x => xs.all fun y => PySem.W.alike (encD x) (encD y))) && (xs.all (fun x => tupNE (encD x)) || xs.all fun x => flatNN (encD x))
def sortedF (b : Bool) : List D → Sto → Option (D × Sto)
  | [.ref n], S => match S[n]? with
    | some (.lst xs) => if sortOk xs = true then some (.ref S.length, S ++ [.lst (xs.mergeSort (PySem.W.dataLe b encD))]) else none
    | _ => none
  | _, _ => none
theorem encD_ok {H m} {d : D} {v : V} (h : Rp K H m d v) (hs : (pyD d).isSome = true) : Dp K.f H v (encD d) := by
  unfold encD
  cases e : pyD d with
  | none => rw [e] at hs; cases hs
  | some p => exact pyD_ok _ _ _ h e
theorem each_of {H m} : ∀ {xs : List D} {vs : List V}, Rps K H m xs vs → (∀ x ∈ xs, (pyD x).isSome = true) → PySem.W.EachIs (fun v d => Rp K H m d v ∧ Dp K.f H v (encD d)) vs xs
  | [], vs, h, _ => by rw [Rps] at h; subst h; exact .nil
  | x :: xs, vs, h, hs => by
    rw [Rps] at h
    obtain ⟨w, r, rfl, h1, h2⟩ := h
    exact .cons ⟨h1, encD_ok h1 (hs x (by simp))⟩ (each_of h2 fun y hy => hs y (by simp [hy]))
theorem each_rps {H m} : ∀ {xs : List D} {vs : List V}, PySem.W.EachIs (fun v d => Rp K H m d v) vs xs → Rps K H m xs vs
  | [], [], .nil => Rps.nil
  | _ :: _, _ :: _, .cons h t => Rps.cons h (each_rps t)
theorem sortD_pre {b : Bool} {xs : List D} {S S' : Sto} {d : D} {n : Nat} (h1 : S[n]? = some (.lst xs)) (hc : sortOk xs = true) (e : (D.ref S.length, S ++ [O.lst (xs.mergeSort (PySem.W.dataLe b encD))]) = (d, S')) {H : Hp} {m : List Addr} {v : V} {Q : VK} {zs : List V} (hz : zs = [] ∧ b = false ∨ zs = [.bl b]) (hS : SR K H m S) (hv : Rp K H m (.ref n) v) (q : Fin K H m S' d Q) : rSortD K.f b [v] zs H Q := by
  cases e
  unfold sortOk at hc
  simp only [Bool.and_eq_true, List.all_eq_true, Bool.or_eq_true, decide_eq_true_eq] at hc
  obtain ⟨⟨h2, h3⟩, h4⟩ := hc
  rw [Rp] at hv
  obtain ⟨a, ha, rfl⟩ := hv
  obtain ⟨a', vs, m1, k1, r1⟩ := hS.lst h1
  rw [ha] at m1; cases m1
  refine ⟨D, fun v d => Rp K H m d v, encD, a, vs, xs, rfl, hz, SqL.of k1, each_of r1 fun x hx => (h2 x hx).1, fun p hp p' hp' => ?_, ?_, fun x hx => (h2 x hx).2, fun ws p hw hp => ?_⟩
  · obtain ⟨x, hx, rfl⟩ := List.mem_map.mp hp
    obtain ⟨y, hy, rfl⟩ := List.mem_map.mp hp'
    exact h3 x hx y hy
  · rcases h4 with h4 | h4
    · refine .inl fun p hp => ?_
      obtain ⟨x, hx, rfl⟩ := List.mem_map.mp hp
      have := h4 x hx
      cases e : encD x <;> rw [e] at this <;> simp only [tupNE, Bool.false_eq_true] at this
      rename_i l
      cases l with
      | nil => cases this
      | cons y r => exact ⟨y, r, rfl⟩
    · refine .inr fun p hp => ?_
      obtain ⟨x, hx, rfl⟩ := List.mem_map.mp hp
      have := h4 x hx
      cases e : encD x <;> rw [e] at this <;> simp [flatNN] at this ⊢
  · exact fin_lst hS (each_rps hw) q p hp
theorem sortedF_ok : FOkN K (sortedF false) (fun vs H Q => rSortD K.f false vs [] H Q) := by
  intro xs S d S' e H m vs Q hS hv q
  unfold sortedF at e
  split at e
  · rename_i n
    split at e
    · rename_i ys h1
      split at e
      · rename_i hc
        obtain ⟨v, rfl, hv1⟩ := hv.one_iff
        exact sortD_pre h1 hc (Option.some.inj e) (.inl ⟨rfl, rfl⟩) hS hv1 q
      · cases e
    · cases e
  · cases e
/-- .. with reverse= -/
def sortedRF (b : Bool) : List D → List D → Sto → Option (D × Sto)
  | xs, [.bl c], S => if c = b then sortedF b xs S else none
  | _, _, _ => none
def FOkNK (K : Kx) (F : List D → List D → Sto → Option (D × Sto)) (r : List V → List V → Hp → VK → Prop) : Prop :=
  ∀ xs zs S d S', F xs zs S = some (d, S') → ∀ H m vs us Q, SR K H m S → Rps K H m xs vs → Rps K H m zs us → Fin K H m S' d Q → r vs us H Q
theorem sortedRF_ok {b : Bool} : FOkNK K (sortedRF b) (fun vs zs H Q => zs = [.bl b] ∧ rSortD K.f b vs zs H Q) := by
  intro xs zs S d S' e H m vs us Q hS hv hz q
  unfold sortedRF at e
  split at e
  · rename_i c
    split at e
    · rename_i hb
      subst hb
      obtain ⟨z, rfl, hz1⟩ := hz.one_iff
      rw [Rp] at hz1
      subst hz1
      unfold sortedF at e
      split at e
      · rename_i n
        split at e
        · rename_i ys h1
          split at e
          · rename_i hc
            obtain ⟨v, rfl, hv1⟩ := hv.one_iff
            exact ⟨rfl, sortD_pre h1 hc (Option.some.inj e) (.inr rfl) hS hv1 q⟩
          · cases e
        · cases e
      · cases e
    · cases e
  · cases e
/-- max of a list -/
def maxL (x : D) (xs : List D) : D := xs.foldl (fun a y => if PySem.W.dataLt (encD a) (encD y) then y else a) x
def maxOk (xs : List D) : Bool := xs.all (fun x => (pyD x).isSome && nnP (encD x)) && (xs.all fun x => xs.all fun y => PySem.W.alike (encD x) (encD y)) && decide (PyData.depthAll (xs.map encD) ≤ 50)
def maxDF : List D → Sto → Option (D × Sto)
  | [.ref n], S => match S[n]? with
    | some (.lst (x :: xs)) => if maxOk (x :: xs) = true then some (maxL x xs, S) else none
    | _ => none
  | _, _ => none
theorem maxL_mem (x : D) : ∀ xs : List D, maxL x xs ∈ x :: xs := by
  have key : ∀ (xs : List D) (x : D), xs.foldl (fun a y => if PySem.W.dataLt (encD a) (encD y) then y else a) x ∈ x :: xs := by
    intro xs
    induction xs with
    | nil => intro x; simp
    | cons y ys ih =>
      intro x
      rw [List.foldl_cons]
      have := ih (if PySem.W.dataLt (encD x) (encD y) = true then y else x)
      rcases List.mem_cons.mp this with h | h
      · rw [h]; split <;> simp
      · simp [h]
  exact fun xs => key xs x
theorem maxL_enc (x : D) : ∀ xs : List D, encD (maxL x xs) = PySem.W.maxD (encD x) (xs.map encD) := by
  have key : ∀ (xs : List D) (x : D), encD (xs.foldl (fun a y => if PySem.W.dataLt (encD a) (encD y) then y else a) x) = (xs.map encD).foldl (fun a y => if PySem.W.dataLt a y then y else a) (encD x) := by
    intro xs
    induction xs with
    | nil => intro x; rfl
    | cons y ys ih =>
      intro x
      rw [List.foldl_cons, List.map_cons, List.foldl_cons, ih]
      congr 1
      split <;> rfl
  exact fun xs => key xs x
mutual
theorem pyD_inj : ∀ (a b : D) (p : PyData), pyD a = some p → pyD b = some p → a = b
  | .non, b, p, h, g => by cases b <;> simp [pyD] at h g <;> subst h <;> first | rfl | (simp at g; done) | (split at g <;> simp at g)
  | .bl x, b, p, h, g => by cases b <;> simp [pyD] at h g <;> subst h <;> first | (simp at g; done) | (simp at g; subst g; rfl) | (split at g <;> simp at g)
  | .int x, b, p, h, g => by cases b <;> simp [pyD] at h g <;> subst h <;> first | (simp at g; done) | (simp at g; subst g; rfl) | (split at g <;> simp at g)
  | .str x, b, p, h, g => by cases b <;> simp [pyD] at h g <;> subst h <;> first | (simp at g; done) | (simp at g; subst g; rfl) | (split at g <;> simp at g)
  | .tup xs, b, p, h, g => by
    rw [pyD] at h
    split at h
    · rename_i ds hd
      cases h
      cases b with
      | tup ys =>
        rw [pyD] at g
        split at g
        · rename_i es he
          simp only [Option.some.injEq, PyData.tuple.injEq] at g
          subst g
          rw [pyDs_inj xs ys _ hd he]
        · cases g
      | _ => simp [pyD] at g
    · cases h
  | .rl xs, b, p, h, g => by simp [pyD] at h
  | .ref n, b, p, h, g => by simp [pyD] at h
  | .gl z, b, p, h, g => by simp [pyD] at h
theorem pyDs_inj : ∀ (a b : List D) (p : List PyData), pyDs a = some p → pyDs b = some p → a = b
  | [], [], _, _, _ => rfl
  | [], y :: ys, p, h, g => by
    rw [pyDs] at h; cases h
    rw [pyDs] at g
    split at g <;> simp at g
  | x :: xs, [], p, h, g => by
    rw [pyDs] at g; cases g
    rw [pyDs] at h
    split at h <;> simp at h
  | x :: xs, y :: ys, p, h, g => by
    rw [pyDs] at h g
    split at h
    · rename_i d1 e1 h1 h2
      cases h
      split at g
      · rename_i d2 e2 g1 g2
        simp only [Option.some.injEq, List.cons.injEq] at g
        obtain ⟨rfl, rfl⟩ := g
        rw [pyD_inj x y _ h1 g1, pyDs_inj xs ys _ h2 g2]
      · cases g
    · cases h
end
theorem encD_inj {a b : D} (ha : (pyD a).isSome = true) (hb : (pyD b).isSome = true) (h : encD a = encD b) : a = b := by
  unfold encD at h
  cases e1 : pyD a with
  | none => rw [e1] at ha; cases ha
  | some p => cases e2 : pyD b with
    | none => rw [e2] at hb; cases hb
    | some q =>
      rw [e1, e2] at h
      simp at h
      subst h
      exact pyD_inj a b _ e1 e2
theorem dpAll_of {H m} : ∀ {xs : List D} {vs : List V}, Rps K H m xs vs → (∀ x ∈ xs, (pyD x).isSome = true) → DpAll K.f H vs (xs.map encD)
  | [], vs, h, _ => by rw [Rps] at h; subst h; exact .nil
  | x :: xs, vs, h, hs => by
    rw [Rps] at h
    obtain ⟨w, r, rfl, h1, h2⟩ := h
    exact .cons (encD_ok h1 (hs x (by simp))) (dpAll_of h2 fun y hy => hs y (by simp [hy]))
theorem maxDF_ok : FOkN K maxDF (rMaxD K.f) := by
  intro xs S d S' e H m vs Q hS hv q
  unfold maxDF at e
  split at e
  · rename_i n
    split at e
    · rename_i x ys h1
      split at e
      · rename_i hc
        cases e
        unfold maxOk at hc
        simp only [Bool.and_eq_true, List.all_eq_true, decide_eq_true_eq] at hc
        obtain ⟨⟨h2, h3⟩, h4⟩ := hc
        obtain ⟨v, rfl, hv1⟩ := hv.one_iff
        rw [Rp] at hv1
        obtain ⟨a, ha, rfl⟩ := hv1
        obtain ⟨a', ws, m1, k1, r1⟩ := hS.lst h1
        rw [ha] at m1; cases m1
        have dall := dpAll_of r1 fun z hz => (h2 z hz).1
        refine ⟨a, ws, encD x, ys.map encD, rfl, SqL.of k1, dall, ⟨fun p hp p' hp' => ?_, fun p hp => ?_⟩, h4, fun i v e hi he hm => ?_⟩
        · rw [← List.map_cons] at hp hp'
          obtain ⟨z, hz, rfl⟩ := List.mem_map.mp hp
          obtain ⟨z', hz', rfl⟩ := List.mem_map.mp hp'
          exact h3 z hz z' hz'
        · rw [← List.map_cons] at hp
          obtain ⟨z, hz, rfl⟩ := List.mem_map.mp hp
          exact nnP_ne (h2 z hz).2
        · obtain ⟨z, hz, rz⟩ := r1.getV hi
          rw [← List.map_cons, List.getElem?_map, hz] at he
          cases he
          have hzm := List.mem_of_getElem? hz
          have : z = maxL x ys := encD_inj (h2 z hzm).1 (h2 _ (maxL_mem x ys)).1 (by rw [hm, maxL_enc])
          subst this
          exact q v H m .refl hS rz
      · cases e
    · cases e
  · cases e
end
end Ml
/-! Ml31: the pieces of code for Ml30. -/
namespace Ml
open L2 PyProof.Rows PySem PySem.Spec
variable {tb : List NdefX.NTab} {X : Cx} {a e : Expr} {es : List Expr} {kws : List Keyword} {pos p p2 p3 p4 : Pos} {ea : EvM} {ra rk : AvM} {x y z : Str}
abbrev dLt (d e : PyData) : Bool := PySem.W.dataLt d e
abbrev dGt (d e : PyData) : Bool := PySem.W.dataLt e d
abbrev dLe (d e : PyData) : Bool := !PySem.W.dataLt e d
abbrev dGe (d e : PyData) : Bool := !PySem.W.dataLt d e
/-- f(a, .., k=v, ..), f a builtin -/
def appKM (F : List D → List D → Sto → Option (D × Sto)) (ra rk : AvM) : EvM := fun γ S => match ra γ S with
  | some (xs, S1) => match rk γ S1 with
    | some (zs, S2) => F xs zs S2
    | none => none
  | none => none
theorem me_callBK {id : String} {ks : List Str} {r : List V → List V → Hp → VK → Prop} {F : List D → List D → Sto → Option (D × Sto)} (hc : CallRK X (.builtin id) ks r) (hF : FOkNK (kx tb X) F r) (hg : Gl X x) (hm : X.mg x = none) (hv : bootBuiltins x = some (.builtin id)) (ha : MA tb X (e :: es) ra) (hk : MK tb X kws rk) (hn : x ≠ "__name__" := by decide) (hdb : (x == ("__debug__" : Str)) = false := by decide)
    (hbt : backTo pos (starEach (e :: es) X.env) = (false, eval e X.env) :: backTo pos (starEach es X.env) := by rfl) (hpl : (backTo pos (starEach (e :: es) X.env)).any (·.1) = false := by rfl)
    (hsm : (backToKw pos (keywordEach kws X.env)).all (·.1.isSome) = true := by rfl) (hnone : (backToKw pos (keywordEach kws X.env)).any (·.1.isNone) = false := by rfl) (hks : (backToKw pos (keywordEach kws X.env)).filterMap (·.1) = ks := by rfl) :
    ME tb X (.Call (.Name x p) (e :: es) kws pos) (appKM F ra rk) := PE.imp (pe_callBK hc hg hm hv ha hk hn hdb hbt hpl hsm hnone hks) fun σ H Q h => by
  obtain ⟨m, S, γ, d, S', hS, hγ, e1, q⟩ := h
  unfold appKM at e1
  split at e1
  · rename_i xs S1 h1
    split at e1
    · rename_i zs S2 h2
      refine ⟨m, S, γ, xs, S1, hS, hγ, h1, fun vs H1 m1 x1 hS1 hv => ?_⟩
      refine ⟨m1, S1, γ, zs, S2, hS1, hγ.mono x1, h2, fun us H2 m2 x2 hS2 hz => ?_⟩
      exact hF xs zs S2 d S' e1 H2 m2 vs us Q hS2 (hv.mono x2) hz fun w H3 m3 x3 => q w H3 m3 ((x1.trans x2).trans x3)
    · cases e1
  · cases e1
/-- isinstance(a, (T1, T2)) -/
def kit2 (t T1 T2 : String) : Option Bool := match kitB t T1 with
  | some true => some true
  | some false => kitB t T2
  | none => none
def isi2M (T1 T2 : String) (ea : EvM) : EvM := fun γ S => match ea γ S with
  | none => none
  | some (d, S') => match tyN S' d with
    | some t => match kit2 t T1 T2 with
      | some b => some (.bl b, S')
      | none => none
    | none => none
theorem kit2_any {K : PySem.W.Frag} {t T1 T2 : String} {b : Bool} (h : kit2 t T1 T2 = some b) : PySem.W.kitAny K (.type t) [.type T1, .type T2] = some b := by
  unfold kit2 at h
  unfold PySem.W.kitAny
  cases h1 : kitB t T1 with
  | none => rw [h1] at h; exact nomatch h
  | some c =>
    rw [h1] at h
    rw [kit_ty h1]
    cases c with
    | true => cases h; rfl
    | false =>
      unfold PySem.W.kitAny
      rw [kit_ty h]
      cases b <;> rfl
theorem me_isi2 {T1 T2 : String} {jx : Nat} (hg : Gl X x) (hm : X.mg x = none) (hv : bootBuiltins x = some (.builtin "isinstance")) (ha : ME tb X a ea) (ht1 : PE X (.Name y p2) (tC (.ty T1))) (ht2 : PE X (.Name z p3) (tC (.ty T2))) (hn : x ≠ "__name__" := by decide) (hdb : (x == ("__debug__" : Str)) = false := by decide)
    (hs : starEach [a, .Tuple [.Name y p2, .Name z p3] jx p4] X.env = (false, eval a X.env) :: starEach [.Tuple [.Name y p2, .Name z p3] jx p4] X.env := by rfl) (hpl : (backTo pos (starEach [.Tuple [.Name y p2, .Name z p3] jx p4] X.env)).any (·.1) = false := by rfl)
    (hs2 : starEach [.Tuple [.Name y p2, .Name z p3] jx p4] X.env = (false, eval (.Tuple [.Name y p2, .Name z p3] jx p4) X.env) :: starEach [] X.env := by rfl)
    (hs3 : starEach [.Name y p2, .Name z p3] X.env = (false, eval (.Name y p2) X.env) :: starEach [.Name z p3] X.env := by rfl) (hs4 : starEach [.Name z p3] X.env = (false, eval (.Name z p3) X.env) :: starEach [] X.env := by rfl) :
    ME tb X (.Call (.Name x p) [a, .Tuple [.Name y p2, .Name z p3] jx p4] [] pos) (isi2M T1 T2 ea) := by
  refine PE.imp (pe_callB call_isiT hg hm hv (pa_cons ha (pa_cons (pe_tup (pa_cons ht1 (pa_cons ht2 pa_nil hs4) hs3)) pa_nil hs2) hs) hn hdb hs hpl) fun σ H Q h => ?_
  obtain ⟨m, S, γ, d, S', hS, hγ, e1, q⟩ := h
  unfold isi2M at e1
  split at e1
  · cases e1
  · rename_i d' S1 h1
    split at e1
    · rename_i t h2
      split at e1
      · rename_i b h3
        cases e1
        refine ⟨m, S, γ, d', _, hS, hγ, h1, fun w H1 m1 x1 hS1 hw => ?_⟩
        refine ⟨by simp [sizeLine], fun q' hq' => ?_⟩
        have x2 : Ext (kx tb X) H1 m1 (upd H1 q' (.tup [.ty T1, .ty T2])) m1 := .new hq'
        exact ⟨w, q', _, .type t, [.type T1, .type T2], b, rfl, upd_same, .cons (.ty T1) (.cons (.ty T2) .nil), tyN_ok (hS1.new hq') (hw.mono x2) h2, kit2_any h3, q _ _ m1 (x1.trans x2) (hS1.new hq') (by rw [Rp])⟩
      · cases e1
    · cases e1
/-- a = b = c = e -/
def asg3M (ea : EvM) (g1 g2 g3 : TvM) : SvM := fun γ S => match ea γ S with
  | none => none
  | some (d, S1) => match g1 d γ S1 with
    | none => none
    | some (γ1, S2) => match g2 d γ1 S2 with
      | none => none
      | some (γ2, S3) => match g3 d γ2 S3 with
        | none => none
        | some (γ3, S4) => some (.nx, γ3, S4)
theorem ms_asg3 {t1 t2 t3 : Expr} {g1 g2 g3 : TvM} (he : ME tb X e ea) (h1 : MG tb X t1 g1) (h2 : MG tb X t2 g2) (h3 : MG tb X t3 g3)
    (has : (assignEach [t1, t2, t3] X.env).map (·.2) = [assign t1 X.env, assign t2 X.env, assign t3 X.env] := by rfl) (hw : swappedStores [t1, t2, t3] e X.env = pure none := by rfl) :
    MS tb X (.Assign [t1, t2, t3] e pos) (asg3M ea g1 g2 g3) := PS.imp (ps_asg3 he h1 h2 h3 has hw) fun Dn σ H h => by
  obtain ⟨m, S, γ, f, γ', S', hS, hγ, e, q⟩ := h
  unfold asg3M at e
  split at e
  · cases e
  · rename_i d S1 k1
    split at e
    · cases e
    · rename_i γ1 S2 k2
      split at e
      · cases e
      · rename_i γ2 S3 k3
        split at e
        · cases e
        · rename_i γ3 S4 k4
          cases e
          refine ⟨m, S, γ, d, S1, hS, hγ, k1, fun w H1 m1 x1 hS1 hw => ?_⟩
          refine ⟨m1, S1, γ, d, _, _, hS1, hγ.mono x1, hw, k2, fun σ2 H2 m2 x2 hS2 hγ2 => ?_⟩
          refine ⟨m2, S2, _, d, _, _, hS2, hγ2, hw.mono x2, k3, fun σ3 H3 m3 x3 hS3 hγ3 => ?_⟩
          exact ⟨m3, S3, _, d, _, _, hS3, hγ3, (hw.mono x2).mono x3, k4, fun σ4 H4 m4 x4 => q σ4 H4 m4 (((x1.trans x2).trans x3).trans x4)⟩
/-- list(range(a)) -/
def lrngM (ea : EvM) : EvM := fun γ S => match ea γ S with
  | some (.int j, S') => if 0 ≤ j ∧ j ≤ 1000000 then some (.ref S'.length, S' ++ [.lst (rngD 0 j.toNat)]) else none
  | _ => none
theorem rps_rng {K : Kx} {H : Hp} {m : List Addr} (lo : Int) (n : Nat) : Rps K H m (rngD lo n) ((List.range n).map fun i => V.int (lo + (i : Nat))) := by
  unfold rngD
  generalize List.range n = l
  induction l with
  | nil => exact Rps.nil
  | cons i l ih => exact Rps.cons (by rw [Rp]) ih
theorem me_lrng (hc : X.calm = true) (hg : Gl X "list") (hm : X.mg "list" = none) (hg2 : Gl X "range") (hm2 : X.mg "range" = none) (ha : ME tb X a ea) (na : starEach [a] X.env = (false, eval a X.env) :: starEach [] X.env := by rfl)
    (na2 : starEach [.Call (.Name "range" p2) [a] [] p3] X.env = (false, eval (.Call (.Name "range" p2) [a] [] p3) X.env) :: starEach [] X.env := by rfl) :
    ME tb X (.Call (.Name "list" p) [.Call (.Name "range" p2) [a] [] p3] [] pos) (lrngM ea) := PE.imp (pe_listRg hc hg hm (prg_1 hg2 hm2 ha na) na2) fun σ H Q h => by
  obtain ⟨m, S, γ, d, S', hS, hγ, e1, q⟩ := h
  unfold lrngM at e1
  split at e1
  · rename_i j S1 h1
    split at e1
    · rename_i hj
      cases e1
      refine ⟨m, S, γ, _, _, hS, hγ, h1, fun w H1 m1 x1 hS1 hw => ?_⟩
      rw [Rp] at hw
      refine ⟨j, hw, ⟨by omega, by omega, by omega, by omega, by omega⟩, fun q' hq' => ?_⟩
      refine fin_lst hS1 (xs := rngD 0 j.toNat) (vs := rgV 0 j) ?_ (fun w' H' m' x' => q w' H' m' (x1.trans x')) q' hq'
      have := rps_rng (K := kx tb X) (H := H1) (m := m1) 0 j.toNat
      unfold rgV
      rw [Int.sub_zero]
      exact this
    · cases e1
  · cases e1
end Ml
/-! Mw: what must hold for a piece to compute a value with a wanted property; one rule for each piece. -/
namespace Ml
open L2 PyProof.Rows PySem PySem.Spec
structure wE (e : EvM) (γ : Sl) (S : Sto) (Q : D → Sto → Prop) : Prop where
  ex : ∃ d S', e γ S = some (d, S') ∧ Q d S'
structure wC (c : CvM) (γ : Sl) (S : Sto) (Q : Bool → Sto → Prop) : Prop where
  ex : ∃ d S', c γ S = some (d, S') ∧ Q d S'
structure wA (r : AvM) (γ : Sl) (S : Sto) (Q : List D → Sto → Prop) : Prop where
  ex : ∃ d S', r γ S = some (d, S') ∧ Q d S'
structure wO (r : OvM) (γ : Sl) (S : Sto) (Q : Option Int → Sto → Prop) : Prop where
  ex : ∃ d S', r γ S = some (d, S') ∧ Q d S'
structure wI (r : IvM) (γ : Sl) (S : Sto) (Q : Option (Nat × O) → List D → Sto → Prop) : Prop where
  ex : ∃ ck xs S', r γ S = some (ck, xs, S') ∧ Q ck xs S'
structure wG (g : TvM) (d : D) (γ : Sl) (S : Sto) (Q : Sl → Sto → Prop) : Prop where
  ex : ∃ γ' S', g d γ S = some (γ', S') ∧ Q γ' S'
structure wGs (g : List D → Sl → Sto → Option (Sl × Sto)) (d : List D) (γ : Sl) (S : Sto) (Q : Sl → Sto → Prop) : Prop where
  ex : ∃ γ' S', g d γ S = some (γ', S') ∧ Q γ' S'
structure wS (s : SvM) (γ : Sl) (S : Sto) (Q : Fl → Sl → Sto → Prop) : Prop where
  ex : ∃ f γ' S', s γ S = some (f, γ', S') ∧ Q f γ' S'
structure w1 (F : List D → Sto → Option (D × Sto)) (xs : List D) (S : Sto) (Q : D → Sto → Prop) : Prop where
  ex : ∃ d S', F xs S = some (d, S') ∧ Q d S'
structure w2 (F : D → D → Sto → Option (D × Sto)) (x y : D) (S : Sto) (Q : D → Sto → Prop) : Prop where
  ex : ∃ d S', F x y S = some (d, S') ∧ Q d S'
structure wM (F : D → List D → Sto → Option (D × Sto)) (x : D) (xs : List D) (S : Sto) (Q : D → Sto → Prop) : Prop where
  ex : ∃ d S', F x xs S = some (d, S') ∧ Q d S'
structure wFor (ck : Option (Nat × O)) (g : TvM) (b : SvM) (xs : List D) (γ : Sl) (S : Sto) (Q : Fl → Sl → Sto → Prop) : Prop where
  ex : ∃ f γ' S', forI ck g b xs γ S = some (f, γ', S') ∧ Q f γ' S'
structure wWh (c : CvM) (b : SvM) (n : Nat) (γ : Sl) (S : Sto) (Q : Fl → Sl → Sto → Prop) : Prop where
  ex : ∃ f γ' S', whileN c b n γ S = some (f, γ', S') ∧ Q f γ' S'
structure wK (ck : Option (Nat × O)) (tgt : Tgt) (t : CvM) (e : EvM) (γ : Sl) (n : Nat) (xs : List D) (S : Sto) (Q : Sto → Prop) : Prop where
  ex : ∃ S', compI ck tgt t e γ n xs S = some S' ∧ Q S'
structure wK2 (ck : Option (Nat × O)) (tgt : Tgt) (t : CvM) (iv1 : IvM) (tgt1 : Tgt) (t1 : CvM) (e : EvM) (γ : Sl) (vs1 : List Nat) (n : Nat) (xs : List D) (S : Sto) (Q : Sto → Prop) : Prop where
  ex : ∃ S', comp2I ck tgt t iv1 tgt1 t1 e γ vs1 n xs S = some S' ∧ Q S'
/-- a value of one form, and what is wanted then -/
structure isBl (d : D) (Q : Bool → Prop) : Prop where
  ex : ∃ b, d = .bl b ∧ Q b
structure isInt (d : D) (Q : Int → Prop) : Prop where
  ex : ∃ b, d = .int b ∧ Q b
structure isStr (d : D) (Q : Str → Prop) : Prop where
  ex : ∃ b, d = .str b ∧ Q b
structure isTup (d : D) (Q : List D → Prop) : Prop where
  ex : ∃ b, d = .tup b ∧ Q b
structure isRef (d : D) (Q : Nat → Prop) : Prop where
  ex : ∃ b, d = .ref b ∧ Q b
structure iff2 (b : Bool) (P Q : Prop) : Prop where
  ex : (b = true → P) ∧ (b = false → Q)
/-- a test's truth -/
structure tru (S : Sto) (d : D) (Q : Bool → Prop) : Prop where
  ex : ∃ b, truB S d = some b ∧ Q b
structure sq (d : D) (S : Sto) (Q : Option (Nat × O) → List D → Sto → Prop) : Prop where
  ex : (∃ xs, d = .tup xs ∧ Q none xs S) ∨ ∃ (n : Nat) (xs : List D), d = .ref n ∧ S[n]? = some (.lst xs) ∧ Q (some (n, .lst xs)) xs S
section
variable {γ : Sl} {S : Sto} {e ea eb ec : EvM} {c c1 c2 : CvM} {r ra rk : AvM} {Q : D → Sto → Prop} {d x y : D}
theorem wE.mono {Q' : D → Sto → Prop} (h : wE e γ S Q) (i : ∀ d S, Q d S → Q' d S) : wE e γ S Q' := let ⟨d, S', a, b⟩ := h; ⟨d, S', a, i _ _ b⟩
theorem w1.mono {F} {xs : List D} {Q' : D → Sto → Prop} (h : w1 F xs S Q) (i : ∀ d S, Q d S → Q' d S) : w1 F xs S Q' := let ⟨d, S', a, b⟩ := h; ⟨d, S', a, i _ _ b⟩
theorem bl_i {b} {Q : Bool → Prop} (h : Q b) : isBl (.bl b) Q := ⟨b, rfl, h⟩
theorem int_i {b} {Q : Int → Prop} (h : Q b) : isInt (.int b) Q := ⟨b, rfl, h⟩
theorem str_i {b} {Q : Str → Prop} (h : Q b) : isStr (.str b) Q := ⟨b, rfl, h⟩
theorem tup_i {b} {Q : List D → Prop} (h : Q b) : isTup (.tup b) Q := ⟨b, rfl, h⟩
theorem ref_i {b} {Q : Nat → Prop} (h : Q b) : isRef (.ref b) Q := ⟨b, rfl, h⟩
theorem iff_t {P Q : Prop} (h : P) : iff2 true P Q := ⟨fun _ => h, fun z => by cases z⟩
theorem iff_f {P Q : Prop} (h : Q) : iff2 false P Q := ⟨fun z => (by cases z), fun _ => h⟩
theorem iff_d {p : Prop} [Decidable p] {P Q : Prop} (h : p → P) (h' : ¬ p → Q) : iff2 (decide p) P Q := ⟨fun z => h (of_decide_eq_true z), fun z => h' (of_decide_eq_false z)⟩
theorem iff_b {b : Bool} {P Q : Prop} (h : b = true → P) (h' : b = false → Q) : iff2 b P Q := ⟨h, h'⟩
theorem iff_n {b : Bool} {P Q : Prop} (h : iff2 b Q P) : iff2 (!b) P Q := by cases b; exact iff_t (h.ex.2 rfl); exact iff_f (h.ex.1 rfl)
theorem v_var {i : Nat} (h : γ[i]? = some (some d)) (q : Q d S) : wE (varM i) γ S Q := ⟨d, S, by unfold varM; rw [h], q⟩
theorem v_con (q : Q d S) : wE (conM d) γ S Q := ⟨d, S, rfl, q⟩
theorem v_bin {F} (h : wE ea γ S fun x S1 => wE eb γ S1 fun y S2 => w2 F x y S2 Q) : wE (binM F ea eb) γ S Q := by
  obtain ⟨x, S1, e1, y, S2, e2, d, S3, e3, q⟩ := h
  exact ⟨d, S3, by unfold binM; simp only [e1, e2, e3], q⟩
theorem v_app {F} (h : wA r γ S fun xs S1 => w1 F xs S1 Q) : wE (appM F r) γ S Q := by
  obtain ⟨x, S1, e1, d, S3, e3, q⟩ := h
  exact ⟨d, S3, by unfold appM; simp only [e1, e3], q⟩
theorem v_call {F n} (h : wA r γ S fun xs S1 => xs.length = n ∧ w1 F xs S1 Q) : wE (callM n F r) γ S Q := by
  obtain ⟨x, S1, e1, hn, d, S3, e3, q⟩ := h
  exact ⟨d, S3, by unfold callM; simp only [e1, if_pos hn, e3], q⟩
theorem v_tup (h : wA r γ S fun xs S1 => xs.length ≤ sizeLine ∧ Q (.tup xs) S1) : wE (tupM r) γ S Q := by
  obtain ⟨x, S1, e1, hn, q⟩ := h
  exact ⟨_, S1, by unfold tupM; simp only [e1, if_pos hn], q⟩
theorem v_lst (h : wA r γ S fun xs S1 => xs.length ≤ sizeLine ∧ Q (.ref S1.length) (S1 ++ [.lst xs])) : wE (lstM r) γ S Q := by
  obtain ⟨x, S1, e1, hn, q⟩ := h
  exact ⟨_, _, by unfold lstM; simp only [e1, if_pos hn], q⟩
theorem v_neg (h : wE e γ S fun d S1 => isInt d fun i => Q (.int (-i)) S1) : wE (negM e) γ S Q := by
  obtain ⟨x, S1, e1, i, rfl, q⟩ := h
  exact ⟨_, _, by unfold negM; simp only [e1], q⟩
theorem v_if (h : wC c γ S fun b S1 => iff2 b (wE ea γ S1 Q) (wE eb γ S1 Q)) : wE (ifM c ea eb) γ S Q := by
  obtain ⟨b, S1, e1, h1, h2⟩ := h
  cases b with
  | true => obtain ⟨d, S2, e2, q⟩ := h1 rfl; exact ⟨d, S2, by unfold ifM; simp only [e1, e2], q⟩
  | false => obtain ⟨d, S2, e2, q⟩ := h2 rfl; exact ⟨d, S2, by unfold ifM; simp only [e1, e2], q⟩
theorem v_and (h : wE ea γ S fun d S1 => isBl d fun b => iff2 b (wE eb γ S1 Q) (Q (.bl false) S1)) : wE (andV ea eb) γ S Q := by
  obtain ⟨b, S1, e1, b, rfl, h1, h2⟩ := h
  cases b with
  | true => obtain ⟨d, S2, e2, q⟩ := h1 rfl; exact ⟨d, S2, by unfold andV; simp only [e1, e2], q⟩
  | false => exact ⟨_, _, by unfold andV; simp only [e1], h2 rfl⟩
theorem v_or (h : wE ea γ S fun d S1 => isBl d fun b => iff2 b (Q (.bl true) S1) (wE eb γ S1 Q)) : wE (orV ea eb) γ S Q := by
  obtain ⟨b, S1, e1, b, rfl, h1, h2⟩ := h
  cases b with
  | false => obtain ⟨d, S2, e2, q⟩ := h2 rfl; exact ⟨d, S2, by unfold orV; simp only [e1, e2], q⟩
  | true => exact ⟨_, _, by unfold orV; simp only [e1], h1 rfl⟩
theorem v_not (h : wE ea γ S fun d S1 => isBl d fun b => Q (.bl (!b)) S1) : wE (notV ea) γ S Q := by
  obtain ⟨b, S1, e1, b, rfl, h1⟩ := h
  exact ⟨_, _, by unfold notV; simp only [e1], h1⟩
structure tyQ (T : String) (S : Sto) (d : D) (Q : Bool → Prop) : Prop where
  ex : ∃ t b, tyN S d = some t ∧ kitB t T = some b ∧ Q b
theorem v_isi {T} (h : wE ea γ S fun d S1 => tyQ T S1 d fun b => Q (.bl b) S1) : wE (isiM T ea) γ S Q := by
  obtain ⟨d, S1, e1, t, b, e2, e3, q⟩ := h
  exact ⟨_, _, by unfold isiM; simp only [e1, e2, e3], q⟩
theorem v_met {T F} {eo} (h : wE eo γ S fun x S1 => tyB T S1 x = true ∧ wA ra γ S1 fun xs S2 => wM F x xs S2 Q) : wE (metM T F eo ra) γ S Q := by
  obtain ⟨d, S1, e1, ht, xs, S2, e2, d2, S3, e3, q⟩ := h
  exact ⟨_, _, by unfold metM; simp only [e1, e2, e3, if_pos ht], q⟩
structure slQ (x : D) (lo hi : Option Int) (S : Sto) (Q : D → Sto → Prop) : Prop where
  ex : ∃ d S', slF x lo hi S = some (d, S') ∧ Q d S'
theorem v_sl {l h : OvM} (q : wE ea γ S fun x S1 => wO l γ S1 fun lo S2 => wO h γ S2 fun hi S3 => slQ x lo hi S3 Q) : wE (slM ea l h) γ S Q := by
  obtain ⟨d, S1, e1, lo, S2, e2, hi, S3, e3, d', S4, e4, q⟩ := q
  exact ⟨_, _, by unfold slM; simp only [e1, e2, e3, e4], q⟩
theorem sl_t {xs lo hi} (q : Q (.tup (cutX xs lo hi)) S) : slQ (.tup xs) lo hi S Q := ⟨_, _, rfl, q⟩
theorem sl_l {n xs lo hi} (h : S[n]? = some (.lst xs)) (q : Q (.ref S.length) (S ++ [.lst (cutX xs lo hi)])) : slQ (.ref n) lo hi S Q := ⟨_, _, by unfold slF; simp only [h], q⟩
theorem v_lrev (h : wE ea γ S fun d S1 => isRef d fun n => ∃ xs, S1[n]? = some (.lst xs) ∧ Q (.ref S1.length) (S1 ++ [.lst xs.reverse])) : wE (lrevM ea) γ S Q := by
  obtain ⟨d, S1, e1, n, rfl, xs, e2, q⟩ := h
  exact ⟨_, _, by unfold lrevM revM; simp only [e1, e2], q⟩
theorem v_revT (h : wE ea γ S fun d S1 => isTup d fun xs => Q (.tup xs.reverse) S1) : wE (revTM ea) γ S Q := by
  obtain ⟨d, S1, e1, xs, rfl, q⟩ := h
  exact ⟨_, _, by unfold revTM; simp only [e1], q⟩
theorem v_comp {iv tgt t vs} (h : wI iv γ S fun ck xs S1 => wK ck tgt t e (wipeD γ vs) S1.length xs (S1 ++ [.lst []]) fun S2 => Q (.ref S1.length) S2) : wE (compM iv tgt t e vs) γ S Q := by
  obtain ⟨ck, xs, S1, e1, S2, e2, q⟩ := h
  exact ⟨_, _, by unfold compM; simp only [e1, e2], q⟩
theorem v_comp2 {iv tgt t vs iv1 tgt1 t1 vs1} (h : wI iv γ S fun ck xs S1 => wK2 ck tgt t iv1 tgt1 t1 e (wipeD γ vs) vs1 S1.length xs (S1 ++ [.lst []]) fun S2 => Q (.ref S1.length) S2) : wE (comp2M iv tgt t iv1 tgt1 t1 e vs vs1) γ S Q := by
  obtain ⟨ck, xs, S1, e1, S2, e2, q⟩ := h
  exact ⟨_, _, by unfold comp2M; simp only [e1, e2], q⟩
theorem v_getOr {eo ee ef : EvM} (h : wE eo γ S fun d S1 => isRef d fun n => ∃ lk kvs, S1[n]? = some (.dn lk kvs) ∧ wE ee γ S1 fun k S2 => isTup k fun ks => wE ef γ S2 fun x S3 => ∃ lk' kvs' kk, S3[n]? = some (.dn lk' kvs') ∧ keyN ks = some kk ∧ Q ((lookN kvs' kk).getD x) S3) : wE (getOrM eo ee ef) γ S Q := by
  obtain ⟨d, S1, e1, n, rfl, lk, kvs, e2, k, S2, e3, ks, rfl, x, S3, e4, lk', kvs', kk, e5, e6, q⟩ := h
  exact ⟨_, _, by unfold getOrM; simp only [e1, e2, e3, e4, e5, e6], q⟩
theorem v_cget {tbl} {ee ef : EvM} (h : wE ee γ S fun d S1 => isStr d fun z => wE ef γ S1 fun x S2 => ∃ r, tbl.lookup z = some r ∧ Q (r.getD x) S2) : wE (cgetM tbl ee ef) γ S Q := by
  obtain ⟨d, S1, e1, z, rfl, x, S2, e2, r, e3, q⟩ := h
  exact ⟨_, _, by unfold cgetM; simp only [e1, e2, e3], q⟩
theorem v_newD (q : Q (.ref S.length) (S ++ [.dn false []])) : wE newD γ S Q := ⟨_, _, rfl, q⟩
/-- an item of a list told on the spot -/
theorem v_pick (h : wA r γ S fun xs S1 => xs.length ≤ sizeLine ∧ wE e γ (S1 ++ [.lst xs]) fun d S2 => isInt d fun i => S2[S1.length]? = some (.lst xs) ∧ ∃ x, atI xs i = some x ∧ Q x S2) : wE (binM ixF (lstM r) e) γ S Q := by
  obtain ⟨xs, S1, e1, hl, d, S2, e2, i, rfl, e3, x, e4, q⟩ := h
  exact ⟨_, _, by unfold binM lstM; simp only [e1, if_pos hl, e2]; unfold ixF; simp only [e3, e4], q⟩
theorem c_tst {Q : Bool → Sto → Prop} (h : wE e γ S fun d S1 => isBl d fun b => Q b S1) : wC (tstM e) γ S Q := by
  obtain ⟨d, S1, e1, b, rfl, q⟩ := h
  exact ⟨b, S1, by unfold tstM; simp only [e1], q⟩
theorem c_tru {Q : Bool → Sto → Prop} (h : wE e γ S fun d S1 => tru S1 d fun b => Q b S1) : wC (truC e) γ S Q := by
  obtain ⟨d, S1, e1, b, e2, q⟩ := h
  exact ⟨b, S1, by unfold truC; simp only [e1, e2], q⟩
theorem c_not {Q : Bool → Sto → Prop} (h : wC c γ S fun b S1 => Q (!b) S1) : wC (notC c) γ S Q := by
  obtain ⟨b, S1, e1, q⟩ := h
  exact ⟨_, S1, by unfold notC; simp only [e1], q⟩
theorem c_and {Q : Bool → Sto → Prop} (h : wC c1 γ S fun b S1 => iff2 b (wC c2 γ S1 Q) (Q false S1)) : wC (andC c1 c2) γ S Q := by
  obtain ⟨b, S1, e1, h1, h2⟩ := h
  cases b with
  | true => obtain ⟨d, S2, e2, q⟩ := h1 rfl; exact ⟨d, S2, by unfold andC; simp only [e1, e2], q⟩
  | false => exact ⟨_, _, by unfold andC; simp only [e1], h2 rfl⟩
theorem c_or {Q : Bool → Sto → Prop} (h : wC c1 γ S fun b S1 => iff2 b (Q true S1) (wC c2 γ S1 Q)) : wC (orC c1 c2) γ S Q := by
  obtain ⟨b, S1, e1, h1, h2⟩ := h
  cases b with
  | false => obtain ⟨d, S2, e2, q⟩ := h2 rfl; exact ⟨d, S2, by unfold orC; simp only [e1, e2], q⟩
  | true => exact ⟨_, _, by unfold orC; simp only [e1], h1 rfl⟩
theorem c_yes {Q : Bool → Sto → Prop} (q : Q true S) : wC yesC γ S Q := ⟨_, _, rfl, q⟩
theorem tru_bl {b} {Q : Bool → Prop} (q : Q b) : tru S (.bl b) Q := ⟨_, rfl, q⟩
theorem tru_tup {xs} {Q : Bool → Prop} (q : Q (!xs.isEmpty)) : tru S (.tup xs) Q := ⟨_, rfl, q⟩
theorem tru_lst {n xs} {Q : Bool → Prop} (h : S[n]? = some (.lst xs)) (q : Q (!xs.isEmpty)) : tru S (.ref n) Q := ⟨_, by unfold truB; simp only [h], q⟩
theorem a_nil {Q : List D → Sto → Prop} (q : Q [] S) : wA nilA γ S Q := ⟨_, _, rfl, q⟩
theorem a_cons {Q : List D → Sto → Prop} (h : wE e γ S fun x S1 => wA r γ S1 fun xs S2 => Q (x :: xs) S2) : wA (consA e r) γ S Q := by
  obtain ⟨x, S1, e1, xs, S2, e2, q⟩ := h
  exact ⟨_, _, by unfold consA; simp only [e1, e2], q⟩
theorem o_no {Q : Option Int → Sto → Prop} (q : Q none S) : wO noM γ S Q := ⟨_, _, rfl, q⟩
theorem o_part {Q : Option Int → Sto → Prop} (h : wE e γ S fun d S1 => isInt d fun i => Q (some i) S1) : wO (partM e) γ S Q := by
  obtain ⟨x, S1, e1, i, rfl, q⟩ := h
  exact ⟨_, _, by unfold partM; simp only [e1], q⟩
theorem i_seq {Q : Option (Nat × O) → List D → Sto → Prop} (h : wE e γ S fun d S1 => sq d S1 Q) : wI (seqI e) γ S Q := by
  obtain ⟨d, S1, e1, ⟨⟨xs, rfl, q⟩ | ⟨n, xs, rfl, e2, q⟩⟩⟩ := h
  · exact ⟨_, _, S1, by unfold seqI; simp only [e1], q⟩
  · exact ⟨_, _, S1, by unfold seqI; simp only [e1, e2], q⟩
theorem sq_tup {xs} {Q : Option (Nat × O) → List D → Sto → Prop} (q : Q none xs S) : sq (.tup xs) S Q := ⟨.inl ⟨xs, rfl, q⟩⟩
theorem sq_lst {n xs} {Q : Option (Nat × O) → List D → Sto → Prop} (h : S[n]? = some (.lst xs)) (q : Q (some (n, .lst xs)) xs S) : sq (.ref n) S Q := ⟨.inr ⟨n, xs, rfl, h, q⟩⟩
structure one1 (xs : List D) (Q : Int → Prop) : Prop where
  ex : ∃ i, xs = [.int i] ∧ Q i
theorem one_i {i} {Q : Int → Prop} (q : Q i) : one1 [.int i] Q := ⟨_, rfl, q⟩
theorem i_rng1 {Q : Option (Nat × O) → List D → Sto → Prop} (h : wA r γ S fun xs S1 => one1 xs fun j => (-(2 ^ 62) ≤ j ∧ j < 2 ^ 62) ∧ Q none (rngD 0 j.toNat) S1) : wI (rng1I r) γ S Q := by
  obtain ⟨xs, S1, e1, j, rfl, hj, q⟩ := h
  exact ⟨_, _, S1, by unfold rng1I; simp only [e1, if_pos hj], q⟩
theorem i_rngD {Q : Option (Nat × O) → List D → Sto → Prop} (h : wA r γ S fun xs S1 => ∃ i j, xs = [.int i, .int j, .int (-1)] ∧ (-(2 ^ 62) ≤ i ∧ i < 2 ^ 62 ∧ -(2 ^ 62) ≤ j ∧ j < 2 ^ 62) ∧ Q none (rngDown i (i - j).toNat) S1) : wI (rngDI r) γ S Q := by
  obtain ⟨xs, S1, e1, i, j, rfl, hj, q⟩ := h
  exact ⟨_, _, S1, by unfold rngDI; simp only [e1, true_and, if_pos hj], q⟩
theorem i_keys {Q : Option (Nat × O) → List D → Sto → Prop} (h : wE e γ S fun d S1 => isRef d fun n => ∃ kvs, S1[n]? = some (.dn true kvs) ∧ Q (some (n, .dn true kvs)) (kvs.map (·.1)) S1) : wI (keysI e) γ S Q := by
  obtain ⟨d, S1, e1, n, rfl, kvs, e2, q⟩ := h
  exact ⟨_, _, S1, by unfold keysI; simp only [e1, e2], q⟩
theorem g_name {i} {Q : Sl → Sto → Prop} (q : Q (γ.set i (some d)) S) : wG (nameG i) d γ S Q := ⟨_, _, rfl, q⟩
theorem g_tup {n g} {xs : List D} {Q : Sl → Sto → Prop} (h : xs.length = n) (q : wGs g xs γ S Q) : wG (tupG n g) (.tup xs) γ S Q := by
  obtain ⟨γ', S', e1, q⟩ := q
  exact ⟨_, _, by unfold tupG; simp only [if_pos h, e1], q⟩
theorem gs_nil {Q : Sl → Sto → Prop} (q : Q γ S) : wGs nilG [] γ S Q := ⟨_, _, rfl, q⟩
theorem gs_cons {g gr} {xs : List D} {Q : Sl → Sto → Prop} (q : wG g d γ S fun γ' S' => wGs gr xs γ' S' Q) : wGs (consG g gr) (d :: xs) γ S Q := by
  obtain ⟨γ', S', e1, γ2, S2, e2, q⟩ := q
  exact ⟨_, _, by unfold consG; simp only [e1, e2], q⟩
theorem g_subL {eo ei : EvM} {Q : Sl → Sto → Prop} (h : wE eo γ S fun x S1 => isRef x fun n => wE ei γ S1 fun y S2 => isInt y fun k => ∃ xs, S2[n]? = some (.lst xs) ∧ ∃ j, ixN xs.length k = some j ∧ Q γ (S2.set n (.lst (xs.set j d)))) : wG (subL eo ei) d γ S Q := by
  obtain ⟨x, S1, e1, n, rfl, y, S2, e2, k, rfl, xs, e3, j, e4, q⟩ := h
  exact ⟨_, _, by unfold subL; simp only [e1, e2, e3, e4], q⟩
theorem g_subD {eo ei : EvM} {Q : Sl → Sto → Prop} (h : wE eo γ S fun x S1 => isRef x fun n => wE ei γ S1 fun y S2 => isTup y fun ks => ∃ kvs, S2[n]? = some (.dn false kvs) ∧ ∃ k, keyN ks = some k ∧ kvs.length < sizeLine ∧ Q γ (S2.set n (.dn false (setN kvs (.tup ks) k d)))) : wG (subD eo ei) d γ S Q := by
  obtain ⟨x, S1, e1, n, rfl, y, S2, e2, ks, rfl, kvs, e3, k, e4, hl, q⟩ := h
  exact ⟨_, _, by unfold subD; simp only [e1, e2, e3, e4, if_pos hl], q⟩
end
section
variable {γ : Sl} {S : Sto} {e ea eb ec : EvM} {c : CvM} {s t b : SvM} {Q : Fl → Sl → Sto → Prop} {d x y : D}
inductive thenQ (t : SvM) (Q : Fl → Sl → Sto → Prop) : Fl → Sl → Sto → Prop
  | nx {γ1 : Sl} {S1 : Sto} (h : wS t γ1 S1 Q) : thenQ t Q .nx γ1 S1
  | rt {d1 : D} {γ1 : Sl} {S1 : Sto} (h : Q (.rt d1) γ1 S1) : thenQ t Q (.rt d1) γ1 S1
  | bk {γ1 : Sl} {S1 : Sto} (h : Q .bk γ1 S1) : thenQ t Q .bk γ1 S1
  | ct {γ1 : Sl} {S1 : Sto} (h : Q .ct γ1 S1) : thenQ t Q .ct γ1 S1
theorem wS.mono {Q' : Fl → Sl → Sto → Prop} (h : wS s γ S Q) (i : ∀ f γ S, Q f γ S → Q' f γ S) : wS s γ S Q' := let ⟨f, γ', S', a, b⟩ := h; ⟨f, γ', S', a, i _ _ _ b⟩
theorem th_nx (h : wS t γ S Q) : thenQ t Q .nx γ S := .nx h
theorem th_rt (h : Q (.rt d) γ S) : thenQ t Q (.rt d) γ S := .rt h
theorem th_bk (h : Q .bk γ S) : thenQ t Q .bk γ S := .bk h
theorem th_ct (h : Q .ct γ S) : thenQ t Q .ct γ S := .ct h
theorem s_seq (h : wS s γ S (thenQ t Q)) : wS (seqM s t) γ S Q := by
  obtain ⟨f, γ', S', e1, q⟩ := h
  cases f with
  | nx => cases q with | nx q => obtain ⟨f, γ2, S2, e2, q⟩ := q; exact ⟨f, γ2, S2, by unfold seqM; simp only [e1, e2], q⟩
  | rt d => cases q with | rt q => exact ⟨_, _, _, by unfold seqM; simp only [e1], q⟩
  | bk => cases q with | bk q => exact ⟨_, _, _, by unfold seqM; simp only [e1], q⟩
  | ct => cases q with | ct q => exact ⟨_, _, _, by unfold seqM; simp only [e1], q⟩
theorem s_nx (q : Q .nx γ S) : wS nxM γ S Q := ⟨_, _, _, rfl, q⟩
theorem s_bk (q : Q .bk γ S) : wS bkM γ S Q := ⟨_, _, _, rfl, q⟩
theorem s_ct (q : Q .ct γ S) : wS ctM γ S Q := ⟨_, _, _, rfl, q⟩
theorem s_rtN (q : Q (.rt .non) γ S) : wS rtN γ S Q := ⟨_, _, _, rfl, q⟩
theorem s_ex (h : wE e γ S fun _ S1 => Q .nx γ S1) : wS (exM e) γ S Q := by
  obtain ⟨d, S1, e1, q⟩ := h
  exact ⟨_, _, _, by unfold exM; simp only [e1], q⟩
theorem s_rt (h : wE e γ S fun d S1 => Q (.rt d) γ S1) : wS (rtM e) γ S Q := by
  obtain ⟨d, S1, e1, q⟩ := h
  exact ⟨_, _, _, by unfold rtM; simp only [e1], q⟩
theorem s_if (h : wC c γ S fun b S1 => iff2 b (wS s γ S1 Q) (wS t γ S1 Q)) : wS (ifS c s t) γ S Q := by
  obtain ⟨b, S1, e1, h1, h2⟩ := h
  cases b with
  | true => obtain ⟨f, γ2, S2, e2, q⟩ := h1 rfl; exact ⟨f, γ2, S2, by unfold ifS; simp only [e1, e2], q⟩
  | false => obtain ⟨f, γ2, S2, e2, q⟩ := h2 rfl; exact ⟨f, γ2, S2, by unfold ifS; simp only [e1, e2], q⟩
theorem s_asg {g} (h : wE ea γ S fun d S1 => wG g d γ S1 fun γ' S2 => Q .nx γ' S2) : wS (asgM ea g) γ S Q := by
  obtain ⟨d, S1, e1, γ', S2, e2, q⟩ := h
  exact ⟨_, _, _, by unfold asgM; simp only [e1, e2], q⟩
theorem s_aug {i F} (hx : γ[i]? = some (some x)) (h : wE ea γ S fun y S1 => w2 F x y S1 fun d S2 => Q .nx (γ.set i (some d)) S2) : wS (augM i F ea) γ S Q := by
  obtain ⟨y, S1, e1, d, S2, e2, q⟩ := h
  exact ⟨_, _, _, by unfold augM; simp only [hx, e1, e2], q⟩
theorem s_for {iv g} (h : wI iv γ S fun ck xs S1 => wFor ck g b xs γ S1 Q) : wS (forM iv g b) γ S Q := by
  obtain ⟨ck, xs, S1, e1, f, γ', S', e2, q⟩ := h
  exact ⟨_, _, _, by unfold forM; simp only [e1, e2], q⟩
theorem s_while (h : wWh c b turns γ S Q) : wS (whileM c b) γ S Q := let ⟨f, γ', S', e, q⟩ := h; ⟨f, γ', S', e, q⟩
/-- a for loop: what holds ahead of each turn, told by what is still to be walked -/
inductive turnQ (I : Sl → Sto → Prop) (Q : Fl → Sl → Sto → Prop) : Fl → Sl → Sto → Prop
  | nx {γ1 : Sl} {S1 : Sto} (h : I γ1 S1) : turnQ I Q .nx γ1 S1
  | ct {γ1 : Sl} {S1 : Sto} (h : I γ1 S1) : turnQ I Q .ct γ1 S1
  | bk {γ1 : Sl} {S1 : Sto} (h : Q .nx γ1 S1) : turnQ I Q .bk γ1 S1
  | rt {d1 : D} {γ1 : Sl} {S1 : Sto} (h : Q (.rt d1) γ1 S1) : turnQ I Q (.rt d1) γ1 S1
theorem tu_nx {I : Sl → Sto → Prop} (h : I γ S) : turnQ I Q .nx γ S := .nx h
theorem tu_ct {I : Sl → Sto → Prop} (h : I γ S) : turnQ I Q .ct γ S := .ct h
theorem tu_bk {I : Sl → Sto → Prop} (h : Q .nx γ S) : turnQ I Q .bk γ S := .bk h
theorem tu_rt {I : Sl → Sto → Prop} (h : Q (.rt d) γ S) : turnQ I Q (.rt d) γ S := .rt h
theorem for_inv {ck g} (I : List D → Sl → Sto → Prop)
    (step : ∀ x r γ S, I (x :: r) γ S → Chk ck S ∧ wG g x γ S fun γ1 S1 => wS b γ1 S1 (turnQ (I r) Q))
    (stop : ∀ γ S, I [] γ S → Chk ck S ∧ Q .nx γ S) : ∀ xs γ S, I xs γ S → wFor ck g b xs γ S Q
  | [], γ, S, h => by
    obtain ⟨hc, q⟩ := stop γ S h
    exact ⟨_, _, _, by unfold forI; rw [if_pos hc], q⟩
  | x :: r, γ, S, h => by
    obtain ⟨hc, γ1, S1, e1, f, γ2, S2, e2, q⟩ := step x r γ S h
    cases f with
    | nx => cases q with | nx q => obtain ⟨f, γ3, S3, e3, q⟩ := for_inv I step stop r γ2 S2 q; exact ⟨f, γ3, S3, by unfold forI; rw [if_pos hc]; simp only [e1, e2, e3], q⟩
    | ct => cases q with | ct q => obtain ⟨f, γ3, S3, e3, q⟩ := for_inv I step stop r γ2 S2 q; exact ⟨f, γ3, S3, by unfold forI; rw [if_pos hc]; simp only [e1, e2, e3], q⟩
    | bk => cases q with | bk q => exact ⟨_, _, _, by unfold forI; rw [if_pos hc]; simp only [e1, e2], q⟩
    | rt d => cases q with | rt q => exact ⟨_, _, _, by unfold forI; rw [if_pos hc]; simp only [e1, e2], q⟩
/-- a while loop: I n, n falls by one or more with each turn -/
theorem wh_inv (I : Nat → Sl → Sto → Prop)
    (step : ∀ n γ S, I n γ S → wC c γ S fun k S1 => iff2 k (wS b γ S1 (turnQ (fun γ2 S2 => ∃ m, m < n ∧ I m γ2 S2) Q)) (Q .nx γ S1)) : ∀ n m γ S, I m γ S → m < n → wWh c b n γ S Q
  | 0, m, γ, S, h, l => by omega
  | n + 1, m, γ, S, h, l => by
    obtain ⟨k, S1, e1, h1, h2⟩ := step m γ S h
    cases k with
    | false => exact ⟨_, _, _, by unfold whileN; simp only [e1], h2 rfl⟩
    | true =>
      obtain ⟨f, γ2, S2, e2, q⟩ := h1 rfl
      cases f with
      | nx => cases q with | nx q => obtain ⟨m', hm, q⟩ := q; obtain ⟨f, γ3, S3, e3, q⟩ := wh_inv I step n m' γ2 S2 q (by omega); exact ⟨f, γ3, S3, by unfold whileN; simp only [e1, e2, e3], q⟩
      | ct => cases q with | ct q => obtain ⟨m', hm, q⟩ := q; obtain ⟨f, γ3, S3, e3, q⟩ := wh_inv I step n m' γ2 S2 q (by omega); exact ⟨f, γ3, S3, by unfold whileN; simp only [e1, e2, e3], q⟩
      | bk => cases q with | bk q => exact ⟨_, _, _, by unfold whileN; simp only [e1, e2], q⟩
      | rt d => cases q with | rt q => exact ⟨_, _, _, by unfold whileN; simp only [e1, e2], q⟩
/-- a comprehension: I tells what is still to be walked, the list so far, the store -/
theorem k_inv {ck tgt} {tt : CvM} {n : Nat} {Q : Sto → Prop} (I : List D → Sto → Prop)
    (step : ∀ x r S, I (x :: r) S → Chk ck S ∧ ∃ γ1, bindT tgt x γ = some γ1 ∧ wC tt γ1 S fun k S1 => iff2 k (wE e γ1 S1 fun y S2 => ∃ acc, S2[n]? = some (.lst acc) ∧ acc.length < sizeLine ∧ I r (S2.set n (.lst (acc ++ [y])))) (I r S1))
    (stop : ∀ S, I [] S → Chk ck S ∧ Q S) : ∀ xs S, I xs S → wK ck tgt tt e γ n xs S Q
  | [], S, h => by
    obtain ⟨hc, q⟩ := stop S h
    exact ⟨_, by unfold compI; rw [if_pos hc], q⟩
  | x :: r, S, h => by
    obtain ⟨hc, γ1, e1, k, S1, e2, h1, h2⟩ := step x r S h
    cases k with
    | false => obtain ⟨S2, e3, q⟩ := k_inv I step stop r S1 (h2 rfl); exact ⟨S2, by unfold compI; rw [if_pos hc]; simp only [e1, e2, e3], q⟩
    | true =>
      obtain ⟨y, S2, e3, acc, e4, hl, hi⟩ := h1 rfl
      obtain ⟨S3, e5, q⟩ := k_inv I step stop r _ hi
      exact ⟨S3, by unfold compI; rw [if_pos hc]; simp only [e1, e2, e3, e4, if_pos hl, e5], q⟩
theorem k2_inv {ck tgt iv1 tgt1 vs1} {tt t1 : CvM} {n : Nat} {Q : Sto → Prop} (I : List D → Sto → Prop)
    (step : ∀ x r S, I (x :: r) S → Chk ck S ∧ ∃ γ1, bindT tgt x γ = some γ1 ∧ wC tt γ1 S fun k S1 => iff2 k (wI iv1 γ1 S1 fun ck1 xs1 S2 => wK ck1 tgt1 t1 e (wipeD γ1 vs1) n xs1 S2 (I r)) (I r S1))
    (stop : ∀ S, I [] S → Chk ck S ∧ Q S) : ∀ xs S, I xs S → wK2 ck tgt tt iv1 tgt1 t1 e γ vs1 n xs S Q
  | [], S, h => by
    obtain ⟨hc, q⟩ := stop S h
    exact ⟨_, by unfold comp2I; rw [if_pos hc], q⟩
  | x :: r, S, h => by
    obtain ⟨hc, γ1, e1, k, S1, e2, h1, h2⟩ := step x r S h
    cases k with
    | false => obtain ⟨S2, e3, q⟩ := k2_inv I step stop r S1 (h2 rfl); exact ⟨S2, by unfold comp2I; rw [if_pos hc]; simp only [e1, e2, e3], q⟩
    | true =>
      obtain ⟨ck1, xs1, S2, e3, S3, e4, hi⟩ := h1 rfl
      obtain ⟨S4, e5, q⟩ := k2_inv I step stop r _ hi
      exact ⟨S4, by unfold comp2I; rw [if_pos hc]; simp only [e1, e2, e3, e4, e5], q⟩
/-- a dict is locked meanwhile -/
theorem v_lock {i n kvs} {Q : D → Sto → Prop} (hx : γ[i]? = some (some (.ref n))) (hn : S[n]? = some (.dn false kvs))
    (h : wE e γ (S.set n (.dn true kvs)) fun d S1 => ∃ kvs', S1[n]? = some (.dn true kvs') ∧ Q d (S1.set n (.dn false kvs'))) : wE (lockM i e) γ S Q := by
  obtain ⟨d, S1, e1, kvs', e2, q⟩ := h
  exact ⟨_, _, by unfold lockM; simp only [hx, hn, e1, e2], q⟩
theorem s_lock {i n kvs} (hx : γ[i]? = some (some (.ref n))) (hn : S[n]? = some (.dn false kvs))
    (h : wS s γ (S.set n (.dn true kvs)) fun f γ1 S1 => ∃ kvs', S1[n]? = some (.dn true kvs') ∧ Q f γ1 (S1.set n (.dn false kvs'))) : wS (lockS i s) γ S Q := by
  obtain ⟨d, γ1, S1, e1, kvs', e2, q⟩ := h
  exact ⟨_, _, _, by unfold lockS; simp only [hx, hn, e1, e2], q⟩
/-- a def's body -/
inductive retQ (Q : D → Sto → Prop) : Fl → Sl → Sto → Prop
  | rt {d1 : D} {γ1 : Sl} {S1 : Sto} (h : Q d1 S1) : retQ Q (.rt d1) γ1 S1
  | nx {γ1 : Sl} {S1 : Sto} (h : Q .non S1) : retQ Q .nx γ1 S1
theorem re_rt {Q : D → Sto → Prop} (h : Q d S) : retQ Q (.rt d) γ S := .rt h
theorem re_nx {Q : D → Sto → Prop} (h : Q .non S) : retQ Q .nx γ S := .nx h
theorem w_body {n} {xs : List D} {Q : D → Sto → Prop} (h : wS s (xs.map some ++ List.replicate (n - xs.length) none) S (retQ Q)) : w1 (bodyM n s) xs S Q := by
  obtain ⟨f, γ', S', e1, q⟩ := h
  cases f with
  | rt d => cases q with | rt q => exact ⟨_, _, by unfold bodyM; simp only [e1], q⟩
  | nx => cases q with | nx q => exact ⟨_, _, by unfold bodyM; simp only [e1], q⟩
  | bk => cases q
  | ct => cases q
end
/-! ### the operators and builtins -/
section
variable {S : Sto} {Q : D → Sto → Prop} {x y d : D} {i j : Int} {z w : Str} {n m : Nat} {xs ys : List D}
theorem o_eqI (q : Q (.bl (i == j)) S) : w2 eqF (.int i) (.int j) S Q := ⟨_, _, rfl, q⟩
theorem o_eqS (q : Q (.bl (z == w)) S) : w2 eqF (.str z) (.str w) S Q := ⟨_, _, rfl, q⟩
theorem o_eqB {a b : Bool} (q : Q (.bl (a == b)) S) : w2 eqF (.bl a) (.bl b) S Q := ⟨_, _, rfl, q⟩
theorem o_neS (q : Q (.bl (!(z == w))) S) : w2 neF (.str z) (.str w) S Q := ⟨_, _, rfl, q⟩
theorem o_is (q : Q (.bl (isN x)) S) : w2 (isF false) x .non S Q := ⟨_, _, by unfold isF; rfl, q⟩
theorem o_isn (q : Q (.bl (!isN x)) S) : w2 (isF true) x .non S Q := ⟨_, _, by unfold isF; rfl, q⟩
theorem o_lt (q : Q (.bl (decide (i < j))) S) : w2 ltF (.int i) (.int j) S Q := ⟨_, _, rfl, q⟩
theorem o_le (q : Q (.bl (decide (i ≤ j))) S) : w2 leF (.int i) (.int j) S Q := ⟨_, _, rfl, q⟩
theorem o_gt (q : Q (.bl (decide (j < i))) S) : w2 gtF (.int i) (.int j) S Q := ⟨_, _, rfl, q⟩
theorem o_ge (q : Q (.bl (decide (j ≤ i))) S) : w2 geF (.int i) (.int j) S Q := ⟨_, _, rfl, q⟩
theorem o_ixT (h : atI xs i = some d) (q : Q d S) : w2 ixF (.tup xs) (.int i) S Q := ⟨_, _, by unfold ixF; simp only [h], q⟩
theorem o_ixR (h : atI xs i = some d) (q : Q d S) : w2 ixF (.rl xs) (.int i) S Q := ⟨_, _, by unfold ixF; simp only [h], q⟩
theorem o_ixL (hn : S[n]? = some (.lst xs)) (h : atI xs i = some d) (q : Q d S) : w2 ixF (.ref n) (.int i) S Q := ⟨_, _, by unfold ixF; simp only [hn, h], q⟩
theorem o_addI (q : Q (.int (i + j)) S) : w2 addF (.int i) (.int j) S Q := ⟨_, _, rfl, q⟩
theorem o_addS (h : z.length + w.length ≤ sizeLine) (q : Q (.str (z ++ w)) S) : w2 addF (.str z) (.str w) S Q := ⟨_, _, by unfold addF; simp only [if_pos h], q⟩
theorem o_addT (h : xs.length + ys.length ≤ sizeLine) (q : Q (.tup (xs ++ ys)) S) : w2 addF (.tup xs) (.tup ys) S Q := ⟨_, _, by unfold addF; simp only [if_pos h], q⟩
theorem o_addL (hn : S[n]? = some (.lst xs)) (hm : S[m]? = some (.lst ys)) (h : xs.length + ys.length ≤ sizeLine) (q : Q (.ref S.length) (S ++ [.lst (xs ++ ys)])) : w2 addF (.ref n) (.ref m) S Q := ⟨_, _, by unfold addF; simp only [hn, hm, if_pos h], q⟩
theorem o_sub (q : Q (.int (i - j)) S) : w2 subF (.int i) (.int j) S Q := ⟨_, _, rfl, q⟩
theorem o_iadd (q : Q (.int (i + j)) S) : w2 iaddF (.int i) (.int j) S Q := ⟨_, _, rfl, q⟩
theorem o_isub (q : Q (.int (i - j)) S) : w2 isubF (.int i) (.int j) S Q := ⟨_, _, rfl, q⟩
theorem o_mul (h : mulOk i j = true) (q : Q (.int (i * j)) S) : w2 mulF (.int i) (.int j) S Q := ⟨_, _, by unfold mulF; simp only [if_pos h], q⟩
theorem o_div (h : 0 < j ∧ j.natAbs.log2 < 9000) (q : Q (.int (i / j)) S) : w2 fdivF (.int i) (.int j) S Q := ⟨_, _, by unfold fdivF; simp only [if_pos h], q⟩
theorem o_mod (h : 0 < j) (q : Q (.int (i % j)) S) : w2 modF (.int i) (.int j) S Q := ⟨_, _, by unfold modF; simp only [if_pos h], q⟩
theorem o_pow (h : 0 ≤ j ∧ j ≤ 1000000 ∧ i.natAbs < 2 ^ 64) (q : Q (.int (i ^ j.toNat)) S) : w2 powF (.int i) (.int j) S Q := ⟨_, _, by unfold powF; simp only [if_pos h], q⟩
theorem o_rep (hn : S[n]? = some (.lst xs)) (h : 0 ≤ j ∧ j < 2 ^ 63 ∧ xs.length * j.toNat ≤ sizeLine) (q : Q (.ref S.length) (S ++ [.lst (List.replicate j.toNat xs).flatten])) : w2 repF (.ref n) (.int j) S Q := ⟨_, _, by unfold repF; simp only [hn, if_pos h], q⟩
theorem o_get {lk kvs kk} (hn : S[n]? = some (.dn lk kvs)) (hk : keyN xs = some kk) (hl : lookN kvs kk = some d) (q : Q d S) : w2 getF (.ref n) (.tup xs) S Q := ⟨_, _, by unfold getF; simp only [hn, hk, hl], q⟩
theorem o_inD {lk kvs kk} (hn : S[n]? = some (.dn lk kvs)) (hk : keyN xs = some kk) (q : Q (.bl (lookN kvs kk).isSome) S) : w2 (inD false) (.tup xs) (.ref n) S Q := ⟨_, _, by unfold inD; simp only [hn, hk]; rfl, q⟩
theorem f_lenT (q : Q (.int xs.length) S) : w1 lenF [.tup xs] S Q := ⟨_, _, rfl, q⟩
theorem f_lenR (q : Q (.int xs.length) S) : w1 lenF [.rl xs] S Q := ⟨_, _, rfl, q⟩
theorem f_lenL (hn : S[n]? = some (.lst xs)) (q : Q (.int xs.length) S) : w1 lenF [.ref n] S Q := ⟨_, _, by unfold lenF; simp only [hn], q⟩
theorem f_intI (q : Q (.int i) S) : w1 intF [.int i] S Q := ⟨_, _, rfl, q⟩
theorem f_intB {b} (q : Q (.int (if b then 1 else 0)) S) : w1 intF [.bl b] S Q := ⟨_, _, rfl, q⟩
theorem f_abs (q : Q (.int (if i < 0 then -i else i)) S) : w1 absF [.int i] S Q := ⟨_, _, rfl, q⟩
theorem f_max (q : Q (.int (if j > i then j else i)) S) : w1 maxF [.int i, .int j] S Q := ⟨_, _, rfl, q⟩
theorem f_min (q : Q (.int (if j < i then j else i)) S) : w1 minF [.int i, .int j] S Q := ⟨_, _, rfl, q⟩
theorem f_str (h : i.natAbs.log2 < 1920) (q : Q (.str (toString i)) S) : w1 strF [.int i] S Q := ⟨_, _, by unfold strF; simp only [if_pos h], q⟩
theorem f_listT (q : Q (.ref S.length) (S ++ [.lst xs])) : w1 listF [.tup xs] S Q := ⟨_, _, rfl, q⟩
theorem f_listL (hn : S[n]? = some (.lst xs)) (q : Q (.ref S.length) (S ++ [.lst xs])) : w1 listF [.ref n] S Q := ⟨_, _, by unfold listF; simp only [hn], q⟩
theorem f_tupT (q : Q (.tup xs) S) : w1 tupleF [.tup xs] S Q := ⟨_, _, rfl, q⟩
theorem f_tupL (hn : S[n]? = some (.lst xs)) (q : Q (.tup xs) S) : w1 tupleF [.ref n] S Q := ⟨_, _, by unfold tupleF; simp only [hn], q⟩
theorem f_all {bs} (hn : S[n]? = some (.lst xs)) (hb : blsD xs = some bs) (q : Q (.bl (bs.all id)) S) : w1 allF [.ref n] S Q := ⟨_, _, by unfold allF; simp only [hn, hb], q⟩
theorem f_dict {l} (hn : S[n]? = some (.lst xs)) (hb : pairsN xs = some l) (q : Q (.ref S.length) (S ++ [.dn false (putAll l [])])) : w1 dictF [.ref n] S Q := ⟨_, _, by unfold dictF; simp only [hn, hb], q⟩
theorem m_append (hn : S[n]? = some (.lst xs)) (h : xs.length < sizeLine) (q : Q .non (S.set n (.lst (xs ++ [y])))) : wM appendF (.ref n) [y] S Q := ⟨_, _, by unfold appendF; simp only [hn, if_pos h], q⟩
theorem m_pop (hn : S[n]? = some (.lst (xs ++ [y]))) (q : Q y (S.set n (.lst xs))) : wM popF (.ref n) [] S Q := ⟨_, _, by unfold popF; simp [hn], q⟩
theorem m_extT (hn : S[n]? = some (.lst xs)) (h : xs.length + ys.length ≤ sizeLine) (q : Q .non (S.set n (.lst (xs ++ ys)))) : wM extendF (.ref n) [.tup ys] S Q := ⟨_, _, by unfold extendF; simp only [hn, if_pos h], q⟩
theorem m_extL (hn : S[n]? = some (.lst xs)) (hm : S[m]? = some (.lst ys)) (h : xs.length + ys.length ≤ sizeLine) (q : Q .non (S.set n (.lst (xs ++ ys)))) : wM extendF (.ref n) [.ref m] S Q := ⟨_, _, by unfold extendF; simp only [hn, hm, if_pos h], q⟩
theorem ty_lst (hn : S[n]? = some (.lst xs)) : tyB "list" S (.ref n) = true := by unfold tyB; simp [hn]
/-- x not in a list of things -/
def memB (x : D) (ys : List D) : Bool := match pyD x, pyDs ys with
  | some p, some ds => ds.any fun z => PyData.eqv z p
  | _, _ => false
theorem o_notin {p ds} (hn : S[n]? = some (.lst ys)) (hx : pyD x = some p) (hy : pyDs ys = some ds) (h1 : SeqAt.shaped p = true) (h2 : SeqAt.shaped (.list ds) = true) (q : Q (.bl (!memB x ys)) S) : w2 (inF true) x (.ref n) S Q := by
  refine ⟨_, _, ?_, q⟩
  unfold inF inT inB memB
  simp [hx, hy, pyO, hn, h1, h2]
theorem ty_tup : tyQ "tuple" S (.tup xs) Q' ↔ Q' true := by
  constructor
  · rintro ⟨t, b, e1, e2, q⟩
    cases e1
    rw [show kitB "tuple" "tuple" = some true from by unfold kitB; simp] at e2
    cases e2; exact q
  · intro q; exact ⟨_, _, rfl, by unfold kitB; simp, q⟩
end
/-! ### the store -/
section
variable {S S' : Sto} {n m : Nat} {o u : O}
theorem lk_app {J : Sto} (h : S[n]? = some o) : (S ++ J)[n]? = some o := by rw [List.getElem?_append_left (lt_of h)]; exact h
theorem lk_new : (S ++ [o])[S.length]? = some o := by simp
theorem lk_set (h : S[n]? = some u) : (S.set n o)[n]? = some o := List.getElem?_set_self (lt_of h)
theorem lk_ne (hne : n ≠ m) (h : S[n]? = some o) : (S.set m u)[n]? = some o := by rw [List.getElem?_set_ne (Ne.symm hne)]; exact h
/-- all that stood there still stands there -/
def Kp (S S' : Sto) : Prop := ∀ (i : Nat) (o : O), S[i]? = some o → S'[i]? = some o
theorem Kp.refl : Kp S S := fun _ _ h => h
theorem Kp.trans {S1 S2 S3 : Sto} (a : Kp S1 S2) (b : Kp S2 S3) : Kp S1 S3 := fun i o h => b i o (a i o h)
theorem Kp.app {J : Sto} (h : Kp S S') : Kp S (S' ++ J) := fun i o e => lk_app (h i o e)
theorem Kp.set (h : Kp S S') (hn : S[n]? = none) : Kp S (S'.set n u) := fun i o e => lk_ne (fun z => by subst z; rw [hn] at e; cases e) (h i o e)
theorem none_len : S[S.length]? = none := by simp
theorem Kp.ne (h : S[n]? = some o) : n ≠ S.length := fun z => by subst z; simp at h
theorem Kp.len (h : Kp S S') : S.length ≤ S'.length := by
  rcases Nat.lt_or_ge S'.length S.length with l | l
  · have := h _ _ (List.getElem?_eq_getElem l)
    simp at this
  · exact l
end
end Ml
/-! Mw2: .. of defs as values -/
namespace Ml
open L2 PyProof.Rows PySem PySem.Spec
section
variable {γ : Sl} {S S' : Sto} {Q : D → Sto → Prop} {ra : AvM} {i n id : Nat} {nd : NDef} {ws : List D}
theorem v_callN {tab : Nat → Option NDef} {G : Nat → List D → Sto → Option (D × Sto)} (h1 : γ[i]? = some (some (.ref n))) (h2 : S[n]? = some (.fn id nd ws)) (ht : tab id = some nd) (hw : ws.length = nd.fr.length)
    (h : wA ra γ S fun xs S1 => S1[n]? = some (.fn id nd ws) ∧ xs.length = nd.ps.length ∧ w1 (G id) (xs ++ ws) S1 Q) : wE (callNM i tab G ra) γ S Q := by
  obtain ⟨xs, S1, e1, e2, e3, d, S2, e4, q⟩ := h
  refine ⟨d, S2, ?_, q⟩
  unfold callNM
  simp only [h1, h2, e1, e2]
  rw [if_pos ⟨ht, e3, hw⟩]
  exact e4
theorem v_callG {k : Nat} {cands : Str → Option (List D → Sto → Option (D × Sto))} {z : Str} {G : List D → Sto → Option (D × Sto)} (h1 : γ[i]? = some (some (.gl z))) (h2 : cands z = some G) (h : wA ra γ S fun xs S1 => xs.length = k ∧ w1 G xs S1 Q) : wE (callGM i k cands ra) γ S Q := by
  obtain ⟨xs, S1, e1, e3, d, S2, e4, q⟩ := h
  refine ⟨d, S2, ?_, q⟩
  unfold callGM
  simp only [h1, h2, e1]
  rw [if_pos e3]
  exact e4
theorem s_dret {ia : Nat} {js : List Nat} {G : List D → Sto → Option (D × Sto)} {y : D} {Q : Fl → Sl → Sto → Prop} (h1 : γ[ia]? = some (some y)) (h2 : js.mapM (fun j => γ[j]?.join) = some ws) (h : w1 G [y, .ref S.length] (S ++ [.fn id nd ws]) fun d S2 => Q (.rt d) γ (junkAll S2)) : wS (dretM id nd ia js G) γ S Q := by
  obtain ⟨d, S2, e4, q⟩ := h
  refine ⟨_, _, _, ?_, q⟩
  unfold dretM
  simp only [h1, h2, e4]
/-- all that stood there still stands there, but for defs -/
def Kj (S S' : Sto) : Prop := ∀ (i : Nat) (o : O), S[i]? = some o → jk o = o → S'[i]? = some o
theorem Kp.kj (h : Kp S S') : Kj S S' := fun i o e _ => h i o e
theorem Kj.trans {S1 S2 S3 : Sto} (a : Kj S1 S2) (b : Kj S2 S3) : Kj S1 S3 := fun i o e z => b i o (a i o e z) z
theorem Kj.junk (h : Kj S S') : Kj S (junkAll S') := fun i o e z => by
  unfold junkAll
  rw [List.getElem?_map, h i o e z]
  show some (jk o) = some o
  rw [z]
end
/-- rules of what must hold -/
theorem o_isT {S : Sto} {Q : D → Sto → Prop} {x : D} {b r : Bool} (h : sameF x b = some r) (q : Q (.bl r) S) : w2 (isT false) x (.bl b) S Q := ⟨_, _, by unfold isT; simp only [h]; rfl, q⟩
theorem o_isnT {S : Sto} {Q : D → Sto → Prop} {x : D} {b r : Bool} (h : sameF x b = some r) (q : Q (.bl (!r)) S) : w2 (isT true) x (.bl b) S Q := ⟨_, _, by unfold isT; simp only [h]; rfl, q⟩
theorem g_lst {γ : Sl} {S : Sto} {n r : Nat} {g : List D → Sl → Sto → Option (Sl × Sto)} {xs : List D} {Q : Sl → Sto → Prop} (hn : S[r]? = some (.lst xs)) (h : xs.length = n) (q : wGs g xs γ S Q) : wG (lstG n g) (.ref r) γ S Q := by
  obtain ⟨γ', S', e1, q⟩ := q
  exact ⟨_, _, by unfold lstG; simp only [hn, if_pos h, e1], q⟩
end Ml
/-! Mw3: loops by the place reached. -/
namespace Ml
open L2 PyProof.Rows PySem PySem.Spec
section
variable {γ : Sl} {S : Sto} {b : SvM} {g : TvM} {e : EvM}
theorem drop_at {α : Type} {xs : List α} {j : Nat} {x : α} {r : List α} (h : xs.drop j = x :: r) : xs[j]? = some x ∧ xs.drop (j + 1) = r := by
  have hj : j < xs.length := by
    rcases Nat.lt_or_ge j xs.length with l | l
    · exact l
    · rw [List.drop_of_length_le l] at h; cases h
  rw [List.drop_eq_getElem_cons hj] at h
  obtain ⟨h1, h2⟩ := List.cons.inj h
  exact ⟨by rw [List.getElem?_eq_getElem hj, h1], h2⟩
theorem for_seq {ck : Option (Nat × O)} {xs : List D} {Q : Fl → Sl → Sto → Prop} (I : Nat → Sl → Sto → Prop)
    (step : ∀ j x γ S, xs[j]? = some x → I j γ S → Chk ck S ∧ wG g x γ S fun γ1 S1 => wS b γ1 S1 (turnQ (I (j + 1)) Q))
    (stop : ∀ γ S, I xs.length γ S → Chk ck S ∧ Q .nx γ S) (h0 : I 0 γ S) : wFor ck g b xs γ S Q := by
  refine for_inv (fun rest γ S => ∃ j, xs.drop j = rest ∧ j ≤ xs.length ∧ I j γ S) ?_ ?_ _ _ _ ⟨0, rfl, Nat.zero_le _, h0⟩
  · rintro x r γ S ⟨j, hd, hj, hi⟩
    obtain ⟨h1, h2⟩ := drop_at hd
    obtain ⟨hc, γ1, S1, e1, q⟩ := step j x γ S h1 hi
    refine ⟨hc, γ1, S1, e1, q.mono fun f γ2 S2 t => ?_⟩
    cases t with
    | nx h => exact .nx ⟨j + 1, h2, lt_of h1, h⟩
    | ct h => exact .ct ⟨j + 1, h2, lt_of h1, h⟩
    | bk h => exact .bk h
    | rt h => exact .rt h
  · rintro γ S ⟨j, hd, hj, hi⟩
    have : j = xs.length := by
      have := congrArg List.length hd
      simp at this; omega
    subst this
    exact stop γ S hi
theorem for_rng {N : Nat} {Q : Fl → Sl → Sto → Prop} (I : Nat → Sl → Sto → Prop)
    (step : ∀ j γ S, j < N → I j γ S → wG g (.int j) γ S fun γ1 S1 => wS b γ1 S1 (turnQ (I (j + 1)) Q))
    (stop : ∀ γ S, I N γ S → Q .nx γ S) (h0 : I 0 γ S) : wFor none g b (rngD 0 N) γ S Q := by
  have hl : (rngD 0 N).length = N := by simp [rngD]
  refine for_seq I ?_ ?_ h0
  · intro j x γ S hx hi
    have hj := lt_of hx
    rw [hl] at hj
    have : x = .int j := by
      simp [rngD, hj] at hx
      exact hx.symm
    subst this
    exact ⟨trivial, step j γ S hj hi⟩
  · intro γ S hi
    rw [hl] at hi
    exact ⟨trivial, stop γ S hi⟩
/-- a list told item by item -/
theorem comp_seq {ck : Option (Nat × O)} {tgt : Tgt} {n : Nat} {xs : List D} {Q : Sto → Prop} (I : Nat → List D → Sto → Prop)
    (step : ∀ j x acc T, xs[j]? = some x → acc.length = j → T[n]? = some (.lst acc) → I j acc T → Chk ck T ∧ ∃ γ1, bindT tgt x γ = some γ1 ∧ wE e γ1 T fun y T' => T'[n]? = some (.lst acc) ∧ I (j + 1) (acc ++ [y]) (T'.set n (.lst (acc ++ [y]))))
    (stop : ∀ acc T, acc.length = xs.length → T[n]? = some (.lst acc) → I xs.length acc T → Chk ck T ∧ Q T) (hl : xs.length ≤ 1000000) (hn : S[n]? = some (.lst [])) (h0 : I 0 [] S) : wK ck tgt yesC e γ n xs S Q := by
  refine k_inv (fun rest T => ∃ j acc, xs.drop j = rest ∧ j ≤ xs.length ∧ acc.length = j ∧ T[n]? = some (.lst acc) ∧ I j acc T) ?_ ?_ _ _ ⟨0, [], rfl, Nat.zero_le _, rfl, hn, h0⟩
  · rintro x r T ⟨j, acc, hd, hj, ha, hT, hi⟩
    obtain ⟨h1, h2⟩ := drop_at hd
    obtain ⟨hc, γ1, e1, q⟩ := step j x acc T h1 ha hT hi
    refine ⟨hc, γ1, e1, c_yes (iff_t (q.mono fun y T' h => ?_))⟩
    refine ⟨acc, h.1, by have := lt_of h1; simp only [sizeLine]; omega, j + 1, _, h2, lt_of h1, by simp [ha], lk_set h.1, h.2⟩
  · rintro T ⟨j, acc, hd, hj, ha, hT, hi⟩
    have : j = xs.length := by
      have := congrArg List.length hd
      simp at this; omega
    subst this
    exact stop acc T ha hT hi
theorem comp_rng {N : Nat} {i n : Nat} {Q : Sto → Prop} (I : Nat → List D → Sto → Prop)
    (step : ∀ j acc T, j < N → acc.length = j → T[n]? = some (.lst acc) → I j acc T → wE e (γ.set i (some (.int j))) T fun y T' => T'[n]? = some (.lst acc) ∧ I (j + 1) (acc ++ [y]) (T'.set n (.lst (acc ++ [y]))))
    (stop : ∀ acc T, acc.length = N → T[n]? = some (.lst acc) → I N acc T → Q T) (hl : N ≤ 1000000) (hn : S[n]? = some (.lst [])) (h0 : I 0 [] S) : wK none (.one i) yesC e γ n (rngD 0 N) S Q := by
  have hl2 : (rngD 0 N).length = N := by simp [rngD]
  refine comp_seq I ?_ ?_ (by omega) hn h0
  · intro j x acc T hx ha hT hi
    have hj := lt_of hx
    rw [hl2] at hj
    have : x = .int j := by
      simp [rngD, hj] at hx
      exact hx.symm
    subst this
    exact ⟨trivial, _, rfl, step j acc T hj ha hT hi⟩
  · intro acc T ha hT hi
    rw [hl2] at ha hi
    exact ⟨trivial, stop acc T ha hT hi⟩
end
end Ml
/-! Mw4: rules for Ml30, Ml31. -/
namespace Ml
open L2 PyProof.Rows PySem PySem.Spec
section
variable {γ : Sl} {S : Sto} {Q : D → Sto → Prop} {ea : EvM} {ra rk : AvM} {n : Nat} {x y : D} {xs : List D}
theorem o_ordT {f : PyData → PyData → Bool} {p r : PyData} (h : twoD x y = some (p, r)) (q : Q (.bl (f p r)) S) : w2 (ordT f) x y S Q := ⟨_, _, by unfold ordT; simp only [h], q⟩
theorem f_sorted {b : Bool} (hn : S[n]? = some (.lst xs)) (h : sortOk xs = true) (q : Q (.ref S.length) (S ++ [.lst (xs.mergeSort (PySem.W.dataLe b encD))])) : w1 (sortedF b) [.ref n] S Q := ⟨_, _, by unfold sortedF; simp only [hn, h]; rfl, q⟩
theorem f_maxD (hn : S[n]? = some (.lst (x :: xs))) (h : maxOk (x :: xs) = true) (q : Q (maxL x xs) S) : w1 maxDF [.ref n] S Q := ⟨_, _, by unfold maxDF; simp only [hn, h]; rfl, q⟩
theorem v_sortR {b : Bool} (h : wA ra γ S fun xs S1 => wA rk γ S1 fun zs S2 => zs = [.bl b] ∧ w1 (sortedF b) xs S2 Q) : wE (appKM (sortedRF b) ra rk) γ S Q := by
  obtain ⟨xs, S1, e1, zs, S2, e2, rfl, d, S3, e3, q⟩ := h
  exact ⟨d, S3, by unfold appKM; simp only [e1, e2]; unfold sortedRF; simp [e3], q⟩
theorem v_isi2 {T1 T2 : String} (h : wE ea γ S fun d S1 => ∃ t b, tyN S1 d = some t ∧ kit2 t T1 T2 = some b ∧ Q (.bl b) S1) : wE (isi2M T1 T2 ea) γ S Q := by
  obtain ⟨d, S1, e1, t, b, e2, e3, q⟩ := h
  exact ⟨_, _, by unfold isi2M; simp only [e1, e2, e3], q⟩
theorem v_lrng (h : wE ea γ S fun d S1 => isInt d fun j => (0 ≤ j ∧ j ≤ 1000000) ∧ Q (.ref S1.length) (S1 ++ [.lst (rngD 0 j.toNat)])) : wE (lrngM ea) γ S Q := by
  obtain ⟨d, S1, e1, j, rfl, hj, q⟩ := h
  exact ⟨_, _, by unfold lrngM; simp only [e1, if_pos hj], q⟩
theorem s_asg3 {g1 g2 g3 : TvM} {Q : Fl → Sl → Sto → Prop} (h : wE ea γ S fun d S1 => wG g1 d γ S1 fun γ1 S2 => wG g2 d γ1 S2 fun γ2 S3 => wG g3 d γ2 S3 fun γ3 S4 => Q .nx γ3 S4) : wS (asg3M ea g1 g2 g3) γ S Q := by
  obtain ⟨d, S1, e1, γ1, S2, e2, γ2, S3, e3, γ3, S4, e4, q⟩ := h
  exact ⟨_, _, _, by unfold asg3M; simp only [e1, e2, e3, e4], q⟩
end
end Ml
namespace Gn
open PySem L2 Ml
inductive Fn where
  | sorted_counted
  | merged_places
  | _law_deal
  | _law_pick
  | _law_rank
  | _law_thing
  | _law_scene
  | _law_same
  | _law_sorted
  | _law_compared
  | _law_least
  | _law_lift
  | _law_good
  | _law_one
  | law
def isTop (_ : Fn) : Bool := true
def tabN : Nat → Option NDef
  | _ => none
def gN (F : Fn → List D → Sto → Option (D × Sto)) : Nat → List D → Sto → Option (D × Sto)
  | _ => fun _ _ => none
noncomputable def b_sorted_counted (F : Fn → List D → Sto → Option (D × Sto)) : SvM :=
  seqM (asgM (callM 2 (F .merged_places) (consA (lrngM (appM lenF (consA (varM 0) (nilA)))) (consA (varM 1) (nilA)))) (tupG 2 (consG (nameG 2) (consG (nameG 3) (nilG))))) (rtM (tupM (consA (compM (seqI (varM 2)) (.one 4) (yesC) (binM ixF (varM 0) (varM 4)) [4]) (consA (varM 3) (nilA)))))
noncomputable def b_merged_places (F : Fn → List D → Sto → Option (D × Sto)) : SvM :=
  seqM (ifS (tstM (binM leF (appM lenF (consA (varM 0) (nilA))) (conM (.int 1)))) (rtM (tupM (consA (varM 0) (consA (conM (.int 0)) (nilA))))) (nxM)) (seqM (asgM (binM fdivF (appM lenF (consA (varM 0) (nilA))) (conM (.int 2))) (nameG 2)) (seqM (asgM (callM 2 (F .merged_places) (consA (slM (varM 0) (noM) (partM (varM 2))) (consA (varM 1) (nilA)))) (tupG 2 (consG (nameG 3) (consG (nameG 4) (nilG))))) (seqM (asgM (callM 2 (F .merged_places) (consA (slM (varM 0) (partM (varM 2)) (noM)) (consA (varM 1) (nilA)))) (tupG 2 (consG (nameG 5) (consG (nameG 6) (nilG))))) (seqM (asgM (lstM (nilA)) (nameG 7)) (seqM (asg3M (conM (.int 0)) (nameG 8) (nameG 9) (nameG 10)) (seqM (whileM (andC (tstM (binM ltF (varM 8) (appM lenF (consA (varM 3) (nilA))))) (tstM (binM ltF (varM 9) (appM lenF (consA (varM 5) (nilA)))))) (seqM (augM 10 iaddF (conM (.int 1))) (ifS (tstM (binM (ordT dLt) (binM ixF (varM 1) (binM ixF (varM 5) (varM 9))) (binM ixF (varM 1) (binM ixF (varM 3) (varM 8))))) (seqM (exM (metM "list" appendF (varM 7) (consA (binM ixF (varM 5) (varM 9)) (nilA)))) (augM 9 iaddF (conM (.int 1)))) (seqM (exM (metM "list" appendF (varM 7) (consA (binM ixF (varM 3) (varM 8)) (nilA)))) (augM 8 iaddF (conM (.int 1))))))) (rtM (tupM (consA (binM addF (binM addF (varM 7) (slM (varM 3) (partM (varM 8)) (noM))) (slM (varM 5) (partM (varM 9)) (noM))) (consA (binM addF (binM addF (varM 4) (varM 6)) (varM 10)) (nilA)))))))))))
noncomputable def b__law_deal (F : Fn → List D → Sto → Option (D × Sto)) : SvM :=
  seqM (asgM (binM addF (conM (.int 5741)) (binM mulF (conM (.int 29)) (appM lenF (consA (varM 0) (nilA))))) (nameG 1)) (seqM (asgM (lstM (nilA)) (nameG 2)) (seqM (forM (rlI (varM 0)) (nameG 3) (seqM (asgM (appM intF (consA (varM 3) (nilA))) (nameG 4)) (seqM (ifS (tstM (binM ltF (varM 4) (conM (.int 0)))) (asgM (binM subF (conM (.int 3)) (binM mulF (conM (.int 2)) (varM 4))) (nameG 4)) (nxM)) (ifS (tstM (binM geF (varM 4) (binM powF (conM (.int 10)) (conM (.int 18))))) (forM (rng1I (consA (conM (.int 58)) (nilA))) (nameG 5) (seqM (ifS (tstM (binM eqF (varM 4) (conM (.int 0)))) (bkM) (nxM)) (seqM (exM (metM "list" appendF (varM 2) (consA (binM modF (appM intF (consA (varM 4) (nilA))) (conM (.int 27720))) (nilA)))) (asgM (binM fdivF (varM 4) (conM (.int 27720))) (nameG 4))))) (seqM (asgM (binM modF (appM intF (consA (binM addF (binM addF (binM mulF (varM 1) (conM (.int 48271))) (binM mulF (varM 4) (conM (.int 16807)))) (conM (.int 23))) (nilA))) (conM (.int 2147483647))) (nameG 1)) (exM (metM "list" appendF (varM 2) (consA (binM fdivF (binM modF (appM intF (consA (binM addF (binM mulF (varM 1) (conM (.int 40014))) (varM 4)) (nilA))) (conM (.int 2147483563))) (conM (.int 17))) (nilA))))))))) (seqM (forM (rng1I (consA (conM (.int 260)) (nilA))) (nameG 5) (ifS (tstM (binM ltF (appM lenF (consA (varM 2) (nilA))) (conM (.int 260)))) (seqM (asgM (binM modF (appM intF (consA (binM addF (binM addF (binM mulF (varM 1) (conM (.int 69621))) (varM 5)) (conM (.int 5))) (nilA))) (conM (.int 2147483647))) (nameG 1)) (exM (metM "list" appendF (varM 2) (consA (binM fdivF (varM 1) (conM (.int 19))) (nilA))))) (nxM))) (rtM (revM (varM 2))))))
noncomputable def b__law_pick (F : Fn → List D → Sto → Option (D × Sto)) : SvM :=
  seqM (ifS (tstM (binM eqF (appM lenF (consA (varM 0) (nilA))) (conM (.int 0)))) (rtM (conM (.int 0))) (nxM)) (rtM (binM modF (appM intF (consA (metM "list" popF (varM 0) nilA) (nilA))) (varM 1)))
noncomputable def b__law_rank (F : Fn → List D → Sto → Option (D × Sto)) : SvM :=
  seqM (asgM (callM 2 (F ._law_pick) (consA (varM 0) (consA (conM (.int 11)) (nilA)))) (nameG 2)) (seqM (ifS (tstM (binM eqF (varM 2) (conM (.int 10)))) (rtM (tupM (consA (conM (.int 0)) (nilA)))) (nxM)) (seqM (ifS (tstM (binM eqF (varM 1) (conM (.int 1)))) (rtM (tupM (consA (conM (.int 1)) (consA (slM (conM (.str "abcd")) (partM (binM modF (varM 2) (conM (.int 4)))) (partM (binM addF (binM addF (binM modF (varM 2) (conM (.int 4))) (conM (.int 1))) (binM fdivF (varM 2) (conM (.int 4)))))) (nilA))))) (nxM)) (seqM (ifS (tstM (binM eqF (varM 1) (conM (.int 2)))) (rtM (tupM (consA (conM (.int 1)) (consA (binM addF (binM mulF (binM subF (varM 2) (conM (.int 5))) (binM powF (conM (.int 10)) (conM (.int 48)))) (callM 2 (F ._law_pick) (consA (varM 0) (consA (conM (.int 3)) (nilA))))) (nilA))))) (nxM)) (seqM (ifS (tstM (binM eqF (varM 1) (conM (.int 3)))) (rtM (tupM (consA (conM (.int 1)) (consA (binM subF (binM addF (binM mulF (varM 2) (conM (.int 40))) (callM 2 (F ._law_pick) (consA (varM 0) (consA (conM (.int 40)) (nilA))))) (conM (.int 200))) (nilA))))) (nxM)) (rtM (tupM (consA (conM (.int 1)) (consA (binM modF (varM 2) (conM (.int 3))) (nilA)))))))))
noncomputable def b__law_thing (F : Fn → List D → Sto → Option (D × Sto)) : SvM :=
  seqM (asgM (callM 2 (F ._law_pick) (consA (varM 0) (consA (conM (.int 12)) (nilA)))) (nameG 2)) (seqM (ifS (tstM (binM eqF (varM 2) (conM (.int 0)))) (rtM (conM .non)) (nxM)) (seqM (ifS (tstM (binM eqF (varM 2) (conM (.int 1)))) (rtM (conM (.bl true))) (nxM)) (seqM (ifS (tstM (binM eqF (varM 2) (conM (.int 2)))) (rtM (conM (.int 1))) (nxM)) (seqM (ifS (tstM (binM eqF (varM 2) (conM (.int 3)))) (rtM (conM (.str "x"))) (nxM)) (seqM (ifS (tstM (binM eqF (varM 2) (conM (.int 4)))) (rtM (lstM (consA (varM 1) (consA (conM (.str "y")) (nilA))))) (nxM)) (seqM (ifS (tstM (binM ltF (varM 2) (conM (.int 8)))) (rtM (tupM (consA (varM 1) (consA (conM .non) (consA (varM 2) (nilA)))))) (nxM)) (rtM (varM 1))))))))
noncomputable def b__law_scene (F : Fn → List D → Sto → Option (D × Sto)) : SvM :=
  seqM (asgM (binM addF (binM addF (conM (.int 1)) (binM fdivF (callM 2 (F ._law_pick) (consA (varM 0) (consA (conM (.int 6)) (nilA)))) (conM (.int 3)))) (binM fdivF (callM 2 (F ._law_pick) (consA (varM 0) (consA (conM (.int 4)) (nilA)))) (conM (.int 3)))) (nameG 1)) (seqM (asgM (compM (rng1I (consA (varM 1) (nilA))) (.one 5) (yesC) (callM 2 (F ._law_pick) (consA (varM 0) (consA (conM (.int 5)) (nilA)))) [5]) (nameG 2)) (seqM (asgM (callM 2 (F ._law_pick) (consA (varM 0) (consA (conM (.int 8)) (nilA)))) (nameG 3)) (seqM (ifS (tstM (binM gtF (callM 2 (F ._law_pick) (consA (varM 0) (consA (conM (.int 3)) (nilA)))) (conM (.int 0)))) (asgM (callM 2 (F ._law_pick) (consA (varM 0) (consA (conM (.int 61)) (nilA)))) (nameG 3)) (nxM)) (seqM (ifS (tstM (binM gtF (varM 1) (conM (.int 1)))) (asgM (appM minF (consA (varM 3) (consA (conM (.int 24)) (nilA)))) (nameG 3)) (nxM)) (seqM (asgM (lstM (nilA)) (nameG 4)) (seqM (forM (rng1I (consA (varM 3) (nilA))) (nameG 5) (exM (metM "list" appendF (varM 4) (consA (appM tupleF (consA (compM (seqI (varM 2)) (.one 9) (yesC) (callM 2 (F ._law_rank) (consA (varM 0) (consA (varM 9) (nilA)))) [9]) (nilA))) (nilA))))) (seqM (asgM (callM 2 (F ._law_pick) (consA (varM 0) (consA (conM (.int 9)) (nilA)))) (nameG 6)) (seqM (ifS (tstM (binM eqF (varM 6) (conM (.int 0)))) (asgM (appM (sortedF false) (consA (varM 4) (nilA))) (nameG 4)) (nxM)) (seqM (ifS (tstM (binM eqF (varM 6) (conM (.int 1)))) (asgM (appKM (sortedRF true) (consA (varM 4) (nilA)) (consA (conM (.bl true)) nilA)) (nameG 4)) (nxM)) (seqM (ifS (andC (tstM (binM eqF (varM 6) (conM (.int 2)))) (tstM (binM gtF (varM 3) (conM (.int 0))))) (asgM (compM (seqI (varM 4)) (.one 10) (yesC) (binM ixF (varM 4) (conM (.int 0))) [10]) (nameG 4)) (nxM)) (seqM (ifS (tstM (binM eqF (varM 6) (conM (.int 3)))) (seqM (asgM (binM fdivF (appM lenF (consA (varM 4) (nilA))) (conM (.int 2))) (nameG 7)) (asgM (binM addF (appM (sortedF false) (consA (slM (varM 4) (partM (varM 7)) (noM)) (nilA))) (appM (sortedF false) (consA (slM (varM 4) (noM) (partM (varM 7))) (nilA)))) (nameG 4))) (nxM)) (seqM (asgM (compM (rng1I (consA (varM 3) (nilA))) (.one 5) (yesC) (callM 2 (F ._law_thing) (consA (varM 0) (consA (varM 5) (nilA)))) [5]) (nameG 8)) (seqM (ifS (andC (tstM (binM gtF (varM 3) (conM (.int 3)))) (tstM (binM gtF (varM 6) (conM (.int 5))))) (asgM (binM ixF (varM 8) (conM (.int 1))) (subL (varM 8) (binM subF (varM 3) (conM (.int 1))))) (nxM)) (rtM (tupM (consA (varM 8) (consA (varM 4) (nilA))))))))))))))))))
noncomputable def b__law_same (F : Fn → List D → Sto → Option (D × Sto)) : SvM :=
  seqM (ifS (truC (isi2M "list" "tuple" (varM 0))) (seqM (ifS (orC (tstM (binM neF (isiM "list" (varM 0)) (isiM "list" (varM 1)))) (tstM (binM neF (isiM "tuple" (varM 0)) (isiM "tuple" (varM 1))))) (rtM (conM (.bl false))) (nxM)) (seqM (ifS (tstM (binM neF (appM lenF (consA (varM 0) (nilA))) (appM lenF (consA (varM 1) (nilA))))) (rtM (conM (.bl false))) (nxM)) (rtM (appM allF (consA (compM (rng1I (consA (appM lenF (consA (varM 0) (nilA))) (nilA))) (.one 2) (yesC) (callM 2 (F ._law_same) (consA (binM ixF (varM 0) (varM 2)) (consA (binM ixF (varM 1) (varM 2)) (nilA)))) [2]) (nilA)))))) (nxM)) (seqM (ifS (orC (tstM (binM (isF false) (varM 0) (conM .non))) (tstM (binM (isF false) (varM 1) (conM .non)))) (rtM (andV (binM (isF false) (varM 0) (conM .non)) (binM (isF false) (varM 1) (conM .non)))) (nxM)) (seqM (ifS (orC (tstM (binM neF (isiM "bool" (varM 0)) (isiM "bool" (varM 1)))) (tstM (binM neF (isiM "int" (varM 0)) (isiM "int" (varM 1))))) (rtM (conM (.bl false))) (nxM)) (seqM (ifS (orC (tstM (binM neF (isiM "str" (varM 0)) (isiM "str" (varM 1)))) (truC (isi2M "list" "tuple" (varM 1)))) (rtM (conM (.bl false))) (nxM)) (rtM (binM eqF (varM 0) (varM 1))))))
noncomputable def b__law_sorted (F : Fn → List D → Sto → Option (D × Sto)) : SvM :=
  seqM (asgM (compM (seqI (varM 0)) (.one 5) (yesC) (conM .non) [5]) (nameG 2)) (seqM (forM (rng1I (consA (appM lenF (consA (varM 0) (nilA))) (nilA))) (nameG 3) (seqM (asgM (binM addF (appM lenF (consA (compM (seqI (varM 1)) (.one 6) (tstM (binM (ordT dLt) (varM 6) (binM ixF (varM 1) (varM 3)))) (varM 6) [6]) (nilA))) (appM lenF (consA (compM (seqI (slM (varM 1) (noM) (partM (varM 3)))) (.one 6) (tstM (binM eqF (varM 6) (binM ixF (varM 1) (varM 3)))) (varM 6) [6]) (nilA)))) (nameG 4)) (asgM (binM ixF (varM 0) (varM 3)) (subL (varM 2) (varM 4))))) (rtM (varM 2)))
noncomputable def b__law_compared (F : Fn → List D → Sto → Option (D × Sto)) : SvM :=
  seqM (asgM (appM lenF (consA (varM 0) (nilA))) (nameG 1)) (seqM (ifS (tstM (binM ltF (varM 1) (conM (.int 2)))) (rtM (conM (.int 0))) (nxM)) (seqM (asgM (slM (varM 0) (noM) (partM (binM fdivF (varM 1) (conM (.int 2))))) (nameG 2)) (seqM (asgM (slM (varM 0) (partM (binM fdivF (varM 1) (conM (.int 2)))) (noM)) (nameG 3)) (seqM (ifS (tstM (binM (ordT dGe) (appM maxDF (consA (varM 3) (nilA))) (appM maxDF (consA (varM 2) (nilA))))) (asgM (appM lenF (consA (compM (seqI (varM 3)) (.one 5) (tstM (binM (ordT dGe) (varM 5) (appM maxDF (consA (varM 2) (nilA))))) (varM 5) [5]) (nilA))) (nameG 4)) (asgM (appM lenF (consA (compM (seqI (varM 2)) (.one 5) (tstM (binM (ordT dGt) (varM 5) (appM maxDF (consA (varM 3) (nilA))))) (varM 5) [5]) (nilA))) (nameG 4))) (rtM (binM subF (binM addF (binM addF (callM 1 (F ._law_compared) (consA (varM 2) (nilA))) (callM 1 (F ._law_compared) (consA (varM 3) (nilA)))) (varM 1)) (varM 4)))))))
noncomputable def b__law_least (F : Fn → List D → Sto → Option (D × Sto)) : SvM :=
  seqM (ifS (tstM (binM ltF (varM 0) (conM (.int 2)))) (rtM (conM (.int 0))) (nxM)) (rtM (binM addF (binM addF (binM fdivF (varM 0) (conM (.int 2))) (callM 1 (F ._law_least) (consA (binM fdivF (varM 0) (conM (.int 2))) (nilA)))) (callM 1 (F ._law_least) (consA (binM subF (varM 0) (binM fdivF (varM 0) (conM (.int 2)))) (nilA)))))
noncomputable def b__law_lift (F : Fn → List D → Sto → Option (D × Sto)) : SvM :=
  seqM (asgM (conM (.int 0)) (nameG 1)) (seqM (asgM (conM (.int 1)) (nameG 2)) (seqM (forM (rng1I (consA (varM 0) (nilA))) (nameG 3) (seqM (ifS (tstM (binM geF (varM 2) (varM 0))) (bkM) (nxM)) (seqM (asgM (binM mulF (conM (.int 2)) (varM 2)) (nameG 2)) (asgM (binM addF (varM 1) (conM (.int 1))) (nameG 1))))) (rtM (varM 1))))
noncomputable def b__law_good (F : Fn → List D → Sto → Option (D × Sto)) : SvM :=
  seqM (ifS (orC (notC (truC (isiM "tuple" (varM 0)))) (orC (tstM (binM neF (appM lenF (consA (varM 0) (nilA))) (conM (.int 2)))) (notC (truC (isiM "list" (binM ixF (varM 0) (conM (.int 0)))))))) (rtM (conM (.bl false))) (nxM)) (seqM (ifS (orC (notC (truC (isiM "int" (binM ixF (varM 0) (conM (.int 1)))))) (truC (isiM "bool" (binM ixF (varM 0) (conM (.int 1)))))) (rtM (conM (.bl false))) (nxM)) (seqM (ifS (orC (notC (truC (callM 2 (F ._law_same) (consA (binM ixF (varM 0) (conM (.int 0))) (consA (callM 2 (F ._law_sorted) (consA (varM 1) (consA (varM 2) (nilA)))) (nilA)))))) (tstM (binM neF (binM ixF (varM 0) (conM (.int 1))) (callM 1 (F ._law_compared) (consA (varM 2) (nilA)))))) (rtM (conM (.bl false))) (nxM)) (rtM (chainM leF leF (callM 1 (F ._law_least) (consA (appM lenF (consA (varM 1) (nilA))) (nilA))) (binM ixF (varM 0) (conM (.int 1))) (binM mulF (appM lenF (consA (varM 1) (nilA))) (callM 1 (F ._law_lift) (consA (appM lenF (consA (varM 1) (nilA))) (nilA))))))))
noncomputable def b__law_one (F : Fn → List D → Sto → Option (D × Sto)) : SvM :=
  seqM (asgM (appM listF (consA (varM 0) (nilA))) (nameG 2)) (seqM (asgM (appM listF (consA (varM 1) (nilA))) (nameG 3)) (seqM (asgM (callM 2 (F .sorted_counted) (consA (varM 2) (consA (varM 3) (nilA)))) (nameG 4)) (seqM (ifS (orC (notC (truC (callM 3 (F ._law_good) (consA (varM 4) (consA (varM 0) (consA (varM 1) (nilA))))))) (orC (notC (truC (callM 2 (F ._law_same) (consA (varM 2) (consA (appM listF (consA (varM 0) (nilA))) (nilA)))))) (notC (truC (callM 2 (F ._law_same) (consA (varM 3) (consA (appM listF (consA (varM 1) (nilA))) (nilA)))))))) (rtM (conM (.bl false))) (nxM)) (seqM (exM (metM "list" appendF (binM ixF (varM 4) (conM (.int 0))) (consA (conM (.str "spoilt")) (nilA)))) (seqM (ifS (notC (truC (callM 2 (F ._law_same) (consA (varM 2) (consA (appM listF (consA (varM 0) (nilA))) (nilA)))))) (rtM (conM (.bl false))) (nxM)) (seqM (asgM (callKM 0 2 2 [1, 0] (F .sorted_counted) (nilA) (consA (varM 3) (consA (varM 2) (nilA)))) (nameG 5)) (seqM (ifS (notC (truC (callM 3 (F ._law_good) (consA (varM 5) (consA (varM 0) (consA (varM 1) (nilA))))))) (rtM (conM (.bl false))) (nxM)) (seqM (ifS (tstM (binM gtF (appM lenF (consA (varM 2) (nilA))) (conM (.int 0)))) (seqM (asgM (conM (.str "other")) (subL (varM 2) (conM (.int 0)))) (exM (metM "list" reverseF (varM 3) nilA))) (nxM)) (rtM (callM 3 (F ._law_good) (consA (varM 5) (consA (varM 0) (consA (varM 1) (nilA))))))))))))))
noncomputable def b_law (F : Fn → List D → Sto → Option (D × Sto)) : SvM :=
  seqM (asgM (callM 1 (F ._law_deal) (consA (varM 0) (nilA))) (nameG 1)) (seqM (forM (rng1I (consA (conM (.int 2)) (nilA))) (nameG 2) (seqM (asgM (callM 1 (F ._law_scene) (consA (varM 1) (nilA))) (tupG 2 (consG (nameG 3) (consG (nameG 4) (nilG))))) (seqM (ifS (notC (truC (callM 2 (F ._law_one) (consA (varM 3) (consA (varM 4) (nilA)))))) (rtM (conM (.bl false))) (nxM)) (seqM (ifS (andC (tstM (binM gtF (appM lenF (consA (varM 3) (nilA))) (conM (.int 0)))) (notC (truC (callM 2 (F ._law_one) (consA (slM (varM 3) (noM) (partM (conM (.int 1)))) (consA (slM (varM 4) (noM) (partM (conM (.int 1)))) (nilA))))))) (rtM (conM (.bl false))) (nxM)) (seqM (ifS (notC (truC (callM 2 (F ._law_one) (consA (slM (varM 3) (partM (conM (.int 1))) (noM)) (consA (slM (varM 4) (partM (conM (.int 1))) (noM)) (nilA)))))) (rtM (conM (.bl false))) (nxM)) (ifS (notC (truC (callM 2 (F ._law_one) (consA (binM addF (slM (varM 3) (noM) (partM (conM (.int 3)))) (compM (seqI (slM (varM 3) (noM) (partM (conM (.int 1))))) (.one 5) (yesC) (binM ixF (varM 3) (conM (.int 0))) [5])) (consA (binM addF (slM (varM 4) (noM) (partM (conM (.int 3)))) (slM (varM 4) (noM) (partM (conM (.int 1))))) (nilA)))))) (rtM (conM (.bl false))) (nxM))))))) (rtM (callM 2 (F ._law_one) (consA (lstM (nilA)) (consA (lstM (nilA)) (nilA))))))
noncomputable def step (F : Fn → List D → Sto → Option (D × Sto)) : Fn → List D → Sto → Option (D × Sto)
  | .sorted_counted => bodyM 5 (b_sorted_counted F)
  | .merged_places => bodyM 11 (b_merged_places F)
  | ._law_deal => bodyM 6 (b__law_deal F)
  | ._law_pick => bodyM 2 (b__law_pick F)
  | ._law_rank => bodyM 3 (b__law_rank F)
  | ._law_thing => bodyM 3 (b__law_thing F)
  | ._law_scene => bodyM 11 (b__law_scene F)
  | ._law_same => bodyM 3 (b__law_same F)
  | ._law_sorted => bodyM 7 (b__law_sorted F)
  | ._law_compared => bodyM 6 (b__law_compared F)
  | ._law_least => bodyM 1 (b__law_least F)
  | ._law_lift => bodyM 4 (b__law_lift F)
  | ._law_good => bodyM 3 (b__law_good F)
  | ._law_one => bodyM 6 (b__law_one F)
  | .law => bodyM 6 (b_law F)
noncomputable def den : Nat → Fn → List D → Sto → Option (D × Sto)
  | 0 => fun _ _ _ => none
  | k + 1 => step (den k)
end Gn
namespace Gn
open PySem L2 Ml
/-- what law computes at a script -/
def Good : Prop := ∀ ns : List Int, ns.length ≤ 63 → ∃ S, den 100 .law [.rl (ns.map D.int)] [] = some (.bl true, S)
end Gn
set_option maxHeartbeats 4000000 -- wide
namespace Gn
open L2 PyProof.Rows PySem PySem.Spec Ml
def top (i : Nat) : Stmt := PySem.Challenge.pw_leastplans_k69_sorted_counted_by_halves.main.body.getD i (.Pass ⟨0, 0, 0, 0⟩)
abbrev s1 : Stmt := top 1
abbrev s2 : Stmt := top 2
abbrev s4 : Stmt := top 4
abbrev s5 : Stmt := top 5
abbrev s6 : Stmt := top 6
abbrev s7 : Stmt := top 7
abbrev s8 : Stmt := top 8
abbrev s9 : Stmt := top 9
abbrev s10 : Stmt := top 10
abbrev s11 : Stmt := top 11
abbrev s12 : Stmt := top 12
abbrev s13 : Stmt := top 13
abbrev s14 : Stmt := top 14
abbrev s15 : Stmt := top 15
abbrev s16 : Stmt := top 16
def nm : Fn → Str
  | .sorted_counted => "sorted_counted"
  | .merged_places => "merged_places"
  | ._law_deal => "_law_deal"
  | ._law_pick => "_law_pick"
  | ._law_rank => "_law_rank"
  | ._law_thing => "_law_thing"
  | ._law_scene => "_law_scene"
  | ._law_same => "_law_same"
  | ._law_sorted => "_law_sorted"
  | ._law_compared => "_law_compared"
  | ._law_least => "_law_least"
  | ._law_lift => "_law_lift"
  | ._law_good => "_law_good"
  | ._law_one => "_law_one"
  | .law => "law"
def stm : Fn → Stmt
  | .sorted_counted => s1
  | .merged_places => s2
  | ._law_deal => s4
  | ._law_pick => s5
  | ._law_rank => s6
  | ._law_thing => s7
  | ._law_scene => s8
  | ._law_same => s9
  | ._law_sorted => s10
  | ._law_compared => s11
  | ._law_least => s12
  | ._law_lift => s13
  | ._law_good => s14
  | ._law_one => s15
  | .law => s16
def par : Fn → List Str
  | .sorted_counted => ["rows", "ranks"]
  | .merged_places => ["places", "ranks"]
  | ._law_deal => ["_law_script"]
  | ._law_pick => ["_law_deal_here", "_law_many"]
  | ._law_rank => ["_law_deal_here", "_law_way"]
  | ._law_thing => ["_law_deal_here", "_law_at"]
  | ._law_scene => ["_law_deal_here"]
  | ._law_same => ["_law_one_here", "_law_other"]
  | ._law_sorted => ["_law_rows", "_law_ranks"]
  | ._law_compared => ["_law_ranks"]
  | ._law_least => ["_law_many"]
  | ._law_lift => ["_law_many"]
  | ._law_good => ["_law_told", "_law_rows", "_law_ranks"]
  | ._law_one => ["_law_rows", "_law_ranks"]
  | .law => ["_law_script"]
structure Txt (K : PySem.W.Frag) (w : World) (g : Str → Option Value) where
  ad : Fn → Addr
  fd : Fn → FuncData
  fn : ∀ f, isTop f = true → Fun K (nm f) (nm f) (stm f) (ad f) (fd f)
  mg : ∀ f, isTop f = true → g (nm f) = some (.ref (ad f))
  ns : ∀ f, isTop f = true → PySem.W.nsIn K mainGlobals (nm f) = some (some (.ref (ad f)))
  bd : ∀ f, isTop f = true → Binds K (fd f) (par f) []
  lawB : ∀ (s : Shared) (u : Value), BindsTo s (fd .law) ⟨[u], []⟩ [("_law_script", u)]
  z_all : g "all" = none
  z_bool : g "bool" = none
  z_int : g "int" = none
  z_isinstance : g "isinstance" = none
  z_len : g "len" = none
  z_list : g "list" = none
  z_max : g "max" = none
  z_min : g "min" = none
  z_range : g "range" = none
  z_sorted : g "sorted" = none
  z_str : g "str" = none
  z_tuple : g "tuple" = none
  kb_sorted_counted_0_ranks_rows : KBind (fd .sorted_counted) (par .sorted_counted) ["ranks", "rows"] 0 [1, 0]
variable {K : PySem.W.Frag} {w : World} {g : Str → Option Value}
abbrev Txt.tb (T : Txt K w g) : List NdefX.NTab := []
abbrev Txt.cs (T : Txt K w g) : List (Addr × Addr) := []
structure All (P : Program) (T : Txt K w g) (base : Heap) (k : Nat) (F : Fn → List D → Sto → Option (D × Sto)) : Prop where
  f : ∀ f, isTop f = true → FnOk P w K g base CX0 k (T.ad f) (T.fd f) (par f) (spM ⟨K, P, w, base, T.tb⟩ (par f).length (F f))
  n : ∀ id nd, tabN id = some nd → NokM P w K g base T.tb k nd (gN F id)
theorem if_cand {z y : Str} {α : Type} {a G : α} {b : Option α} {C : α → Prop} (h : z = y → C a) (h2 : b = some G → C G) : (if z = y then some a else b) = some G → C G := fun e => by
  split at e
  · rename_i q; cases e; exact h q
  · exact h2 e
theorem if_cand0 {α : Type} {G : α} {C : α → Prop} : (none : Option α) = some G → C G := fun e => nomatch e
end Gn
set_option maxHeartbeats 4000000 -- wide
namespace Gn
open L2 PyProof.Rows PySem PySem.Spec Ml
section
variable {P : Program} {w : World} {K : PySem.W.Frag} {g : Str → Option Value} {base : Heap}
theorem sc_sorted_counted : FnScope ["rows", "ranks", "places", "many", "at"] (par .sorted_counted) (defScope s1) := ⟨rfl, rfl, rfl, by decide +kernel, rfl, by decide +kernel, by decide +kernel⟩
theorem nd0_sorted_counted : (["rows", "ranks", "places", "many", "at"] : List Str).Nodup := by decide +kernel
theorem ok_sorted_counted {k : Nat} {F : Fn → List D → Sto → Option (D × Sto)} (T : Txt K w g) (AH : ∀ base, (∀ p ∈ T.cs, LamX.TabB base g p.1 p.2) → All P T base k F) (hTB : ∀ p ∈ T.cs, LamX.TabB base g p.1 p.2) :
    FnOk P w K g base CX0 (k + 1) (T.ad .sorted_counted) (T.fd .sorted_counted) (par .sorted_counted) (spM ⟨K, P, w, base, T.tb⟩ (par .sorted_counted).length (bodyM 5 (b_sorted_counted F))) := by
  refine ok_def (N := ["rows", "ranks", "places", "many", "at"]) (T.fn .sorted_counted rfl) sc_sorted_counted (by decide) fun cdv A outer s0 H E hr => ?_
  have nd := nd0_sorted_counted
  have IH := AH base hTB
  exact (mss_cons (ms_asg (me_call (IH.f .merged_places rfl) hr rfl (T.mg .merged_places rfl) (T.fn .merged_places rfl).kp (T.bd .merged_places rfl) (ma_cons (me_lrng rfl rfl T.z_list rfl T.z_range (me_callB call_len lenF_ok rfl T.z_len (by decide +kernel) (ma_cons (me_var 0) ma_nil))) (ma_cons (me_var 1) ma_nil))) (mg_tup rfl (mgs_cons (mg_name 2 nd rfl (.inl rfl)) (mgs_cons (mg_name 3 nd rfl (.inl rfl)) mgs_nil))))
    (mss_one (ms_ret (me_tup (ma_cons (me_lc (tgt := (.one 4)) (own := [("at", 4)]) rfl nd (mi_seq (me_var 2)) (blkOk_by (own := [("at", 4)]) (N := ["rows", "ranks", "places", "many", "at"]) (sc := defScope s1) (by decide +kernel)) rfl (fun _ _ _ _ _ => pg_name (i := 4) nd rfl (Or.inl rfl)) (fun _ _ _ _ _ => mts_nil) (fun _ _ _ _ _ => (me_ix (me_var 0) (me_var 4)))) (ma_cons (me_var 3) ma_nil))))))
theorem sc_merged_places : FnScope ["places", "ranks", "half", "firsts", "first_many", "seconds", "second_many", "found", "one", "other", "many"] (par .merged_places) (defScope s2) := ⟨rfl, rfl, rfl, by decide +kernel, rfl, by decide +kernel, by decide +kernel⟩
theorem nd0_merged_places : (["places", "ranks", "half", "firsts", "first_many", "seconds", "second_many", "found", "one", "other", "many"] : List Str).Nodup := by decide +kernel
theorem ok_merged_places {k : Nat} {F : Fn → List D → Sto → Option (D × Sto)} (T : Txt K w g) (AH : ∀ base, (∀ p ∈ T.cs, LamX.TabB base g p.1 p.2) → All P T base k F) (hTB : ∀ p ∈ T.cs, LamX.TabB base g p.1 p.2) :
    FnOk P w K g base CX0 (k + 1) (T.ad .merged_places) (T.fd .merged_places) (par .merged_places) (spM ⟨K, P, w, base, T.tb⟩ (par .merged_places).length (bodyM 11 (b_merged_places F))) := by
  refine ok_def (N := ["places", "ranks", "half", "firsts", "first_many", "seconds", "second_many", "found", "one", "other", "many"]) (T.fn .merged_places rfl) sc_merged_places (by decide) fun cdv A outer s0 H E hr => ?_
  have nd := nd0_merged_places
  have IH := AH base hTB
  exact (mss_cons (ms_if (mt_cmp or_le leF_ok (me_callB call_len lenF_ok rfl T.z_len (by decide +kernel) (ma_cons (me_var 0) ma_nil)) me_int (nomark _)) (mss_one (ms_ret (me_tup (ma_cons (me_var 0) (ma_cons me_int ma_nil))))) mss_nil)
    (mss_cons (ms_set 2 nd rfl (.inl rfl) (me_fdiv (me_callB call_len lenF_ok rfl T.z_len (by decide +kernel) (ma_cons (me_var 0) ma_nil)) me_int))
    (mss_cons (ms_asg (me_call (IH.f .merged_places rfl) hr rfl (T.mg .merged_places rfl) (T.fn .merged_places rfl).kp (T.bd .merged_places rfl) (ma_cons (me_slice (me_var 0) mo_none (mo_some (me_var 2))) (ma_cons (me_var 1) ma_nil))) (mg_tup rfl (mgs_cons (mg_name 3 nd rfl (.inl rfl)) (mgs_cons (mg_name 4 nd rfl (.inl rfl)) mgs_nil))))
    (mss_cons (ms_asg (me_call (IH.f .merged_places rfl) hr rfl (T.mg .merged_places rfl) (T.fn .merged_places rfl).kp (T.bd .merged_places rfl) (ma_cons (me_slice (me_var 0) (mo_some (me_var 2)) mo_none) (ma_cons (me_var 1) ma_nil))) (mg_tup rfl (mgs_cons (mg_name 5 nd rfl (.inl rfl)) (mgs_cons (mg_name 6 nd rfl (.inl rfl)) mgs_nil))))
    (mss_cons (ms_set 7 nd rfl (.inl rfl) (me_lst ma_nil))
    (mss_cons (ms_asg3 me_int (mg_name 8 nd rfl (.inl rfl)) (mg_name 9 nd rfl (.inl rfl)) (mg_name 10 nd rfl (.inl rfl)))
    (mss_cons (ms_while PassesOwn.never (PW.pt (mw_and (mt_cmp or_lt ltF_ok (me_var 8) (me_callB call_len lenF_ok rfl T.z_len (by decide +kernel) (ma_cons (me_var 3) ma_nil)) (nomark _)) (mw_and1 (mt_cmp or_lt ltF_ok (me_var 9) (me_callB call_len lenF_ok rfl T.z_len (by decide +kernel) (ma_cons (me_var 5) ma_nil)) (nomark _))))) (mss_cons (ms_aug 10 nd rfl (.inl rfl) me_int ip_add iaddF_ok)
    (mss_one (ms_if (mt_cmp (op_ltD hr.units) ordT_ok (me_ix (me_var 1) (me_ix (me_var 5) (me_var 9))) (me_ix (me_var 1) (me_ix (me_var 3) (me_var 8))) (nomark _)) (mss_cons (ms_expr (me_bm PySem.F.plainAttrs_list PySem.F.slot_list_append PySem.F.type_list_append mt_append appendF_ok (me_var 7) (ma_cons (me_ix (me_var 5) (me_var 9)) ma_nil)))
    (mss_one (ms_aug 9 nd rfl (.inl rfl) me_int ip_add iaddF_ok))) (mss_cons (ms_expr (me_bm PySem.F.plainAttrs_list PySem.F.slot_list_append PySem.F.type_list_append mt_append appendF_ok (me_var 7) (ma_cons (me_ix (me_var 3) (me_var 8)) ma_nil)))
    (mss_one (ms_aug 8 nd rfl (.inl rfl) me_int ip_add iaddF_ok)))))))
    (mss_one (ms_ret (me_tup (ma_cons (me_add (me_add (me_var 7) (me_slice (me_var 3) (mo_some (me_var 8)) mo_none)) (me_slice (me_var 5) (mo_some (me_var 9)) mo_none)) (ma_cons (me_add (me_add (me_var 4) (me_var 6)) (me_var 10)) ma_nil))))))))))))
theorem sc__law_deal : FnScope ["_law_script", "_law_seed", "_law_row", "_law_cell", "_law_rest", "_law_k"] (par ._law_deal) (defScope s4) := ⟨rfl, rfl, rfl, by decide +kernel, rfl, by decide +kernel, by decide +kernel⟩
theorem nd0__law_deal : (["_law_script", "_law_seed", "_law_row", "_law_cell", "_law_rest", "_law_k"] : List Str).Nodup := by decide +kernel
theorem ok__law_deal {k : Nat} {F : Fn → List D → Sto → Option (D × Sto)} (T : Txt K w g) (AH : ∀ base, (∀ p ∈ T.cs, LamX.TabB base g p.1 p.2) → All P T base k F) (hTB : ∀ p ∈ T.cs, LamX.TabB base g p.1 p.2) :
    FnOk P w K g base CX0 (k + 1) (T.ad ._law_deal) (T.fd ._law_deal) (par ._law_deal) (spM ⟨K, P, w, base, T.tb⟩ (par ._law_deal).length (bodyM 6 (b__law_deal F))) := by
  refine ok_def (N := ["_law_script", "_law_seed", "_law_row", "_law_cell", "_law_rest", "_law_k"]) (T.fn ._law_deal rfl) sc__law_deal (by decide) fun cdv A outer s0 H E hr => ?_
  have nd := nd0__law_deal
  have IH := AH base hTB
  exact (mss_cons (ms_set 1 nd rfl (.inl rfl) (me_add me_int (me_mul me_int (me_callB call_len lenF_ok rfl T.z_len (by decide +kernel) (ma_cons (me_var 0) ma_nil)))))
    (mss_cons (ms_set 2 nd rfl (.inl rfl) (me_lst ma_nil))
    (mss_cons (ms_for PassesOwn.never rfl (mi_rl (me_var 0)) (mg_name 3 nd rfl (.inl rfl)) (mss_cons (ms_set 4 nd rfl (.inl rfl) (me_callTy call_int1 intF_ok rfl T.z_int (by decide +kernel) (ma_cons (me_var 3) ma_nil)))
    (mss_cons (ms_if (mt_cmp or_lt ltF_ok (me_var 4) me_int (nomark _)) (mss_one (ms_set 4 nd rfl (.inl rfl) (me_sub me_int (me_mul me_int (me_var 4))))) mss_nil)
    (mss_one (ms_if (mt_cmp or_ge geF_ok (me_var 4) (me_pow me_int me_int) (nomark _)) (mss_one (ms_for PassesOwn.never rfl (mi_rng1 rfl T.z_range (ma_cons me_int ma_nil)) (mg_name 5 nd rfl (.inl rfl)) (mss_cons (ms_if (mt_cmp (or_eq hr.units) eqF_ok (me_var 4) me_int (nomark _)) (mss_one ms_break) mss_nil)
    (mss_cons (ms_expr (me_bm PySem.F.plainAttrs_list PySem.F.slot_list_append PySem.F.type_list_append mt_append appendF_ok (me_var 2) (ma_cons (me_mod (me_callTy call_int1 intF_ok rfl T.z_int (by decide +kernel) (ma_cons (me_var 4) ma_nil)) me_int) ma_nil)))
    (mss_one (ms_set 4 nd rfl (.inl rfl) (me_fdiv (me_var 4) me_int))))))) (mss_cons (ms_set 1 nd rfl (.inl rfl) (me_mod (me_callTy call_int1 intF_ok rfl T.z_int (by decide +kernel) (ma_cons (me_add (me_add (me_mul (me_var 1) me_int) (me_mul (me_var 4) me_int)) me_int) ma_nil)) me_int))
    (mss_one (ms_expr (me_bm PySem.F.plainAttrs_list PySem.F.slot_list_append PySem.F.type_list_append mt_append appendF_ok (me_var 2) (ma_cons (me_fdiv (me_mod (me_callTy call_int1 intF_ok rfl T.z_int (by decide +kernel) (ma_cons (me_add (me_mul (me_var 1) me_int) (me_var 4)) ma_nil)) me_int) me_int) ma_nil))))))))))
    (mss_cons (ms_for PassesOwn.never rfl (mi_rng1 rfl T.z_range (ma_cons me_int ma_nil)) (mg_name 5 nd rfl (.inl rfl)) (mss_one (ms_if (mt_cmp or_lt ltF_ok (me_callB call_len lenF_ok rfl T.z_len (by decide +kernel) (ma_cons (me_var 2) ma_nil)) me_int (nomark _)) (mss_cons (ms_set 1 nd rfl (.inl rfl) (me_mod (me_callTy call_int1 intF_ok rfl T.z_int (by decide +kernel) (ma_cons (me_add (me_add (me_mul (me_var 1) me_int) (me_var 5)) me_int) ma_nil)) me_int))
    (mss_one (ms_expr (me_bm PySem.F.plainAttrs_list PySem.F.slot_list_append PySem.F.type_list_append mt_append appendF_ok (me_var 2) (ma_cons (me_fdiv (me_var 1) me_int) ma_nil))))) mss_nil)))
    (mss_one (ms_ret (me_rev (me_var 2))))))))
theorem sc__law_pick : FnScope ["_law_deal_here", "_law_many"] (par ._law_pick) (defScope s5) := ⟨rfl, rfl, rfl, by decide +kernel, rfl, by decide +kernel, by decide +kernel⟩
theorem nd0__law_pick : (["_law_deal_here", "_law_many"] : List Str).Nodup := by decide +kernel
theorem ok__law_pick {k : Nat} {F : Fn → List D → Sto → Option (D × Sto)} (T : Txt K w g) (AH : ∀ base, (∀ p ∈ T.cs, LamX.TabB base g p.1 p.2) → All P T base k F) (hTB : ∀ p ∈ T.cs, LamX.TabB base g p.1 p.2) :
    FnOk P w K g base CX0 (k + 1) (T.ad ._law_pick) (T.fd ._law_pick) (par ._law_pick) (spM ⟨K, P, w, base, T.tb⟩ (par ._law_pick).length (bodyM 2 (b__law_pick F))) := by
  refine ok_def (N := ["_law_deal_here", "_law_many"]) (T.fn ._law_pick rfl) sc__law_pick (by decide) fun cdv A outer s0 H E hr => ?_
  have nd := nd0__law_pick
  have IH := AH base hTB
  exact (mss_cons (ms_if (mt_cmp (or_eq hr.units) eqF_ok (me_callB call_len lenF_ok rfl T.z_len (by decide +kernel) (ma_cons (me_var 0) ma_nil)) me_int (nomark _)) (mss_one (ms_ret me_int)) mss_nil)
    (mss_one (ms_ret (me_mod (me_callTy call_int1 intF_ok rfl T.z_int (by decide +kernel) (ma_cons (me_bm0 PySem.F.plainAttrs_list PySem.F.slot_list_pop PySem.F.type_list_pop mt_pop popF_ok (me_var 0)) ma_nil)) (me_var 1)))))
theorem sc__law_rank : FnScope ["_law_deal_here", "_law_way", "_law_number"] (par ._law_rank) (defScope s6) := ⟨rfl, rfl, rfl, by decide +kernel, rfl, by decide +kernel, by decide +kernel⟩
theorem nd0__law_rank : (["_law_deal_here", "_law_way", "_law_number"] : List Str).Nodup := by decide +kernel
theorem ok__law_rank {k : Nat} {F : Fn → List D → Sto → Option (D × Sto)} (T : Txt K w g) (AH : ∀ base, (∀ p ∈ T.cs, LamX.TabB base g p.1 p.2) → All P T base k F) (hTB : ∀ p ∈ T.cs, LamX.TabB base g p.1 p.2) :
    FnOk P w K g base CX0 (k + 1) (T.ad ._law_rank) (T.fd ._law_rank) (par ._law_rank) (spM ⟨K, P, w, base, T.tb⟩ (par ._law_rank).length (bodyM 3 (b__law_rank F))) := by
  refine ok_def (N := ["_law_deal_here", "_law_way", "_law_number"]) (T.fn ._law_rank rfl) sc__law_rank (by decide) fun cdv A outer s0 H E hr => ?_
  have nd := nd0__law_rank
  have IH := AH base hTB
  exact (mss_cons (ms_set 2 nd rfl (.inl rfl) (me_call (IH.f ._law_pick rfl) hr rfl (T.mg ._law_pick rfl) (T.fn ._law_pick rfl).kp (T.bd ._law_pick rfl) (ma_cons (me_var 0) (ma_cons me_int ma_nil))))
    (mss_cons (ms_if (mt_cmp (or_eq hr.units) eqF_ok (me_var 2) me_int (nomark _)) (mss_one (ms_ret (me_tup (ma_cons me_int ma_nil)))) mss_nil)
    (mss_cons (ms_if (mt_cmp (or_eq hr.units) eqF_ok (me_var 1) me_int (nomark _)) (mss_one (ms_ret (me_tup (ma_cons me_int (ma_cons (me_slice me_str (mo_some (me_mod (me_var 2) me_int)) (mo_some (me_add (me_add (me_mod (me_var 2) me_int) me_int) (me_fdiv (me_var 2) me_int)))) ma_nil))))) mss_nil)
    (mss_cons (ms_if (mt_cmp (or_eq hr.units) eqF_ok (me_var 1) me_int (nomark _)) (mss_one (ms_ret (me_tup (ma_cons me_int (ma_cons (me_add (me_mul (me_sub (me_var 2) me_int) (me_pow me_int me_int)) (me_call (IH.f ._law_pick rfl) hr rfl (T.mg ._law_pick rfl) (T.fn ._law_pick rfl).kp (T.bd ._law_pick rfl) (ma_cons (me_var 0) (ma_cons me_int ma_nil)))) ma_nil))))) mss_nil)
    (mss_cons (ms_if (mt_cmp (or_eq hr.units) eqF_ok (me_var 1) me_int (nomark _)) (mss_one (ms_ret (me_tup (ma_cons me_int (ma_cons (me_sub (me_add (me_mul (me_var 2) me_int) (me_call (IH.f ._law_pick rfl) hr rfl (T.mg ._law_pick rfl) (T.fn ._law_pick rfl).kp (T.bd ._law_pick rfl) (ma_cons (me_var 0) (ma_cons me_int ma_nil)))) me_int) ma_nil))))) mss_nil)
    (mss_one (ms_ret (me_tup (ma_cons me_int (ma_cons (me_mod (me_var 2) me_int) ma_nil))))))))))
theorem sc__law_thing : FnScope ["_law_deal_here", "_law_at", "_law_number"] (par ._law_thing) (defScope s7) := ⟨rfl, rfl, rfl, by decide +kernel, rfl, by decide +kernel, by decide +kernel⟩
theorem nd0__law_thing : (["_law_deal_here", "_law_at", "_law_number"] : List Str).Nodup := by decide +kernel
theorem ok__law_thing {k : Nat} {F : Fn → List D → Sto → Option (D × Sto)} (T : Txt K w g) (AH : ∀ base, (∀ p ∈ T.cs, LamX.TabB base g p.1 p.2) → All P T base k F) (hTB : ∀ p ∈ T.cs, LamX.TabB base g p.1 p.2) :
    FnOk P w K g base CX0 (k + 1) (T.ad ._law_thing) (T.fd ._law_thing) (par ._law_thing) (spM ⟨K, P, w, base, T.tb⟩ (par ._law_thing).length (bodyM 3 (b__law_thing F))) := by
  refine ok_def (N := ["_law_deal_here", "_law_at", "_law_number"]) (T.fn ._law_thing rfl) sc__law_thing (by decide) fun cdv A outer s0 H E hr => ?_
  have nd := nd0__law_thing
  have IH := AH base hTB
  exact (mss_cons (ms_set 2 nd rfl (.inl rfl) (me_call (IH.f ._law_pick rfl) hr rfl (T.mg ._law_pick rfl) (T.fn ._law_pick rfl).kp (T.bd ._law_pick rfl) (ma_cons (me_var 0) (ma_cons me_int ma_nil))))
    (mss_cons (ms_if (mt_cmp (or_eq hr.units) eqF_ok (me_var 2) me_int (nomark _)) (mss_one (ms_ret me_non)) mss_nil)
    (mss_cons (ms_if (mt_cmp (or_eq hr.units) eqF_ok (me_var 2) me_int (nomark _)) (mss_one (ms_ret me_bl)) mss_nil)
    (mss_cons (ms_if (mt_cmp (or_eq hr.units) eqF_ok (me_var 2) me_int (nomark _)) (mss_one (ms_ret me_int)) mss_nil)
    (mss_cons (ms_if (mt_cmp (or_eq hr.units) eqF_ok (me_var 2) me_int (nomark _)) (mss_one (ms_ret me_str)) mss_nil)
    (mss_cons (ms_if (mt_cmp (or_eq hr.units) eqF_ok (me_var 2) me_int (nomark _)) (mss_one (ms_ret (me_lst (ma_cons (me_var 1) (ma_cons me_str ma_nil))))) mss_nil)
    (mss_cons (ms_if (mt_cmp or_lt ltF_ok (me_var 2) me_int (nomark _)) (mss_one (ms_ret (me_tup (ma_cons (me_var 1) (ma_cons me_non (ma_cons (me_var 2) ma_nil)))))) mss_nil)
    (mss_one (ms_ret (me_var 1))))))))))
end
end Gn
set_option maxHeartbeats 4000000 -- wide
namespace Gn
open L2 PyProof.Rows PySem PySem.Spec Ml
section
variable {P : Program} {w : World} {K : PySem.W.Frag} {g : Str → Option Value} {base : Heap}
theorem sc__law_scene : FnScope ["_law_deal_here", "_law_wide", "_law_ways", "_law_many", "_law_ranks", "_law_k", "_law_form", "_law_half", "_law_rows", "_law_way", "_law_one_here"] (par ._law_scene) (defScope s8) := ⟨rfl, rfl, rfl, by decide +kernel, rfl, by decide +kernel, by decide +kernel⟩
theorem nd0__law_scene : (["_law_deal_here", "_law_wide", "_law_ways", "_law_many", "_law_ranks", "_law_k", "_law_form", "_law_half", "_law_rows", "_law_way", "_law_one_here"] : List Str).Nodup := by decide +kernel
theorem ok__law_scene {k : Nat} {F : Fn → List D → Sto → Option (D × Sto)} (T : Txt K w g) (AH : ∀ base, (∀ p ∈ T.cs, LamX.TabB base g p.1 p.2) → All P T base k F) (hTB : ∀ p ∈ T.cs, LamX.TabB base g p.1 p.2) :
    FnOk P w K g base CX0 (k + 1) (T.ad ._law_scene) (T.fd ._law_scene) (par ._law_scene) (spM ⟨K, P, w, base, T.tb⟩ (par ._law_scene).length (bodyM 11 (b__law_scene F))) := by
  refine ok_def (N := ["_law_deal_here", "_law_wide", "_law_ways", "_law_many", "_law_ranks", "_law_k", "_law_form", "_law_half", "_law_rows", "_law_way", "_law_one_here"]) (T.fn ._law_scene rfl) sc__law_scene (by decide) fun cdv A outer s0 H E hr => ?_
  have nd := nd0__law_scene
  have IH := AH base hTB
  exact (mss_cons (ms_set 1 nd rfl (.inl rfl) (me_add (me_add me_int (me_fdiv (me_call (IH.f ._law_pick rfl) hr rfl (T.mg ._law_pick rfl) (T.fn ._law_pick rfl).kp (T.bd ._law_pick rfl) (ma_cons (me_var 0) (ma_cons me_int ma_nil))) me_int)) (me_fdiv (me_call (IH.f ._law_pick rfl) hr rfl (T.mg ._law_pick rfl) (T.fn ._law_pick rfl).kp (T.bd ._law_pick rfl) (ma_cons (me_var 0) (ma_cons me_int ma_nil))) me_int)))
    (mss_cons (ms_setLc 2 (tgt := (.one 5)) (own := [("_law_k", 5)]) rfl nd rfl rfl (sw_true rfl rfl rfl (by decide +kernel)) (mi_rng1 rfl T.z_range (ma_cons (me_var 1) ma_nil)) (blkOk_by (own := [("_law_k", 5)]) (N := ["_law_deal_here", "_law_wide", "_law_ways", "_law_many", "_law_ranks", "_law_k", "_law_form", "_law_half", "_law_rows", "_law_way", "_law_one_here"]) (sc := defScope s8) (by decide +kernel)) rfl (fun _ _ _ _ _ => pg_name (i := 5) nd rfl (Or.inl rfl)) (fun _ _ _ _ _ => mts_nil) (fun _ _ _ _ _ => (me_call (IH.f ._law_pick rfl) hr rfl (T.mg ._law_pick rfl) (T.fn ._law_pick rfl).kp (T.bd ._law_pick rfl) (ma_cons (me_var 0) (ma_cons me_int ma_nil)))))
    (mss_cons (ms_set 3 nd rfl (.inl rfl) (me_call (IH.f ._law_pick rfl) hr rfl (T.mg ._law_pick rfl) (T.fn ._law_pick rfl).kp (T.bd ._law_pick rfl) (ma_cons (me_var 0) (ma_cons me_int ma_nil))))
    (mss_cons (ms_if (mt_cmp or_gt gtF_ok (me_call (IH.f ._law_pick rfl) hr rfl (T.mg ._law_pick rfl) (T.fn ._law_pick rfl).kp (T.bd ._law_pick rfl) (ma_cons (me_var 0) (ma_cons me_int ma_nil))) me_int (nomark _)) (mss_one (ms_set 3 nd rfl (.inl rfl) (me_call (IH.f ._law_pick rfl) hr rfl (T.mg ._law_pick rfl) (T.fn ._law_pick rfl).kp (T.bd ._law_pick rfl) (ma_cons (me_var 0) (ma_cons me_int ma_nil))))) mss_nil)
    (mss_cons (ms_if (mt_cmp or_gt gtF_ok (me_var 1) me_int (nomark _)) (mss_one (ms_set 3 nd rfl (.inl rfl) (me_callB (call_min2 rfl) minF_ok rfl T.z_min (by decide +kernel) (ma_cons (me_var 3) (ma_cons me_int ma_nil))))) mss_nil)
    (mss_cons (ms_set 4 nd rfl (.inr rfl) (me_lst ma_nil))
    (mss_cons (ms_for PassesOwn.never rfl (mi_rng1 rfl T.z_range (ma_cons (me_var 3) ma_nil)) (mg_name 5 nd rfl (.inl rfl)) (mss_one (ms_expr (me_bm PySem.F.plainAttrs_list PySem.F.slot_list_append PySem.F.type_list_append mt_append appendF_ok (me_var 4) (ma_cons (me_callTy call_tuple_of tupleF_ok rfl T.z_tuple (by decide +kernel) (ma_cons (me_lc (tgt := (.one 9)) (own := [("_law_way", 9)]) rfl nd (mi_seq (me_var 2)) (blkOk_by (own := [("_law_way", 9)]) (N := ["_law_deal_here", "_law_wide", "_law_ways", "_law_many", "_law_ranks", "_law_k", "_law_form", "_law_half", "_law_rows", "_law_way", "_law_one_here"]) (sc := defScope s8) (by decide +kernel)) rfl (fun _ _ _ _ _ => pg_name (i := 9) nd rfl (Or.inl rfl)) (fun _ _ _ _ _ => mts_nil) (fun _ _ _ _ _ => (me_call (IH.f ._law_rank rfl) hr rfl (T.mg ._law_rank rfl) (T.fn ._law_rank rfl).kp (T.bd ._law_rank rfl) (ma_cons (me_var 0) (ma_cons (me_var 9) ma_nil))))) ma_nil)) ma_nil)))))
    (mss_cons (ms_set 6 nd rfl (.inl rfl) (me_call (IH.f ._law_pick rfl) hr rfl (T.mg ._law_pick rfl) (T.fn ._law_pick rfl).kp (T.bd ._law_pick rfl) (ma_cons (me_var 0) (ma_cons me_int ma_nil))))
    (mss_cons (ms_if (mt_cmp (or_eq hr.units) eqF_ok (me_var 6) me_int (nomark _)) (mss_one (ms_set 4 nd rfl (.inr rfl) (me_callB (cr_sortedD hr.units) sortedF_ok rfl T.z_sorted (by decide +kernel) (ma_cons (me_var 4) ma_nil)))) mss_nil)
    (mss_cons (ms_if (mt_cmp (or_eq hr.units) eqF_ok (me_var 6) me_int (nomark _)) (mss_one (ms_set 4 nd rfl (.inr rfl) (me_callBK (cr_sortedDR (b := true) hr.units) sortedRF_ok rfl T.z_sorted (by decide +kernel) (ma_cons (me_var 4) ma_nil) (mk_cons me_bl mk_nil)))) mss_nil)
    (mss_cons (ms_if (PW.pt (mw_and (mt_cmp (or_eq hr.units) eqF_ok (me_var 6) me_int (nomark _)) (mw_and1 (mt_cmp or_gt gtF_ok (me_var 3) me_int (nomark _))))) (mss_one (ms_set 4 nd rfl (.inr rfl) (me_lc (tgt := (.one 10)) (own := [("_law_one_here", 10)]) rfl nd (mi_seq (me_var 4)) (blkOk_by (own := [("_law_one_here", 10)]) (N := ["_law_deal_here", "_law_wide", "_law_ways", "_law_many", "_law_ranks", "_law_k", "_law_form", "_law_half", "_law_rows", "_law_way", "_law_one_here"]) (sc := defScope s8) (by decide +kernel)) rfl (fun _ _ _ _ _ => pg_name (i := 10) nd rfl (Or.inl rfl)) (fun _ _ _ _ _ => mts_nil) (fun _ _ _ _ _ => (me_ix (me_var 4) me_int))))) mss_nil)
    (mss_cons (ms_if (mt_cmp (or_eq hr.units) eqF_ok (me_var 6) me_int (nomark _)) (mss_cons (ms_set 7 nd rfl (.inl rfl) (me_fdiv (me_callB call_len lenF_ok rfl T.z_len (by decide +kernel) (ma_cons (me_var 4) ma_nil)) me_int))
    (mss_one (ms_set 4 nd rfl (.inr rfl) (me_add (me_callB (cr_sortedD hr.units) sortedF_ok rfl T.z_sorted (by decide +kernel) (ma_cons (me_slice (me_var 4) (mo_some (me_var 7)) mo_none) ma_nil)) (me_callB (cr_sortedD hr.units) sortedF_ok rfl T.z_sorted (by decide +kernel) (ma_cons (me_slice (me_var 4) mo_none (mo_some (me_var 7))) ma_nil)))))) mss_nil)
    (mss_cons (ms_setLc 8 (tgt := (.one 5)) (own := [("_law_k", 5)]) rfl nd rfl rfl (sw_true rfl rfl rfl (by decide +kernel)) (mi_rng1 rfl T.z_range (ma_cons (me_var 3) ma_nil)) (blkOk_by (own := [("_law_k", 5)]) (N := ["_law_deal_here", "_law_wide", "_law_ways", "_law_many", "_law_ranks", "_law_k", "_law_form", "_law_half", "_law_rows", "_law_way", "_law_one_here"]) (sc := defScope s8) (by decide +kernel)) rfl (fun _ _ _ _ _ => pg_name (i := 5) nd rfl (Or.inl rfl)) (fun _ _ _ _ _ => mts_nil) (fun _ _ _ _ _ => (me_call (IH.f ._law_thing rfl) hr rfl (T.mg ._law_thing rfl) (T.fn ._law_thing rfl).kp (T.bd ._law_thing rfl) (ma_cons (me_var 0) (ma_cons (me_var 5) ma_nil)))))
    (mss_cons (ms_if (PW.pt (mw_and (mt_cmp or_gt gtF_ok (me_var 3) me_int (nomark _)) (mw_and1 (mt_cmp or_gt gtF_ok (me_var 6) me_int (nomark _))))) (mss_one (ms_asg (me_ix (me_var 8) me_int) (mg_subL (me_var 8) (me_sub (me_var 3) me_int)))) mss_nil)
    (mss_one (ms_ret (me_tup (ma_cons (me_var 8) (ma_cons (me_var 4) ma_nil)))))))))))))))))))
theorem sc__law_same : FnScope ["_law_one_here", "_law_other", "_law_k"] (par ._law_same) (defScope s9) := ⟨rfl, rfl, rfl, by decide +kernel, rfl, by decide +kernel, by decide +kernel⟩
theorem nd0__law_same : (["_law_one_here", "_law_other", "_law_k"] : List Str).Nodup := by decide +kernel
theorem ok__law_same {k : Nat} {F : Fn → List D → Sto → Option (D × Sto)} (T : Txt K w g) (AH : ∀ base, (∀ p ∈ T.cs, LamX.TabB base g p.1 p.2) → All P T base k F) (hTB : ∀ p ∈ T.cs, LamX.TabB base g p.1 p.2) :
    FnOk P w K g base CX0 (k + 1) (T.ad ._law_same) (T.fd ._law_same) (par ._law_same) (spM ⟨K, P, w, base, T.tb⟩ (par ._law_same).length (bodyM 3 (b__law_same F))) := by
  refine ok_def (N := ["_law_one_here", "_law_other", "_law_k"]) (T.fn ._law_same rfl) sc__law_same (by decide) fun cdv A outer s0 H E hr => ?_
  have nd := nd0__law_same
  have IH := AH base hTB
  exact (mss_cons (ms_if (mt_truth (me_isi2 rfl T.z_isinstance (by decide +kernel) (me_var 0) (pe_bltn (v := .ty "list") rfl T.z_list (by decide +kernel) rfl) (pe_bltn (v := .ty "tuple") rfl T.z_tuple (by decide +kernel) rfl))) (mss_cons (ms_if (PW.pt (mw_or (mt_cmp (or_ne hr.units) neF_ok (me_isi rfl T.z_isinstance (by decide +kernel) (me_var 0) (pe_bltn (v := .ty "list") rfl T.z_list (by decide +kernel) rfl)) (me_isi rfl T.z_isinstance (by decide +kernel) (me_var 1) (pe_bltn (v := .ty "list") rfl T.z_list (by decide +kernel) rfl)) (nomark _)) (mw_or1 (mt_cmp (or_ne hr.units) neF_ok (me_isi rfl T.z_isinstance (by decide +kernel) (me_var 0) (pe_bltn (v := .ty "tuple") rfl T.z_tuple (by decide +kernel) rfl)) (me_isi rfl T.z_isinstance (by decide +kernel) (me_var 1) (pe_bltn (v := .ty "tuple") rfl T.z_tuple (by decide +kernel) rfl)) (nomark _))))) (mss_one (ms_ret me_bl)) mss_nil)
    (mss_cons (ms_if (mt_cmp (or_ne hr.units) neF_ok (me_callB call_len lenF_ok rfl T.z_len (by decide +kernel) (ma_cons (me_var 0) ma_nil)) (me_callB call_len lenF_ok rfl T.z_len (by decide +kernel) (ma_cons (me_var 1) ma_nil)) (nomark _)) (mss_one (ms_ret me_bl)) mss_nil)
    (mss_one (ms_ret (me_callB (cr_all rfl) allF_ok rfl T.z_all (by decide +kernel) (ma_cons (me_lc (tgt := (.one 2)) (own := [("_law_k", 2)]) rfl nd (mi_rng1 rfl T.z_range (ma_cons (me_callB call_len lenF_ok rfl T.z_len (by decide +kernel) (ma_cons (me_var 0) ma_nil)) ma_nil)) (blkOk_by (own := [("_law_k", 2)]) (N := ["_law_one_here", "_law_other", "_law_k"]) (sc := defScope s9) (by decide +kernel)) rfl (fun _ _ _ _ _ => pg_name (i := 2) nd rfl (Or.inl rfl)) (fun _ _ _ _ _ => mts_nil) (fun _ _ _ _ _ => (me_call (IH.f ._law_same rfl) hr rfl (T.mg ._law_same rfl) (T.fn ._law_same rfl).kp (T.bd ._law_same rfl) (ma_cons (me_ix (me_var 0) (me_var 2)) (ma_cons (me_ix (me_var 1) (me_var 2)) ma_nil))))) ma_nil)))))) mss_nil)
    (mss_cons (ms_if (PW.pt (mw_or (mt_cmp op_isN isF_ok (me_var 0) me_non (nomark _)) (mw_or1 (mt_cmp op_isN isF_ok (me_var 1) me_non (nomark _))))) (mss_one (ms_ret (me_and (me_cmp op_isN isF_ok (me_var 0) me_non (nomark _)) (me_one (me_cmp op_isN isF_ok (me_var 1) me_non (nomark _)))))) mss_nil)
    (mss_cons (ms_if (PW.pt (mw_or (mt_cmp (or_ne hr.units) neF_ok (me_isi rfl T.z_isinstance (by decide +kernel) (me_var 0) (pe_bltn (v := .ty "bool") rfl T.z_bool (by decide +kernel) rfl)) (me_isi rfl T.z_isinstance (by decide +kernel) (me_var 1) (pe_bltn (v := .ty "bool") rfl T.z_bool (by decide +kernel) rfl)) (nomark _)) (mw_or1 (mt_cmp (or_ne hr.units) neF_ok (me_isi rfl T.z_isinstance (by decide +kernel) (me_var 0) (pe_bltn (v := .ty "int") rfl T.z_int (by decide +kernel) rfl)) (me_isi rfl T.z_isinstance (by decide +kernel) (me_var 1) (pe_bltn (v := .ty "int") rfl T.z_int (by decide +kernel) rfl)) (nomark _))))) (mss_one (ms_ret me_bl)) mss_nil)
    (mss_cons (ms_if (PW.pt (mw_or (mt_cmp (or_ne hr.units) neF_ok (me_isi rfl T.z_isinstance (by decide +kernel) (me_var 0) (pe_bltn (v := .ty "str") rfl T.z_str (by decide +kernel) rfl)) (me_isi rfl T.z_isinstance (by decide +kernel) (me_var 1) (pe_bltn (v := .ty "str") rfl T.z_str (by decide +kernel) rfl)) (nomark _)) (mw_or1 (mt_truth (me_isi2 rfl T.z_isinstance (by decide +kernel) (me_var 1) (pe_bltn (v := .ty "list") rfl T.z_list (by decide +kernel) rfl) (pe_bltn (v := .ty "tuple") rfl T.z_tuple (by decide +kernel) rfl)))))) (mss_one (ms_ret me_bl)) mss_nil)
    (mss_one (ms_ret (me_cmp (or_eq hr.units) eqF_ok (me_var 0) (me_var 1) (nomark _))))))))
theorem sc__law_sorted : FnScope ["_law_rows", "_law_ranks", "_law_out", "_law_k", "_law_at", "_law_row", "_law_one_here"] (par ._law_sorted) (defScope s10) := ⟨rfl, rfl, rfl, by decide +kernel, rfl, by decide +kernel, by decide +kernel⟩
theorem nd0__law_sorted : (["_law_rows", "_law_ranks", "_law_out", "_law_k", "_law_at", "_law_row", "_law_one_here"] : List Str).Nodup := by decide +kernel
theorem ok__law_sorted {k : Nat} {F : Fn → List D → Sto → Option (D × Sto)} (T : Txt K w g) (AH : ∀ base, (∀ p ∈ T.cs, LamX.TabB base g p.1 p.2) → All P T base k F) (hTB : ∀ p ∈ T.cs, LamX.TabB base g p.1 p.2) :
    FnOk P w K g base CX0 (k + 1) (T.ad ._law_sorted) (T.fd ._law_sorted) (par ._law_sorted) (spM ⟨K, P, w, base, T.tb⟩ (par ._law_sorted).length (bodyM 7 (b__law_sorted F))) := by
  refine ok_def (N := ["_law_rows", "_law_ranks", "_law_out", "_law_k", "_law_at", "_law_row", "_law_one_here"]) (T.fn ._law_sorted rfl) sc__law_sorted (by decide) fun cdv A outer s0 H E hr => ?_
  have nd := nd0__law_sorted
  have IH := AH base hTB
  exact (mss_cons (ms_setLc 2 (tgt := (.one 5)) (own := [("_law_row", 5)]) rfl nd rfl rfl (sw_true rfl rfl rfl (by decide +kernel)) (mi_seq (me_var 0)) (blkOk_by (own := [("_law_row", 5)]) (N := ["_law_rows", "_law_ranks", "_law_out", "_law_k", "_law_at", "_law_row", "_law_one_here"]) (sc := defScope s10) (by decide +kernel)) rfl (fun _ _ _ _ _ => pg_name (i := 5) nd rfl (Or.inl rfl)) (fun _ _ _ _ _ => mts_nil) (fun _ _ _ _ _ => me_non))
    (mss_cons (ms_for PassesOwn.never rfl (mi_rng1 rfl T.z_range (ma_cons (me_callB call_len lenF_ok rfl T.z_len (by decide +kernel) (ma_cons (me_var 0) ma_nil)) ma_nil)) (mg_name 3 nd rfl (.inr rfl)) (mss_cons (ms_set 4 nd rfl (.inl rfl) (me_add (me_callB call_len lenF_ok rfl T.z_len (by decide +kernel) (ma_cons (me_lc (tgt := (.one 6)) (own := [("_law_one_here", 6)]) rfl nd (mi_seq (me_var 1)) (blkOk_by (own := [("_law_one_here", 6)]) (N := ["_law_rows", "_law_ranks", "_law_out", "_law_k", "_law_at", "_law_row", "_law_one_here"]) (sc := defScope s10) (by decide +kernel)) rfl (fun _ _ _ _ _ => pg_name (i := 6) nd rfl (Or.inl rfl)) (fun _ _ _ _ _ => mts_one (mt_cmp (op_ltD hr.units) ordT_ok (me_var 6) (me_ix (me_var 1) (me_var 3)) (nomark _))) (fun _ _ _ _ _ => (me_var 6))) ma_nil)) (me_callB call_len lenF_ok rfl T.z_len (by decide +kernel) (ma_cons (me_lc (tgt := (.one 6)) (own := [("_law_one_here", 6)]) rfl nd (mi_seq (me_slice (me_var 1) mo_none (mo_some (me_var 3)))) (blkOk_by (own := [("_law_one_here", 6)]) (N := ["_law_rows", "_law_ranks", "_law_out", "_law_k", "_law_at", "_law_row", "_law_one_here"]) (sc := defScope s10) (by decide +kernel)) rfl (fun _ _ _ _ _ => pg_name (i := 6) nd rfl (Or.inl rfl)) (fun _ _ _ _ _ => mts_one (mt_cmp (or_eq hr.units) eqF_ok (me_var 6) (me_ix (me_var 1) (me_var 3)) (nomark _))) (fun _ _ _ _ _ => (me_var 6))) ma_nil))))
    (mss_one (ms_asg (me_ix (me_var 0) (me_var 3)) (mg_subL (me_var 2) (me_var 4))))))
    (mss_one (ms_ret (me_var 2)))))
theorem sc__law_compared : FnScope ["_law_ranks", "_law_many", "_law_first", "_law_others", "_law_left", "_law_one_here"] (par ._law_compared) (defScope s11) := ⟨rfl, rfl, rfl, by decide +kernel, rfl, by decide +kernel, by decide +kernel⟩
theorem nd0__law_compared : (["_law_ranks", "_law_many", "_law_first", "_law_others", "_law_left", "_law_one_here"] : List Str).Nodup := by decide +kernel
theorem ok__law_compared {k : Nat} {F : Fn → List D → Sto → Option (D × Sto)} (T : Txt K w g) (AH : ∀ base, (∀ p ∈ T.cs, LamX.TabB base g p.1 p.2) → All P T base k F) (hTB : ∀ p ∈ T.cs, LamX.TabB base g p.1 p.2) :
    FnOk P w K g base CX0 (k + 1) (T.ad ._law_compared) (T.fd ._law_compared) (par ._law_compared) (spM ⟨K, P, w, base, T.tb⟩ (par ._law_compared).length (bodyM 6 (b__law_compared F))) := by
  refine ok_def (N := ["_law_ranks", "_law_many", "_law_first", "_law_others", "_law_left", "_law_one_here"]) (T.fn ._law_compared rfl) sc__law_compared (by decide) fun cdv A outer s0 H E hr => ?_
  have nd := nd0__law_compared
  have IH := AH base hTB
  exact (mss_cons (ms_set 1 nd rfl (.inl rfl) (me_callB call_len lenF_ok rfl T.z_len (by decide +kernel) (ma_cons (me_var 0) ma_nil)))
    (mss_cons (ms_if (mt_cmp or_lt ltF_ok (me_var 1) me_int (nomark _)) (mss_one (ms_ret me_int)) mss_nil)
    (mss_cons (ms_set 2 nd rfl (.inr rfl) (me_slice (me_var 0) mo_none (mo_some (me_fdiv (me_var 1) me_int))))
    (mss_cons (ms_set 3 nd rfl (.inr rfl) (me_slice (me_var 0) (mo_some (me_fdiv (me_var 1) me_int)) mo_none))
    (mss_cons (ms_if (mt_cmp (op_geD hr.units) ordT_ok (me_callB (cr_maxD rfl hr.units) maxDF_ok rfl T.z_max (by decide +kernel) (ma_cons (me_var 3) ma_nil)) (me_callB (cr_maxD rfl hr.units) maxDF_ok rfl T.z_max (by decide +kernel) (ma_cons (me_var 2) ma_nil)) (nomark _)) (mss_one (ms_set 4 nd rfl (.inl rfl) (me_callB call_len lenF_ok rfl T.z_len (by decide +kernel) (ma_cons (me_lc (tgt := (.one 5)) (own := [("_law_one_here", 5)]) rfl nd (mi_seq (me_var 3)) (blkOk_by (own := [("_law_one_here", 5)]) (N := ["_law_ranks", "_law_many", "_law_first", "_law_others", "_law_left", "_law_one_here"]) (sc := defScope s11) (by decide +kernel)) rfl (fun _ _ _ _ _ => pg_name (i := 5) nd rfl (Or.inl rfl)) (fun _ _ _ _ _ => mts_one (mt_cmp (op_geD hr.units) ordT_ok (me_var 5) (me_callB (cr_maxD rfl hr.units) maxDF_ok rfl T.z_max (by decide +kernel) (ma_cons (me_var 2) ma_nil)) (nomark _))) (fun _ _ _ _ _ => (me_var 5))) ma_nil)))) (mss_one (ms_set 4 nd rfl (.inl rfl) (me_callB call_len lenF_ok rfl T.z_len (by decide +kernel) (ma_cons (me_lc (tgt := (.one 5)) (own := [("_law_one_here", 5)]) rfl nd (mi_seq (me_var 2)) (blkOk_by (own := [("_law_one_here", 5)]) (N := ["_law_ranks", "_law_many", "_law_first", "_law_others", "_law_left", "_law_one_here"]) (sc := defScope s11) (by decide +kernel)) rfl (fun _ _ _ _ _ => pg_name (i := 5) nd rfl (Or.inl rfl)) (fun _ _ _ _ _ => mts_one (mt_cmp (op_gtD hr.units) ordT_ok (me_var 5) (me_callB (cr_maxD rfl hr.units) maxDF_ok rfl T.z_max (by decide +kernel) (ma_cons (me_var 3) ma_nil)) (nomark _))) (fun _ _ _ _ _ => (me_var 5))) ma_nil)))))
    (mss_one (ms_ret (me_sub (me_add (me_add (me_call (IH.f ._law_compared rfl) hr rfl (T.mg ._law_compared rfl) (T.fn ._law_compared rfl).kp (T.bd ._law_compared rfl) (ma_cons (me_var 2) ma_nil)) (me_call (IH.f ._law_compared rfl) hr rfl (T.mg ._law_compared rfl) (T.fn ._law_compared rfl).kp (T.bd ._law_compared rfl) (ma_cons (me_var 3) ma_nil))) (me_var 1)) (me_var 4)))))))))
theorem sc__law_least : FnScope ["_law_many"] (par ._law_least) (defScope s12) := ⟨rfl, rfl, rfl, by decide +kernel, rfl, by decide +kernel, by decide +kernel⟩
theorem nd0__law_least : (["_law_many"] : List Str).Nodup := by decide +kernel
theorem ok__law_least {k : Nat} {F : Fn → List D → Sto → Option (D × Sto)} (T : Txt K w g) (AH : ∀ base, (∀ p ∈ T.cs, LamX.TabB base g p.1 p.2) → All P T base k F) (hTB : ∀ p ∈ T.cs, LamX.TabB base g p.1 p.2) :
    FnOk P w K g base CX0 (k + 1) (T.ad ._law_least) (T.fd ._law_least) (par ._law_least) (spM ⟨K, P, w, base, T.tb⟩ (par ._law_least).length (bodyM 1 (b__law_least F))) := by
  refine ok_def (N := ["_law_many"]) (T.fn ._law_least rfl) sc__law_least (by decide) fun cdv A outer s0 H E hr => ?_
  have nd := nd0__law_least
  have IH := AH base hTB
  exact (mss_cons (ms_if (mt_cmp or_lt ltF_ok (me_var 0) me_int (nomark _)) (mss_one (ms_ret me_int)) mss_nil)
    (mss_one (ms_ret (me_add (me_add (me_fdiv (me_var 0) me_int) (me_call (IH.f ._law_least rfl) hr rfl (T.mg ._law_least rfl) (T.fn ._law_least rfl).kp (T.bd ._law_least rfl) (ma_cons (me_fdiv (me_var 0) me_int) ma_nil))) (me_call (IH.f ._law_least rfl) hr rfl (T.mg ._law_least rfl) (T.fn ._law_least rfl).kp (T.bd ._law_least rfl) (ma_cons (me_sub (me_var 0) (me_fdiv (me_var 0) me_int)) ma_nil))))))
theorem sc__law_lift : FnScope ["_law_many", "_law_out", "_law_size", "_law_k"] (par ._law_lift) (defScope s13) := ⟨rfl, rfl, rfl, by decide +kernel, rfl, by decide +kernel, by decide +kernel⟩
theorem nd0__law_lift : (["_law_many", "_law_out", "_law_size", "_law_k"] : List Str).Nodup := by decide +kernel
theorem ok__law_lift {k : Nat} {F : Fn → List D → Sto → Option (D × Sto)} (T : Txt K w g) (AH : ∀ base, (∀ p ∈ T.cs, LamX.TabB base g p.1 p.2) → All P T base k F) (hTB : ∀ p ∈ T.cs, LamX.TabB base g p.1 p.2) :
    FnOk P w K g base CX0 (k + 1) (T.ad ._law_lift) (T.fd ._law_lift) (par ._law_lift) (spM ⟨K, P, w, base, T.tb⟩ (par ._law_lift).length (bodyM 4 (b__law_lift F))) := by
  refine ok_def (N := ["_law_many", "_law_out", "_law_size", "_law_k"]) (T.fn ._law_lift rfl) sc__law_lift (by decide) fun cdv A outer s0 H E hr => ?_
  have nd := nd0__law_lift
  have IH := AH base hTB
  exact (mss_cons (ms_set 1 nd rfl (.inl rfl) me_int)
    (mss_cons (ms_set 2 nd rfl (.inl rfl) me_int)
    (mss_cons (ms_for PassesOwn.never rfl (mi_rng1 rfl T.z_range (ma_cons (me_var 0) ma_nil)) (mg_name 3 nd rfl (.inl rfl)) (mss_cons (ms_if (mt_cmp or_ge geF_ok (me_var 2) (me_var 0) (nomark _)) (mss_one ms_break) mss_nil)
    (mss_cons (ms_set 2 nd rfl (.inl rfl) (me_mul me_int (me_var 2)))
    (mss_one (ms_set 1 nd rfl (.inl rfl) (me_add (me_var 1) me_int))))))
    (mss_one (ms_ret (me_var 1))))))
end
end Gn
set_option maxHeartbeats 4000000 -- wide
namespace Gn
open L2 PyProof.Rows PySem PySem.Spec Ml
section
variable {P : Program} {w : World} {K : PySem.W.Frag} {g : Str → Option Value} {base : Heap}
theorem sc__law_good : FnScope ["_law_told", "_law_rows", "_law_ranks"] (par ._law_good) (defScope s14) := ⟨rfl, rfl, rfl, by decide +kernel, rfl, by decide +kernel, by decide +kernel⟩
theorem nd0__law_good : (["_law_told", "_law_rows", "_law_ranks"] : List Str).Nodup := by decide +kernel
theorem ok__law_good {k : Nat} {F : Fn → List D → Sto → Option (D × Sto)} (T : Txt K w g) (AH : ∀ base, (∀ p ∈ T.cs, LamX.TabB base g p.1 p.2) → All P T base k F) (hTB : ∀ p ∈ T.cs, LamX.TabB base g p.1 p.2) :
    FnOk P w K g base CX0 (k + 1) (T.ad ._law_good) (T.fd ._law_good) (par ._law_good) (spM ⟨K, P, w, base, T.tb⟩ (par ._law_good).length (bodyM 3 (b__law_good F))) := by
  refine ok_def (N := ["_law_told", "_law_rows", "_law_ranks"]) (T.fn ._law_good rfl) sc__law_good (by decide) fun cdv A outer s0 H E hr => ?_
  have nd := nd0__law_good
  have IH := AH base hTB
  exact (mss_cons (ms_if (PW.pt (mw_or (mt_not (mt_truth (me_isi rfl T.z_isinstance (by decide +kernel) (me_var 0) (pe_bltn (v := .ty "tuple") rfl T.z_tuple (by decide +kernel) rfl)))) (mw_or (mt_cmp (or_ne hr.units) neF_ok (me_callB call_len lenF_ok rfl T.z_len (by decide +kernel) (ma_cons (me_var 0) ma_nil)) me_int (nomark _)) (mw_or1 (mt_not (mt_truth (me_isi rfl T.z_isinstance (by decide +kernel) (me_ix (me_var 0) me_int) (pe_bltn (v := .ty "list") rfl T.z_list (by decide +kernel) rfl)))))))) (mss_one (ms_ret me_bl)) mss_nil)
    (mss_cons (ms_if (PW.pt (mw_or (mt_not (mt_truth (me_isi rfl T.z_isinstance (by decide +kernel) (me_ix (me_var 0) me_int) (pe_bltn (v := .ty "int") rfl T.z_int (by decide +kernel) rfl)))) (mw_or1 (mt_truth (me_isi rfl T.z_isinstance (by decide +kernel) (me_ix (me_var 0) me_int) (pe_bltn (v := .ty "bool") rfl T.z_bool (by decide +kernel) rfl)))))) (mss_one (ms_ret me_bl)) mss_nil)
    (mss_cons (ms_if (PW.pt (mw_or (mt_not (mt_truth (me_call (IH.f ._law_same rfl) hr rfl (T.mg ._law_same rfl) (T.fn ._law_same rfl).kp (T.bd ._law_same rfl) (ma_cons (me_ix (me_var 0) me_int) (ma_cons (me_call (IH.f ._law_sorted rfl) hr rfl (T.mg ._law_sorted rfl) (T.fn ._law_sorted rfl).kp (T.bd ._law_sorted rfl) (ma_cons (me_var 1) (ma_cons (me_var 2) ma_nil))) ma_nil))))) (mw_or1 (mt_cmp (or_ne hr.units) neF_ok (me_ix (me_var 0) me_int) (me_call (IH.f ._law_compared rfl) hr rfl (T.mg ._law_compared rfl) (T.fn ._law_compared rfl).kp (T.bd ._law_compared rfl) (ma_cons (me_var 2) ma_nil)) (nomark _))))) (mss_one (ms_ret me_bl)) mss_nil)
    (mss_one (ms_ret (me_chain or_le leF_ok or_le leF_ok (me_call (IH.f ._law_least rfl) hr rfl (T.mg ._law_least rfl) (T.fn ._law_least rfl).kp (T.bd ._law_least rfl) (ma_cons (me_callB call_len lenF_ok rfl T.z_len (by decide +kernel) (ma_cons (me_var 1) ma_nil)) ma_nil)) (me_ix (me_var 0) me_int) (me_mul (me_callB call_len lenF_ok rfl T.z_len (by decide +kernel) (ma_cons (me_var 1) ma_nil)) (me_call (IH.f ._law_lift rfl) hr rfl (T.mg ._law_lift rfl) (T.fn ._law_lift rfl).kp (T.bd ._law_lift rfl) (ma_cons (me_callB call_len lenF_ok rfl T.z_len (by decide +kernel) (ma_cons (me_var 1) ma_nil)) ma_nil)))))))))
theorem sc__law_one : FnScope ["_law_rows", "_law_ranks", "_law_mine", "_law_marks", "_law_told", "_law_again"] (par ._law_one) (defScope s15) := ⟨rfl, rfl, rfl, by decide +kernel, rfl, by decide +kernel, by decide +kernel⟩
theorem nd0__law_one : (["_law_rows", "_law_ranks", "_law_mine", "_law_marks", "_law_told", "_law_again"] : List Str).Nodup := by decide +kernel
theorem ok__law_one {k : Nat} {F : Fn → List D → Sto → Option (D × Sto)} (T : Txt K w g) (AH : ∀ base, (∀ p ∈ T.cs, LamX.TabB base g p.1 p.2) → All P T base k F) (hTB : ∀ p ∈ T.cs, LamX.TabB base g p.1 p.2) :
    FnOk P w K g base CX0 (k + 1) (T.ad ._law_one) (T.fd ._law_one) (par ._law_one) (spM ⟨K, P, w, base, T.tb⟩ (par ._law_one).length (bodyM 6 (b__law_one F))) := by
  refine ok_def (N := ["_law_rows", "_law_ranks", "_law_mine", "_law_marks", "_law_told", "_law_again"]) (T.fn ._law_one rfl) sc__law_one (by decide) fun cdv A outer s0 H E hr => ?_
  have nd := nd0__law_one
  have IH := AH base hTB
  exact (mss_cons (ms_set 2 nd rfl (.inl rfl) (me_callTy call_list_of listF_ok rfl T.z_list (by decide +kernel) (ma_cons (me_var 0) ma_nil)))
    (mss_cons (ms_set 3 nd rfl (.inl rfl) (me_callTy call_list_of listF_ok rfl T.z_list (by decide +kernel) (ma_cons (me_var 1) ma_nil)))
    (mss_cons (ms_set 4 nd rfl (.inl rfl) (me_call (IH.f .sorted_counted rfl) hr rfl (T.mg .sorted_counted rfl) (T.fn .sorted_counted rfl).kp (T.bd .sorted_counted rfl) (ma_cons (me_var 2) (ma_cons (me_var 3) ma_nil))))
    (mss_cons (ms_if (PW.pt (mw_or (mt_not (mt_truth (me_call (IH.f ._law_good rfl) hr rfl (T.mg ._law_good rfl) (T.fn ._law_good rfl).kp (T.bd ._law_good rfl) (ma_cons (me_var 4) (ma_cons (me_var 0) (ma_cons (me_var 1) ma_nil)))))) (mw_or (mt_not (mt_truth (me_call (IH.f ._law_same rfl) hr rfl (T.mg ._law_same rfl) (T.fn ._law_same rfl).kp (T.bd ._law_same rfl) (ma_cons (me_var 2) (ma_cons (me_callTy call_list_of listF_ok rfl T.z_list (by decide +kernel) (ma_cons (me_var 0) ma_nil)) ma_nil))))) (mw_or1 (mt_not (mt_truth (me_call (IH.f ._law_same rfl) hr rfl (T.mg ._law_same rfl) (T.fn ._law_same rfl).kp (T.bd ._law_same rfl) (ma_cons (me_var 3) (ma_cons (me_callTy call_list_of listF_ok rfl T.z_list (by decide +kernel) (ma_cons (me_var 1) ma_nil)) ma_nil))))))))) (mss_one (ms_ret me_bl)) mss_nil)
    (mss_cons (ms_expr (me_bm PySem.F.plainAttrs_list PySem.F.slot_list_append PySem.F.type_list_append mt_append appendF_ok (me_ix (me_var 4) me_int) (ma_cons me_str ma_nil)))
    (mss_cons (ms_if (mt_not (mt_truth (me_call (IH.f ._law_same rfl) hr rfl (T.mg ._law_same rfl) (T.fn ._law_same rfl).kp (T.bd ._law_same rfl) (ma_cons (me_var 2) (ma_cons (me_callTy call_list_of listF_ok rfl T.z_list (by decide +kernel) (ma_cons (me_var 0) ma_nil)) ma_nil))))) (mss_one (ms_ret me_bl)) mss_nil)
    (mss_cons (ms_set 5 nd rfl (.inl rfl) (me_callK0 (ks := ["ranks", "rows"]) (IH.f .sorted_counted rfl) hr rfl (T.mg .sorted_counted rfl) (T.fn .sorted_counted rfl).kp (T.kb_sorted_counted_0_ranks_rows) (mk_cons (me_var 3) (mk_cons (me_var 2) mk_nil))))
    (mss_cons (ms_if (mt_not (mt_truth (me_call (IH.f ._law_good rfl) hr rfl (T.mg ._law_good rfl) (T.fn ._law_good rfl).kp (T.bd ._law_good rfl) (ma_cons (me_var 5) (ma_cons (me_var 0) (ma_cons (me_var 1) ma_nil)))))) (mss_one (ms_ret me_bl)) mss_nil)
    (mss_cons (ms_if (mt_cmp or_gt gtF_ok (me_callB call_len lenF_ok rfl T.z_len (by decide +kernel) (ma_cons (me_var 2) ma_nil)) me_int (nomark _)) (mss_cons (ms_asg me_str (mg_subL (me_var 2) me_int))
    (mss_one (ms_expr (me_bm0 PySem.F.plainAttrs_list PySem.F.slot_list_reverse PySem.F.type_list_reverse mt_reverse reverseF_ok (me_var 3))))) mss_nil)
    (mss_one (ms_ret (me_call (IH.f ._law_good rfl) hr rfl (T.mg ._law_good rfl) (T.fn ._law_good rfl).kp (T.bd ._law_good rfl) (ma_cons (me_var 5) (ma_cons (me_var 0) (ma_cons (me_var 1) ma_nil)))))))))))))))
theorem sc_law : FnScope ["_law_script", "_law_deal_here", "_law_k", "_law_rows", "_law_ranks", "_law_one_here"] (par .law) (defScope s16) := ⟨rfl, rfl, rfl, by decide +kernel, rfl, by decide +kernel, by decide +kernel⟩
theorem nd0_law : (["_law_script", "_law_deal_here", "_law_k", "_law_rows", "_law_ranks", "_law_one_here"] : List Str).Nodup := by decide +kernel
theorem ok_law {k : Nat} {F : Fn → List D → Sto → Option (D × Sto)} (T : Txt K w g) (AH : ∀ base, (∀ p ∈ T.cs, LamX.TabB base g p.1 p.2) → All P T base k F) (hTB : ∀ p ∈ T.cs, LamX.TabB base g p.1 p.2) :
    FnOk P w K g base CX0 (k + 1) (T.ad .law) (T.fd .law) (par .law) (spM ⟨K, P, w, base, T.tb⟩ (par .law).length (bodyM 6 (b_law F))) := by
  refine ok_def (N := ["_law_script", "_law_deal_here", "_law_k", "_law_rows", "_law_ranks", "_law_one_here"]) (T.fn .law rfl) sc_law (by decide) fun cdv A outer s0 H E hr => ?_
  have nd := nd0_law
  have IH := AH base hTB
  exact (mss_cons (ms_set 1 nd rfl (.inl rfl) (me_call (IH.f ._law_deal rfl) hr rfl (T.mg ._law_deal rfl) (T.fn ._law_deal rfl).kp (T.bd ._law_deal rfl) (ma_cons (me_var 0) ma_nil)))
    (mss_cons (ms_for PassesOwn.never rfl (mi_rng1 rfl T.z_range (ma_cons me_int ma_nil)) (mg_name 2 nd rfl (.inl rfl)) (mss_cons (ms_asg (me_call (IH.f ._law_scene rfl) hr rfl (T.mg ._law_scene rfl) (T.fn ._law_scene rfl).kp (T.bd ._law_scene rfl) (ma_cons (me_var 1) ma_nil)) (mg_tup rfl (mgs_cons (mg_name 3 nd rfl (.inr rfl)) (mgs_cons (mg_name 4 nd rfl (.inl rfl)) mgs_nil))))
    (mss_cons (ms_if (mt_not (mt_truth (me_call (IH.f ._law_one rfl) hr rfl (T.mg ._law_one rfl) (T.fn ._law_one rfl).kp (T.bd ._law_one rfl) (ma_cons (me_var 3) (ma_cons (me_var 4) ma_nil))))) (mss_one (ms_ret me_bl)) mss_nil)
    (mss_cons (ms_if (PW.pt (mw_and (mt_cmp or_gt gtF_ok (me_callB call_len lenF_ok rfl T.z_len (by decide +kernel) (ma_cons (me_var 3) ma_nil)) me_int (nomark _)) (mw_and1 (mt_not (mt_truth (me_call (IH.f ._law_one rfl) hr rfl (T.mg ._law_one rfl) (T.fn ._law_one rfl).kp (T.bd ._law_one rfl) (ma_cons (me_slice (me_var 3) mo_none (mo_some me_int)) (ma_cons (me_slice (me_var 4) mo_none (mo_some me_int)) ma_nil)))))))) (mss_one (ms_ret me_bl)) mss_nil)
    (mss_cons (ms_if (mt_not (mt_truth (me_call (IH.f ._law_one rfl) hr rfl (T.mg ._law_one rfl) (T.fn ._law_one rfl).kp (T.bd ._law_one rfl) (ma_cons (me_slice (me_var 3) (mo_some me_int) mo_none) (ma_cons (me_slice (me_var 4) (mo_some me_int) mo_none) ma_nil))))) (mss_one (ms_ret me_bl)) mss_nil)
    (mss_one (ms_if (mt_not (mt_truth (me_call (IH.f ._law_one rfl) hr rfl (T.mg ._law_one rfl) (T.fn ._law_one rfl).kp (T.bd ._law_one rfl) (ma_cons (me_add (me_slice (me_var 3) mo_none (mo_some me_int)) (me_lc (tgt := (.one 5)) (own := [("_law_one_here", 5)]) rfl nd (mi_seq (me_slice (me_var 3) mo_none (mo_some me_int))) (blkOk_by (own := [("_law_one_here", 5)]) (N := ["_law_script", "_law_deal_here", "_law_k", "_law_rows", "_law_ranks", "_law_one_here"]) (sc := defScope s16) (by decide +kernel)) rfl (fun _ _ _ _ _ => pg_name (i := 5) nd rfl (Or.inl rfl)) (fun _ _ _ _ _ => mts_nil) (fun _ _ _ _ _ => (me_ix (me_var 3) me_int)))) (ma_cons (me_add (me_slice (me_var 4) mo_none (mo_some me_int)) (me_slice (me_var 4) mo_none (mo_some me_int))) ma_nil))))) (mss_one (ms_ret me_bl)) mss_nil)))))))
    (mss_one (ms_ret (me_call (IH.f ._law_one rfl) hr rfl (T.mg ._law_one rfl) (T.fn ._law_one rfl).kp (T.bd ._law_one rfl) (ma_cons (me_lst ma_nil) (ma_cons (me_lst ma_nil) ma_nil)))))))
end
end Gn
set_option maxHeartbeats 4000000 -- wide
namespace Gn
open L2 PyProof.Rows PySem PySem.Spec Ml
section
variable {P : Program} {w : World} {K : PySem.W.Frag} {g : Str → Option Value} {base : Heap}
theorem all_ok (T : Txt K w g) : ∀ (k : Nat) (base : Heap), (∀ p ∈ T.cs, LamX.TabB base g p.1 p.2) → All P T base k (den k)
  | 0, base, hTB => by
    refine ⟨fun f _ => ok_zero, fun id nd h => ?_⟩
    cases h
  | k + 1, base, hTB => by
    have AH := all_ok T k
    refine ⟨fun f hf => ?_, fun id nd h => ?_⟩
    · cases f
      · exact ok_sorted_counted T AH hTB
      · exact ok_merged_places T AH hTB
      · exact ok__law_deal T AH hTB
      · exact ok__law_pick T AH hTB
      · exact ok__law_rank T AH hTB
      · exact ok__law_thing T AH hTB
      · exact ok__law_scene T AH hTB
      · exact ok__law_same T AH hTB
      · exact ok__law_sorted T AH hTB
      · exact ok__law_compared T AH hTB
      · exact ok__law_least T AH hTB
      · exact ok__law_lift T AH hTB
      · exact ok__law_good T AH hTB
      · exact ok__law_one T AH hTB
      · exact ok_law T AH hTB
    · cases h
end
end Gn
set_option maxHeartbeats 4000000 -- wide
namespace Gn
open L2 PyProof.Rows PySem PySem.Spec Ml
def fnL0 : List He.DefD := [⟨("sorted_counted", none), "sorted_counted", "sorted_counted", defArgs s1, defBody s1, defScope s1, [], []⟩, ⟨("merged_places", none), "merged_places", "merged_places", defArgs s2, defBody s2, defScope s2, [], []⟩, ⟨("_law_deal", none), "_law_deal", "_law_deal", defArgs s4, defBody s4, defScope s4, [], []⟩, ⟨("_law_pick", none), "_law_pick", "_law_pick", defArgs s5, defBody s5, defScope s5, [], []⟩, ⟨("_law_rank", none), "_law_rank", "_law_rank", defArgs s6, defBody s6, defScope s6, [], []⟩, ⟨("_law_thing", none), "_law_thing", "_law_thing", defArgs s7, defBody s7, defScope s7, [], []⟩, ⟨("_law_scene", none), "_law_scene", "_law_scene", defArgs s8, defBody s8, defScope s8, [], []⟩, ⟨("_law_same", none), "_law_same", "_law_same", defArgs s9, defBody s9, defScope s9, [], []⟩, ⟨("_law_sorted", none), "_law_sorted", "_law_sorted", defArgs s10, defBody s10, defScope s10, [], []⟩, ⟨("_law_compared", none), "_law_compared", "_law_compared", defArgs s11, defBody s11, defScope s11, [], []⟩, ⟨("_law_least", none), "_law_least", "_law_least", defArgs s12, defBody s12, defScope s12, [], []⟩, ⟨("_law_lift", none), "_law_lift", "_law_lift", defArgs s13, defBody s13, defScope s13, [], []⟩, ⟨("_law_good", none), "_law_good", "_law_good", defArgs s14, defBody s14, defScope s14, [], []⟩, ⟨("_law_one", none), "_law_one", "_law_one", defArgs s15, defBody s15, defScope s15, [], []⟩, ⟨("law", none), "law", "law", defArgs s16, defBody s16, defScope s16, [], []⟩]
def fnL : List He.DefD := fnL0
def faL0 : List He.Fa := [.glo "sorted_counted", .glo "merged_places", .glo "_law_deal", .glo "_law_pick", .glo "_law_rank", .glo "_law_thing", .glo "_law_scene", .glo "_law_same", .glo "_law_sorted", .glo "_law_compared", .glo "_law_least", .glo "_law_lift", .glo "_law_good", .glo "_law_one", .glo "law", .free "all", .free "bool", .free "int", .free "isinstance", .free "len", .free "list", .free "max", .free "min", .free "range", .free "sorted", .free "str", .free "tuple"]
def faL : List He.Fa := faL0
def tsL : List He.Tab := []
def tfL : List He.Defn := []
def exL (K : PySem.W.Frag) : Bool := true
section
variable {w : World} {K : PySem.W.Frag} {h : Heap} {g : Str → Option Value}
theorem fact_of (c : He.SaysX faL fnL tsL tfL exL w h K) {f : He.Fa} (hf : f ∈ faL) : f.ok K = true := He.SaysD.facts c.t.d hf
theorem mk_txt (X : K.In h) (G : h.Ns mainGlobals g) (c : He.SaysX faL fnL tsL tfL exL w h K) : ∃ T : Txt K w g, ∀ p ∈ T.cs, h.get? p.2 = some (PySem.W.tabObj #[]) ∧ K.lookup p.2 = none ∧ PySem.W.CodeHd h p.1 p.2 := by
  obtain ⟨fd0, D0⟩ := c.t.d.def_ 0 rfl
  have F0 : Fun K "sorted_counted" "sorted_counted" s1 (He.ga K "sorted_counted") fd0 := fun_of D0
  have b0 := F0.binds (ps := par .sorted_counted) fun _ _ _ _ _ _ us hl => match us, hl with | [_, _], _ => rfl
  obtain ⟨fd1, D1⟩ := c.t.d.def_ 1 rfl
  have F1 : Fun K "merged_places" "merged_places" s2 (He.ga K "merged_places") fd1 := fun_of D1
  have b1 := F1.binds (ps := par .merged_places) fun _ _ _ _ _ _ us hl => match us, hl with | [_, _], _ => rfl
  obtain ⟨fd2, D2⟩ := c.t.d.def_ 2 rfl
  have F2 : Fun K "_law_deal" "_law_deal" s4 (He.ga K "_law_deal") fd2 := fun_of D2
  have b2 := F2.binds (ps := par ._law_deal) fun _ _ _ _ _ _ us hl => match us, hl with | [_], _ => rfl
  obtain ⟨fd3, D3⟩ := c.t.d.def_ 3 rfl
  have F3 : Fun K "_law_pick" "_law_pick" s5 (He.ga K "_law_pick") fd3 := fun_of D3
  have b3 := F3.binds (ps := par ._law_pick) fun _ _ _ _ _ _ us hl => match us, hl with | [_, _], _ => rfl
  obtain ⟨fd4, D4⟩ := c.t.d.def_ 4 rfl
  have F4 : Fun K "_law_rank" "_law_rank" s6 (He.ga K "_law_rank") fd4 := fun_of D4
  have b4 := F4.binds (ps := par ._law_rank) fun _ _ _ _ _ _ us hl => match us, hl with | [_, _], _ => rfl
  obtain ⟨fd5, D5⟩ := c.t.d.def_ 5 rfl
  have F5 : Fun K "_law_thing" "_law_thing" s7 (He.ga K "_law_thing") fd5 := fun_of D5
  have b5 := F5.binds (ps := par ._law_thing) fun _ _ _ _ _ _ us hl => match us, hl with | [_, _], _ => rfl
  obtain ⟨fd6, D6⟩ := c.t.d.def_ 6 rfl
  have F6 : Fun K "_law_scene" "_law_scene" s8 (He.ga K "_law_scene") fd6 := fun_of D6
  have b6 := F6.binds (ps := par ._law_scene) fun _ _ _ _ _ _ us hl => match us, hl with | [_], _ => rfl
  obtain ⟨fd7, D7⟩ := c.t.d.def_ 7 rfl
  have F7 : Fun K "_law_same" "_law_same" s9 (He.ga K "_law_same") fd7 := fun_of D7
  have b7 := F7.binds (ps := par ._law_same) fun _ _ _ _ _ _ us hl => match us, hl with | [_, _], _ => rfl
  obtain ⟨fd8, D8⟩ := c.t.d.def_ 8 rfl
  have F8 : Fun K "_law_sorted" "_law_sorted" s10 (He.ga K "_law_sorted") fd8 := fun_of D8
  have b8 := F8.binds (ps := par ._law_sorted) fun _ _ _ _ _ _ us hl => match us, hl with | [_, _], _ => rfl
  obtain ⟨fd9, D9⟩ := c.t.d.def_ 9 rfl
  have F9 : Fun K "_law_compared" "_law_compared" s11 (He.ga K "_law_compared") fd9 := fun_of D9
  have b9 := F9.binds (ps := par ._law_compared) fun _ _ _ _ _ _ us hl => match us, hl with | [_], _ => rfl
  obtain ⟨fd10, D10⟩ := c.t.d.def_ 10 rfl
  have F10 : Fun K "_law_least" "_law_least" s12 (He.ga K "_law_least") fd10 := fun_of D10
  have b10 := F10.binds (ps := par ._law_least) fun _ _ _ _ _ _ us hl => match us, hl with | [_], _ => rfl
  obtain ⟨fd11, D11⟩ := c.t.d.def_ 11 rfl
  have F11 : Fun K "_law_lift" "_law_lift" s13 (He.ga K "_law_lift") fd11 := fun_of D11
  have b11 := F11.binds (ps := par ._law_lift) fun _ _ _ _ _ _ us hl => match us, hl with | [_], _ => rfl
  obtain ⟨fd12, D12⟩ := c.t.d.def_ 12 rfl
  have F12 : Fun K "_law_good" "_law_good" s14 (He.ga K "_law_good") fd12 := fun_of D12
  have b12 := F12.binds (ps := par ._law_good) fun _ _ _ _ _ _ us hl => match us, hl with | [_, _, _], _ => rfl
  obtain ⟨fd13, D13⟩ := c.t.d.def_ 13 rfl
  have F13 : Fun K "_law_one" "_law_one" s15 (He.ga K "_law_one") fd13 := fun_of D13
  have b13 := F13.binds (ps := par ._law_one) fun _ _ _ _ _ _ us hl => match us, hl with | [_, _], _ => rfl
  obtain ⟨fd14, D14⟩ := c.t.d.def_ 14 rfl
  have F14 : Fun K "law" "law" s16 (He.ga K "law") fd14 := fun_of D14
  have b14 := F14.binds (ps := par .law) fun _ _ _ _ _ _ us hl => match us, hl with | [_], _ => rfl
  have cm := c.more
  unfold exL at cm
  refine ⟨{
    ad := (fun f => match f with
      | .sorted_counted => He.ga K "sorted_counted"
      | .merged_places => He.ga K "merged_places"
      | ._law_deal => He.ga K "_law_deal"
      | ._law_pick => He.ga K "_law_pick"
      | ._law_rank => He.ga K "_law_rank"
      | ._law_thing => He.ga K "_law_thing"
      | ._law_scene => He.ga K "_law_scene"
      | ._law_same => He.ga K "_law_same"
      | ._law_sorted => He.ga K "_law_sorted"
      | ._law_compared => He.ga K "_law_compared"
      | ._law_least => He.ga K "_law_least"
      | ._law_lift => He.ga K "_law_lift"
      | ._law_good => He.ga K "_law_good"
      | ._law_one => He.ga K "_law_one"
      | .law => He.ga K "law")
    fd := (fun f => match f with
      | .sorted_counted => fd0
      | .merged_places => fd1
      | ._law_deal => fd2
      | ._law_pick => fd3
      | ._law_rank => fd4
      | ._law_thing => fd5
      | ._law_scene => fd6
      | ._law_same => fd7
      | ._law_sorted => fd8
      | ._law_compared => fd9
      | ._law_least => fd10
      | ._law_lift => fd11
      | ._law_good => fd12
      | ._law_one => fd13
      | .law => fd14)
    fn := (fun f hf => match f, hf with
      | .sorted_counted, _ => F0
      | .merged_places, _ => F1
      | ._law_deal, _ => F2
      | ._law_pick, _ => F3
      | ._law_rank, _ => F4
      | ._law_thing, _ => F5
      | ._law_scene, _ => F6
      | ._law_same, _ => F7
      | ._law_sorted, _ => F8
      | ._law_compared, _ => F9
      | ._law_least, _ => F10
      | ._law_lift, _ => F11
      | ._law_good, _ => F12
      | ._law_one, _ => F13
      | .law, _ => F14)
    mg := (fun f hf => match f, hf with
      | .sorted_counted, _ => He.glo_ok X G (fact_of c (show _ ∈ faL0 from (.head _)))
      | .merged_places, _ => He.glo_ok X G (fact_of c (show _ ∈ faL0 from (.tail _ (.head _))))
      | ._law_deal, _ => He.glo_ok X G (fact_of c (show _ ∈ faL0 from (.tail _ (.tail _ (.head _)))))
      | ._law_pick, _ => He.glo_ok X G (fact_of c (show _ ∈ faL0 from (.tail _ (.tail _ (.tail _ (.head _))))))
      | ._law_rank, _ => He.glo_ok X G (fact_of c (show _ ∈ faL0 from (.tail _ (.tail _ (.tail _ (.tail _ (.head _)))))))
      | ._law_thing, _ => He.glo_ok X G (fact_of c (show _ ∈ faL0 from (.tail _ (.tail _ (.tail _ (.tail _ (.tail _ (.head _))))))))
      | ._law_scene, _ => He.glo_ok X G (fact_of c (show _ ∈ faL0 from (.tail _ (.tail _ (.tail _ (.tail _ (.tail _ (.tail _ (.head _)))))))))
      | ._law_same, _ => He.glo_ok X G (fact_of c (show _ ∈ faL0 from (.tail _ (.tail _ (.tail _ (.tail _ (.tail _ (.tail _ (.tail _ (.head _))))))))))
      | ._law_sorted, _ => He.glo_ok X G (fact_of c (show _ ∈ faL0 from (.tail _ (.tail _ (.tail _ (.tail _ (.tail _ (.tail _ (.tail _ (.tail _ (.head _)))))))))))
      | ._law_compared, _ => He.glo_ok X G (fact_of c (show _ ∈ faL0 from (.tail _ (.tail _ (.tail _ (.tail _ (.tail _ (.tail _ (.tail _ (.tail _ (.tail _ (.head _))))))))))))
      | ._law_least, _ => He.glo_ok X G (fact_of c (show _ ∈ faL0 from (.tail _ (.tail _ (.tail _ (.tail _ (.tail _ (.tail _ (.tail _ (.tail _ (.tail _ (.tail _ (.head _)))))))))))))
      | ._law_lift, _ => He.glo_ok X G (fact_of c (show _ ∈ faL0 from (.tail _ (.tail _ (.tail _ (.tail _ (.tail _ (.tail _ (.tail _ (.tail _ (.tail _ (.tail _ (.tail _ (.head _))))))))))))))
      | ._law_good, _ => He.glo_ok X G (fact_of c (show _ ∈ faL0 from (.tail _ (.tail _ (.tail _ (.tail _ (.tail _ (.tail _ (.tail _ (.tail _ (.tail _ (.tail _ (.tail _ (.tail _ (.head _)))))))))))))))
      | ._law_one, _ => He.glo_ok X G (fact_of c (show _ ∈ faL0 from (.tail _ (.tail _ (.tail _ (.tail _ (.tail _ (.tail _ (.tail _ (.tail _ (.tail _ (.tail _ (.tail _ (.tail _ (.tail _ (.head _))))))))))))))))
      | .law, _ => He.glo_ok X G (fact_of c (show _ ∈ faL0 from (.tail _ (.tail _ (.tail _ (.tail _ (.tail _ (.tail _ (.tail _ (.tail _ (.tail _ (.tail _ (.tail _ (.tail _ (.tail _ (.tail _ (.head _))))))))))))))))))
    ns := (fun f hf => match f, hf with
      | .sorted_counted, _ => He.eqO_ok (fact_of c (show _ ∈ faL0 from (.head _)))
      | .merged_places, _ => He.eqO_ok (fact_of c (show _ ∈ faL0 from (.tail _ (.head _))))
      | ._law_deal, _ => He.eqO_ok (fact_of c (show _ ∈ faL0 from (.tail _ (.tail _ (.head _)))))
      | ._law_pick, _ => He.eqO_ok (fact_of c (show _ ∈ faL0 from (.tail _ (.tail _ (.tail _ (.head _))))))
      | ._law_rank, _ => He.eqO_ok (fact_of c (show _ ∈ faL0 from (.tail _ (.tail _ (.tail _ (.tail _ (.head _)))))))
      | ._law_thing, _ => He.eqO_ok (fact_of c (show _ ∈ faL0 from (.tail _ (.tail _ (.tail _ (.tail _ (.tail _ (.head _))))))))
      | ._law_scene, _ => He.eqO_ok (fact_of c (show _ ∈ faL0 from (.tail _ (.tail _ (.tail _ (.tail _ (.tail _ (.tail _ (.head _)))))))))
      | ._law_same, _ => He.eqO_ok (fact_of c (show _ ∈ faL0 from (.tail _ (.tail _ (.tail _ (.tail _ (.tail _ (.tail _ (.tail _ (.head _))))))))))
      | ._law_sorted, _ => He.eqO_ok (fact_of c (show _ ∈ faL0 from (.tail _ (.tail _ (.tail _ (.tail _ (.tail _ (.tail _ (.tail _ (.tail _ (.head _)))))))))))
      | ._law_compared, _ => He.eqO_ok (fact_of c (show _ ∈ faL0 from (.tail _ (.tail _ (.tail _ (.tail _ (.tail _ (.tail _ (.tail _ (.tail _ (.tail _ (.head _))))))))))))
      | ._law_least, _ => He.eqO_ok (fact_of c (show _ ∈ faL0 from (.tail _ (.tail _ (.tail _ (.tail _ (.tail _ (.tail _ (.tail _ (.tail _ (.tail _ (.tail _ (.head _)))))))))))))
      | ._law_lift, _ => He.eqO_ok (fact_of c (show _ ∈ faL0 from (.tail _ (.tail _ (.tail _ (.tail _ (.tail _ (.tail _ (.tail _ (.tail _ (.tail _ (.tail _ (.tail _ (.head _))))))))))))))
      | ._law_good, _ => He.eqO_ok (fact_of c (show _ ∈ faL0 from (.tail _ (.tail _ (.tail _ (.tail _ (.tail _ (.tail _ (.tail _ (.tail _ (.tail _ (.tail _ (.tail _ (.tail _ (.head _)))))))))))))))
      | ._law_one, _ => He.eqO_ok (fact_of c (show _ ∈ faL0 from (.tail _ (.tail _ (.tail _ (.tail _ (.tail _ (.tail _ (.tail _ (.tail _ (.tail _ (.tail _ (.tail _ (.tail _ (.tail _ (.head _))))))))))))))))
      | .law, _ => He.eqO_ok (fact_of c (show _ ∈ faL0 from (.tail _ (.tail _ (.tail _ (.tail _ (.tail _ (.tail _ (.tail _ (.tail _ (.tail _ (.tail _ (.tail _ (.tail _ (.tail _ (.tail _ (.head _))))))))))))))))))
    bd := (fun f hf => match f, hf with
      | .sorted_counted, _ => b0
      | .merged_places, _ => b1
      | ._law_deal, _ => b2
      | ._law_pick, _ => b3
      | ._law_rank, _ => b4
      | ._law_thing, _ => b5
      | ._law_scene, _ => b6
      | ._law_same, _ => b7
      | ._law_sorted, _ => b8
      | ._law_compared, _ => b9
      | ._law_least, _ => b10
      | ._law_lift, _ => b11
      | ._law_good, _ => b12
      | ._law_one, _ => b13
      | .law, _ => b14)
    lawB := fun s u => by
      obtain ⟨_, _, _, _, _, _, _, _, _, rfl, _, _⟩ := F14.ex
      exact .of_eq rfl
    z_all := He.free_ok X G (fact_of c (show _ ∈ faL0 from (.tail _ (.tail _ (.tail _ (.tail _ (.tail _ (.tail _ (.tail _ (.tail _ (.tail _ (.tail _ (.tail _ (.tail _ (.tail _ (.tail _ (.tail _ (.head _))))))))))))))))))
    z_bool := He.free_ok X G (fact_of c (show _ ∈ faL0 from (.tail _ (.tail _ (.tail _ (.tail _ (.tail _ (.tail _ (.tail _ (.tail _ (.tail _ (.tail _ (.tail _ (.tail _ (.tail _ (.tail _ (.tail _ (.tail _ (.head _)))))))))))))))))))
    z_int := He.free_ok X G (fact_of c (show _ ∈ faL0 from (.tail _ (.tail _ (.tail _ (.tail _ (.tail _ (.tail _ (.tail _ (.tail _ (.tail _ (.tail _ (.tail _ (.tail _ (.tail _ (.tail _ (.tail _ (.tail _ (.tail _ (.head _))))))))))))))))))))
    z_isinstance := He.free_ok X G (fact_of c (show _ ∈ faL0 from (.tail _ (.tail _ (.tail _ (.tail _ (.tail _ (.tail _ (.tail _ (.tail _ (.tail _ (.tail _ (.tail _ (.tail _ (.tail _ (.tail _ (.tail _ (.tail _ (.tail _ (.tail _ (.head _)))))))))))))))))))))
    z_len := He.free_ok X G (fact_of c (show _ ∈ faL0 from (.tail _ (.tail _ (.tail _ (.tail _ (.tail _ (.tail _ (.tail _ (.tail _ (.tail _ (.tail _ (.tail _ (.tail _ (.tail _ (.tail _ (.tail _ (.tail _ (.tail _ (.tail _ (.tail _ (.head _))))))))))))))))))))))
    z_list := He.free_ok X G (fact_of c (show _ ∈ faL0 from (.tail _ (.tail _ (.tail _ (.tail _ (.tail _ (.tail _ (.tail _ (.tail _ (.tail _ (.tail _ (.tail _ (.tail _ (.tail _ (.tail _ (.tail _ (.tail _ (.tail _ (.tail _ (.tail _ (.tail _ (.head _)))))))))))))))))))))))
    z_max := He.free_ok X G (fact_of c (show _ ∈ faL0 from (.tail _ (.tail _ (.tail _ (.tail _ (.tail _ (.tail _ (.tail _ (.tail _ (.tail _ (.tail _ (.tail _ (.tail _ (.tail _ (.tail _ (.tail _ (.tail _ (.tail _ (.tail _ (.tail _ (.tail _ (.tail _ (.head _))))))))))))))))))))))))
    z_min := He.free_ok X G (fact_of c (show _ ∈ faL0 from (.tail _ (.tail _ (.tail _ (.tail _ (.tail _ (.tail _ (.tail _ (.tail _ (.tail _ (.tail _ (.tail _ (.tail _ (.tail _ (.tail _ (.tail _ (.tail _ (.tail _ (.tail _ (.tail _ (.tail _ (.tail _ (.tail _ (.head _)))))))))))))))))))))))))
    z_range := He.free_ok X G (fact_of c (show _ ∈ faL0 from (.tail _ (.tail _ (.tail _ (.tail _ (.tail _ (.tail _ (.tail _ (.tail _ (.tail _ (.tail _ (.tail _ (.tail _ (.tail _ (.tail _ (.tail _ (.tail _ (.tail _ (.tail _ (.tail _ (.tail _ (.tail _ (.tail _ (.tail _ (.head _))))))))))))))))))))))))))
    z_sorted := He.free_ok X G (fact_of c (show _ ∈ faL0 from (.tail _ (.tail _ (.tail _ (.tail _ (.tail _ (.tail _ (.tail _ (.tail _ (.tail _ (.tail _ (.tail _ (.tail _ (.tail _ (.tail _ (.tail _ (.tail _ (.tail _ (.tail _ (.tail _ (.tail _ (.tail _ (.tail _ (.tail _ (.tail _ (.head _)))))))))))))))))))))))))))
    z_str := He.free_ok X G (fact_of c (show _ ∈ faL0 from (.tail _ (.tail _ (.tail _ (.tail _ (.tail _ (.tail _ (.tail _ (.tail _ (.tail _ (.tail _ (.tail _ (.tail _ (.tail _ (.tail _ (.tail _ (.tail _ (.tail _ (.tail _ (.tail _ (.tail _ (.tail _ (.tail _ (.tail _ (.tail _ (.tail _ (.head _))))))))))))))))))))))))))))
    z_tuple := He.free_ok X G (fact_of c (show _ ∈ faL0 from (.tail _ (.tail _ (.tail _ (.tail _ (.tail _ (.tail _ (.tail _ (.tail _ (.tail _ (.tail _ (.tail _ (.tail _ (.tail _ (.tail _ (.tail _ (.tail _ (.tail _ (.tail _ (.tail _ (.tail _ (.tail _ (.tail _ (.tail _ (.tail _ (.tail _ (.tail _ (.head _)))))))))))))))))))))))))))))
    kb_sorted_counted_0_ranks_rows := by
      obtain ⟨_, _, _, _, _, _, _, _, _, rfl, _, _⟩ := F0.ex
      exact fun us ws h1 h2 => match us, ws, h1, h2 with | [], [_, _], _, _ => rfl
  }, (fun _ h => nomatch h)⟩
end
end Gn
namespace Gn
open PySem L2 Ml
theorem memA {α : Type} {x : α} {a b : List α} (h : x ∈ a ++ b) : x ∈ a ∨ x ∈ b := by simpa using h
theorem memC {α : Type} {x y : α} {b : List α} (h : x ∈ y :: b) : x = y ∨ x ∈ b := by simpa using h
theorem cut_mid (a b c : List D) : cutX (a ++ b ++ c) (some (a.length : Int)) (some ((a.length + b.length : Nat) : Int)) = b := by
  simp only [cutX, HT.sIx_nat]
  rw [Nat.min_eq_left (by simp), Nat.min_eq_left (by simp [List.length_append]), List.append_assoc, List.drop_left, Nat.add_sub_cancel_left, List.take_left]
theorem cut_pre (a b : List D) : cutX (a ++ b) none (some (a.length : Int)) = a := by
  simp only [cutX, HT.sIx_nat, HT.sIx_none]
  simp [List.length_append]
theorem cut_post (a b : List D) : cutX (a ++ b) (some (a.length : Int)) none = b := by
  simp only [cutX, HT.sIx_nat, HT.sIx_none]
  simp [List.length_append]
theorem at_zero {α : Type} (x : α) (xs : List α) : atI (x :: xs) 0 = some x := by simp [atI, ixN]
local macro_rules | `(tactic| array_get_dec) => `(tactic| with_reducible first | assumption | exact lk_new | (apply lk_set; array_get_dec) | (apply lk_ne (by first | assumption | omega); array_get_dec) | (apply lk_app; array_get_dec))
local macro_rules | `(tactic| array_mem_dec) => `(tactic| first
  | refine s_seq ?_ | refine th_nx ?_ | refine th_rt ?_ | refine th_bk ?_ | refine th_ct ?_ | refine re_rt ?_ | refine re_nx ?_ | refine tu_nx ?_ | refine tu_rt ?_ | refine tu_bk ?_ | refine tu_ct ?_
  | refine s_asg ?_ | refine s_if ?_ | refine s_rt ?_ | refine s_ex ?_ | refine s_nx ?_ | refine s_bk ?_ | refine s_ct ?_ | refine s_for ?_ | refine s_aug rfl ?_
  | refine g_name ?_ | refine g_subL ?_ | refine g_subD ?_ | refine g_tup rfl ?_ | refine gs_cons ?_ | refine gs_nil ?_
  | refine v_var rfl ?_ | refine v_con ?_ | refine v_pick ?_ | refine v_bin ?_ | refine v_call ?_ | refine v_tup ?_ | refine v_lst ?_ | refine v_app ?_ | refine v_neg ?_ | refine v_if ?_ | refine v_and ?_ | refine v_or ?_ | refine v_not ?_ | refine v_isi ?_ | refine v_met ?_ | refine v_sl ?_ | refine v_lrev ?_ | refine v_revT ?_ | refine v_comp ?_ | refine v_comp2 ?_ | refine v_getOr ?_ | refine v_cget ?_ | refine v_newD ?_
  | refine c_tst ?_ | refine c_tru ?_ | refine c_not ?_ | refine c_and ?_ | refine c_or ?_ | refine c_yes ?_
  | refine a_cons ?_ | refine a_nil ?_ | refine o_no ?_ | refine o_part ?_ | refine i_seq ?_ | refine i_rng1 ?_ | refine i_rngD ?_ | refine i_keys ?_ | refine one_i ?_
  | refine bl_i ?_ | refine int_i ?_ | refine str_i ?_ | refine tup_i ?_ | refine ref_i ?_ | refine tru_bl ?_ | refine tru_tup ?_ | (with_reducible apply tru_lst; array_get_dec) | refine sq_tup ?_ | (with_reducible apply sq_lst; array_get_dec)
  | refine o_eqI ?_ | refine o_eqS ?_ | refine o_eqB ?_ | refine o_neS ?_ | refine o_is ?_ | refine o_isn ?_ | refine o_lt ?_ | refine o_le ?_ | refine o_gt ?_ | refine o_ge ?_
  | refine o_ixT (at_zero _ _) ?_ | refine o_ixT rfl ?_ | refine o_addI ?_ | refine o_sub ?_ | refine o_iadd ?_ | refine o_isub ?_
  | refine f_lenT ?_ | refine f_lenR ?_ | (with_reducible apply f_lenL; array_get_dec) | refine f_intI ?_ | refine f_intB ?_ | refine f_abs ?_ | refine f_max ?_ | refine f_min ?_ | refine f_listT ?_ | (with_reducible apply f_listL; array_get_dec) | refine f_tupT ?_ | (with_reducible apply f_tupL; array_get_dec)
  | refine sl_t ?_
  | refine ⟨(rfl : List.length _ = _), ?_⟩)
local macro_rules | `(tactic| decreasing_trivial_pre_omega) => `(tactic| repeat array_mem_dec)
section
theorem at_rng {xs : List D} {i : Nat} {x : D} (h : xs[i]? = some x) : atI xs (i : Int) = some x := by
  have hl := lt_of h
  have : ixN xs.length (i : Int) = some i := by simp [ixN, hl]
  simp [atI, this, h]
end
section
theorem memK {α : Type} {x y : α} {b : List α} (h : x ∈ y :: b) : x = y ∨ x ∈ b := by simpa using h
/-! ### merging, any order -/
/-- an order by ranks -/
structure Wo {α : Type} (lt : α → α → Bool) : Prop where
  irr : ∀ a, lt a a = false
  tr : ∀ a b c, lt a b = true → lt b c = true → lt a c = true
  neg : ∀ a b c, lt a c = true → lt a b = true ∨ lt b c = true
section
variable {α : Type}
variable {lt : α → α → Bool}
theorem Wo.asym (W : Wo lt) {a b : α} (h : lt a b = true) : lt b a = false := by
  cases e : lt b a with
  | false => rfl
  | true => have := W.tr a b a h e; rw [W.irr] at this; cases this
/-- not less, not less -/
theorem Wo.le_tr (W : Wo lt) {a b c : α} (h : lt b a = false) (g : lt c b = false) : lt c a = false := by
  cases e : lt c a with
  | false => rfl
  | true => rcases W.neg c b a e with z | z
            · rw [g] at z; cases z
            · rw [h] at z; cases z
theorem Wo.lt_le (W : Wo lt) {a b c : α} (h : lt a b = true) (g : lt c b = false) : lt a c = true := by
  rcases W.neg a c b h with z | z
  · exact z
  · rw [g] at z; cases z
theorem Wo.le_lt (W : Wo lt) {a b c : α} (h : lt b a = false) (g : lt b c = true) : lt a c = true := by
  rcases W.neg b a c g with z | z
  · rw [h] at z; cases z
  · exact z
def mg (lt : α → α → Bool) : List α → List α → List α × Nat
  | [], b => (b, 0)
  | x :: a, [] => (x :: a, 0)
  | x :: a, y :: b => if lt y x = true then (y :: (mg lt (x :: a) b).1, (mg lt (x :: a) b).2 + 1) else (x :: (mg lt a (y :: b)).1, (mg lt a (y :: b)).2 + 1)
termination_by a b => a.length + b.length
theorem mg_nil (b : List α) : mg lt [] b = (b, 0) := by rw [mg]
theorem mg_nil2 (a : List α) : mg lt a [] = (a, 0) := by cases a <;> rw [mg]
theorem mg_lt {x y : α} {a b : List α} (h : lt y x = true) : mg lt (x :: a) (y :: b) = (y :: (mg lt (x :: a) b).1, (mg lt (x :: a) b).2 + 1) := by
  rw [mg, if_pos h]
theorem mg_ge {x y : α} {a b : List α} (h : lt y x = false) : mg lt (x :: a) (y :: b) = (x :: (mg lt a (y :: b)).1, (mg lt a (y :: b)).2 + 1) := by
  rw [mg, if_neg (by rw [h]; exact Bool.false_ne_true)]
/-- by cases on what is merged -/
theorem mg_ind {P : List α → List α → Prop} (h0 : ∀ b, P [] b) (h1 : ∀ a, P a []) (h2 : ∀ x a y b, lt y x = true → P (x :: a) b → P (x :: a) (y :: b)) (h3 : ∀ x a y b, lt y x = false → P a (y :: b) → P (x :: a) (y :: b)) : ∀ a b, P a b := by
  suffices h : ∀ n a b, a.length + b.length ≤ n → P a b from fun a b => h _ a b (Nat.le_refl _)
  intro n
  induction n with
  | zero =>
    intro a b h
    have : a = [] := List.length_eq_zero_iff.mp (by omega)
    subst this; exact h0 b
  | succ n ih =>
    intro a b h
    cases a with
    | nil => exact h0 b
    | cons x a => cases b with
      | nil => exact h1 _
      | cons y b =>
        simp only [List.length_cons] at h
        cases e : lt y x with
        | true => exact h2 x a y b e (ih _ _ (by simp only [List.length_cons]; omega))
        | false => exact h3 x a y b e (ih _ _ (by simp only [List.length_cons]; omega))
theorem mg_perm : ∀ a b : List α, (mg lt a b).1.Perm (a ++ b) := by
  refine mg_ind (lt := lt) (fun b => by rw [mg_nil]; exact .refl _) (fun a => by rw [mg_nil2]; simp) ?_ ?_
  · intro x a y b h ih
    rw [mg_lt h]
    exact (ih.cons y).trans (List.perm_middle (a := y) (l₁ := x :: a) (l₂ := b)).symm
  · intro x a y b h ih
    rw [mg_ge h]
    exact ih.cons x
theorem mg_len (a b : List α) : (mg lt a b).1.length = a.length + b.length := by rw [(mg_perm a b).length_eq, List.length_append]
theorem mg_hi : ∀ a b : List α, (mg lt a b).2 ≤ a.length + b.length := by
  refine mg_ind (lt := lt) (fun b => by rw [mg_nil]; simp) (fun a => by rw [mg_nil2]; simp) ?_ ?_
  · intro x a y b h ih
    rw [mg_lt h]; simp only [List.length_cons] at *; omega
  · intro x a y b h ih
    rw [mg_ge h]; simp only [List.length_cons] at *; omega
theorem mg_lo : ∀ a b : List α, min a.length b.length ≤ (mg lt a b).2 := by
  refine mg_ind (lt := lt) (fun b => by rw [mg_nil]; simp) (fun a => by rw [mg_nil2]; simp) ?_ ?_
  · intro x a y b h ih
    rw [mg_lt h]; simp only [List.length_cons] at *; omega
  · intro x a y b h ih
    rw [mg_ge h]; simp only [List.length_cons] at *; omega
/-- none is less than one ahead of it -/
def Up (lt : α → α → Bool) (l : List α) : Prop := l.Pairwise fun x y => lt y x = false
theorem mg_up (W : Wo lt) : ∀ a b : List α, Up lt a → Up lt b → Up lt (mg lt a b).1 := by
  refine mg_ind (lt := lt) (fun b _ h => by rw [mg_nil]; exact h) (fun a h _ => by rw [mg_nil2]; exact h) ?_ ?_
  · intro x a y b h ih ha hb
    rw [mg_lt h]
    obtain ⟨hy, hb'⟩ := List.pairwise_cons.mp hb
    obtain ⟨hx, _⟩ := List.pairwise_cons.mp ha
    refine List.pairwise_cons.mpr ⟨fun z hz => ?_, ih ha hb'⟩
    rcases List.mem_append.mp ((mg_perm _ _).mem_iff.mp hz) with hz | hz
    · rcases memK hz with rfl | hz
      · exact W.asym h
      · exact W.asym (W.lt_le h (hx z hz))
    · exact hy z hz
  · intro x a y b h ih ha hb
    rw [mg_ge h]
    obtain ⟨hx, ha'⟩ := List.pairwise_cons.mp ha
    obtain ⟨hy, _⟩ := List.pairwise_cons.mp hb
    refine List.pairwise_cons.mpr ⟨fun z hz => ?_, ih ha' hb⟩
    rcases List.mem_append.mp ((mg_perm _ _).mem_iff.mp hz) with hz | hz
    · exact hx z hz
    · rcases memK hz with rfl | hz
      · exact h
      · exact W.le_tr h (hy z hz)
/-- m is alike one of l, and none of l is greater -/
structure Mx (lt : α → α → Bool) (m : α) (l : List α) : Prop where
  hi : ∀ z ∈ l, lt m z = false
  is : ∃ z ∈ l, lt z m = false
theorem Mx.tl (W : Wo lt) {m x z : α} {l : List α} (h : Mx lt m (x :: z :: l)) (u : Up lt (x :: z :: l)) : Mx lt m (z :: l) := by
  refine ⟨fun w hw => h.hi w (List.mem_cons_of_mem _ hw), ?_⟩
  obtain ⟨w, hw, e⟩ := h.is
  rcases List.mem_cons.mp hw with rfl | hw
  · have hz := (List.pairwise_cons.mp u).1 z (by simp)
    exact ⟨z, by simp, W.le_tr e hz⟩
  · exact ⟨w, hw, e⟩
theorem Mx.perm {m : α} {l k : List α} (h : Mx lt m l) (p : l.Perm k) : Mx lt m k := ⟨fun z hz => h.hi z (p.mem_iff.mpr hz), let ⟨z, hz, e⟩ := h.is; ⟨z, p.mem_iff.mp hz, e⟩⟩
/-- what is left when the other half has run out -/
def left (lt : α → α → Bool) (ma mb : α) (a b : List α) : Nat := if lt mb ma = false then b.countP (fun y => !lt y ma) else a.countP (fun x => lt mb x)
theorem mg_count (W : Wo lt) {ma mb : α} : ∀ a b : List α, a ≠ [] → b ≠ [] → Up lt a → Up lt b → Mx lt ma a → Mx lt mb b → (mg lt a b).2 + left lt ma mb a b = a.length + b.length := by
  refine mg_ind (lt := lt) (fun b h => absurd rfl h) (fun a _ h => absurd rfl h) ?_ ?_
  · intro x a y b h ih _ _ ua ub ha hb
    rw [mg_lt h]
    have hma : lt y ma = true := W.lt_le h (ha.hi x (by simp))
    obtain ⟨hx, _⟩ := List.pairwise_cons.mp ua
    cases b with
    | nil =>
      have hmb : lt mb ma = true := by
        obtain ⟨z, hz, e⟩ := hb.is
        simp at hz; subst hz
        exact W.le_lt e hma
      have all : (x :: a).countP (fun z => lt mb z) = (x :: a).length := by
        rw [List.countP_eq_length]
        intro z hz
        have hyz : lt y z = true := by
          rcases memK hz with rfl | hz
          · exact h
          · exact W.lt_le h (hx z hz)
        obtain ⟨v, hv, e⟩ := hb.is
        simp at hv; subst hv
        exact W.le_lt e hyz
      rw [mg_nil2]
      unfold left
      rw [if_neg (by rw [hmb]; exact Bool.noConfusion), all]
      simp; omega
    | cons z b =>
      have := ih (by simp) (by simp) ua (List.pairwise_cons.mp ub).2 ha (hb.tl W ub)
      have e : left lt ma mb (x :: a) (y :: z :: b) = left lt ma mb (x :: a) (z :: b) := by
        unfold left
        split
        · rw [List.countP_cons, hma]; simp
        · rfl
      rw [e]
      simp only [List.length_cons] at *
      omega
  · intro x a y b h ih _ _ ua ub ha hb
    rw [mg_ge h]
    obtain ⟨hy, _⟩ := List.pairwise_cons.mp ub
    have hmx : lt mb x = false := W.le_tr h (hb.hi y (by simp))
    cases a with
    | nil =>
      have hax : lt x ma = false := by
        obtain ⟨z, hz, e⟩ := ha.is
        simp at hz; subst hz; exact e
      have hmb : lt mb ma = false := W.le_tr hax hmx
      have all : (y :: b).countP (fun z => !lt z ma) = (y :: b).length := by
        rw [List.countP_eq_length]
        intro z hz
        have hzx : lt z x = false := by
          rcases memK hz with rfl | hz
          · exact h
          · exact W.le_tr h (hy z hz)
        rw [W.le_tr hax hzx]; rfl
      rw [mg_nil]
      unfold left
      rw [if_pos hmb, all]
      simp
    | cons z a =>
      have := ih (by simp) (by simp) (List.pairwise_cons.mp ua).2 ub (ha.tl W ua) hb
      have e : left lt ma mb (x :: z :: a) (y :: b) = left lt ma mb (z :: a) (y :: b) := by
        unfold left
        split
        · rfl
        · rw [List.countP_cons (a := x), hmx]; simp
      rw [e]
      simp only [List.length_cons] at *
      omega
/-! ### the whole sort -/
def ms (lt : α → α → Bool) (xs : List α) : List α × Nat :=
  if h : xs.length ≤ 1 then (xs, 0) else
    ((mg lt (ms lt (xs.take (xs.length / 2))).1 (ms lt (xs.drop (xs.length / 2))).1).1,
      (ms lt (xs.take (xs.length / 2))).2 + (ms lt (xs.drop (xs.length / 2))).2 + (mg lt (ms lt (xs.take (xs.length / 2))).1 (ms lt (xs.drop (xs.length / 2))).1).2)
termination_by xs.length
decreasing_by all_goals (simp only [List.length_take, List.length_drop]; omega)
theorem ms_one {xs : List α} (h : xs.length ≤ 1) : ms lt xs = (xs, 0) := by rw [ms, dif_pos h]
theorem ms_two {xs : List α} (h : ¬ xs.length ≤ 1) : ms lt xs = ((mg lt (ms lt (xs.take (xs.length / 2))).1 (ms lt (xs.drop (xs.length / 2))).1).1, (ms lt (xs.take (xs.length / 2))).2 + (ms lt (xs.drop (xs.length / 2))).2 + (mg lt (ms lt (xs.take (xs.length / 2))).1 (ms lt (xs.drop (xs.length / 2))).1).2) := by
  rw [ms, dif_neg h]
theorem ms_ind {P : List α → Prop} (h1 : ∀ xs, xs.length ≤ 1 → P xs) (h2 : ∀ xs, ¬ xs.length ≤ 1 → P (xs.take (xs.length / 2)) → P (xs.drop (xs.length / 2)) → P xs) : ∀ xs, P xs := by
  suffices h : ∀ n xs, xs.length ≤ n → P xs from fun xs => h _ xs (Nat.le_refl _)
  intro n
  induction n with
  | zero => intro xs h; exact h1 xs (by omega)
  | succ n ih =>
    intro xs h
    by_cases h' : xs.length ≤ 1
    · exact h1 xs h'
    · exact h2 xs h' (ih _ (by rw [List.length_take]; omega)) (ih _ (by rw [List.length_drop]; omega))
theorem ms_perm : ∀ xs : List α, (ms lt xs).1.Perm xs := by
  refine ms_ind (fun xs h => by rw [ms_one h]) fun xs h p q => ?_
  rw [ms_two h]
  have := (mg_perm (lt := lt) (ms lt (xs.take (xs.length / 2))).1 (ms lt (xs.drop (xs.length / 2))).1).trans (p.append q)
  rwa [List.take_append_drop] at this
theorem ms_len (xs : List α) : (ms lt xs).1.length = xs.length := (ms_perm xs).length_eq
theorem ms_up (W : Wo lt) : ∀ xs : List α, Up lt (ms lt xs).1 := by
  refine ms_ind (fun xs h => ?_) fun xs h p q => by rw [ms_two h]; exact mg_up W _ _ p q
  rw [ms_one h]
  cases xs with
  | nil => exact .nil
  | cons x xs =>
    have : xs = [] := List.length_eq_zero_iff.mp (by simp only [List.length_cons] at h; omega)
    subst this
    exact List.pairwise_singleton ..
/-- at most x lift(x) -/
theorem ms_hi : ∀ (L : Nat) (xs : List α), xs.length ≤ 2 ^ L → (ms lt xs).2 ≤ xs.length * L := by
  intro L
  induction L with
  | zero => intro xs h; rw [ms_one (by simpa using h)]; simp
  | succ L ih =>
    intro xs h
    by_cases h' : xs.length ≤ 1
    · rw [ms_one h']; simp
    · rw [ms_two h']
      rw [Nat.pow_succ] at h
      have l1 : (xs.take (xs.length / 2)).length = xs.length / 2 := by rw [List.length_take]; omega
      have l2 : (xs.drop (xs.length / 2)).length = xs.length - xs.length / 2 := by rw [List.length_drop]
      have h1 := ih (xs.take (xs.length / 2)) (by omega)
      have h2 := ih (xs.drop (xs.length / 2)) (by omega)
      have h3 := mg_hi (lt := lt) (ms lt (xs.take (xs.length / 2))).1 (ms lt (xs.drop (xs.length / 2))).1
      rw [ms_len, ms_len, l1, l2] at h3
      rw [l1] at h1
      rw [l2] at h2
      have e : xs.length * (L + 1) = xs.length / 2 * L + (xs.length - xs.length / 2) * L + xs.length := by
        rw [← Nat.add_mul, Nat.mul_succ]
        congr 2
        omega
      rw [e]
      show (ms lt _).2 + (ms lt _).2 + (mg lt _ _).2 ≤ _
      omega
end
/-- at least so many -/
def leastN (n : Nat) : Nat := if h : n < 2 then 0 else n / 2 + leastN (n / 2) + leastN (n - n / 2)
termination_by n
theorem least_lo {α : Type} {lt : α → α → Bool} : ∀ xs : List α, leastN xs.length ≤ (ms lt xs).2 := by
  refine ms_ind (fun xs h => ?_) fun xs h p q => ?_
  · rw [leastN, dif_pos (by omega)]; exact Nat.zero_le _
  · rw [leastN, dif_neg (by omega), ms_two h]
    have l1 : (xs.take (xs.length / 2)).length = xs.length / 2 := by rw [List.length_take]; omega
    have l2 : (xs.drop (xs.length / 2)).length = xs.length - xs.length / 2 := by rw [List.length_drop]
    have h3 := mg_lo (lt := lt) (ms lt (xs.take (xs.length / 2))).1 (ms lt (xs.drop (xs.length / 2))).1
    rw [ms_len, ms_len, l1, l2] at h3
    rw [l1] at p
    rw [l2] at q
    show _ ≤ (ms lt _).2 + (ms lt _).2 + (mg lt _ _).2
    omega
end
section
section
variable {α β : Type}
theorem mg_map {lt : β → β → Bool} (r : α → β) : ∀ a b : List α, mg lt (a.map r) (b.map r) = ((mg (fun x y => lt (r x) (r y)) a b).1.map r, (mg (fun x y => lt (r x) (r y)) a b).2) := by
  refine mg_ind (lt := fun x y => lt (r x) (r y)) (fun b => by rw [List.map_nil, mg_nil, mg_nil]) (fun a => by rw [List.map_nil, mg_nil2, mg_nil2]) ?_ ?_
  · intro x a y b h ih
    have e1 := mg_lt (lt := lt) (x := r x) (y := r y) (a := a.map r) (b := b.map r) h
    have e2 := mg_lt (lt := fun x y => lt (r x) (r y)) (a := a) (b := b) h
    rw [e2, List.map_cons, List.map_cons, e1]
    rw [List.map_cons] at ih
    rw [ih]
    rfl
  · intro x a y b h ih
    have e1 := mg_ge (lt := lt) (x := r x) (y := r y) (a := a.map r) (b := b.map r) h
    have e2 := mg_ge (lt := fun x y => lt (r x) (r y)) (a := a) (b := b) h
    rw [e2, List.map_cons, List.map_cons, e1]
    rw [List.map_cons] at ih
    rw [ih]
    rfl
theorem ms_map {lt : β → β → Bool} (r : α → β) : ∀ xs : List α, ms lt (xs.map r) = ((ms (fun x y => lt (r x) (r y)) xs).1.map r, (ms (fun x y => lt (r x) (r y)) xs).2) := by
  refine ms_ind (fun xs h => by rw [ms_one (by simpa using h), ms_one h]) fun xs h p q => ?_
  rw [ms_two (by simpa using h), ms_two h, List.length_map, ← List.map_take, ← List.map_drop, p, q, mg_map]
end
/-! ### where each place comes to stand -/
section
variable {lt : Nat → Nat → Bool}
def prB (lt : Nat → Nat → Bool) (x y : Nat) : Bool := lt x y || (!lt y x && decide (x < y))
theorem pr_up {x y : Nat} (W : Wo lt) (h : prB lt x y = true) : lt y x = false := by
  unfold prB at h
  cases e : lt y x with
  | false => rfl
  | true => rw [W.asym e, e] at h; simp at h
theorem pr_irr (W : Wo lt) (x : Nat) : prB lt x x = false := by simp [prB, W.irr]
theorem pr_asym (W : Wo lt) {x y : Nat} (h : prB lt x y = true) : prB lt y x = false := by
  have h1 := pr_up W h
  unfold prB at *
  rw [h1]
  cases e : lt x y with
  | true => simp
  | false => rw [e, h1] at h; simp at h ⊢; omega
theorem mg_pr (W : Wo lt) : ∀ a b : List Nat, a.Pairwise (fun x y => prB lt x y = true) → b.Pairwise (fun x y => prB lt x y = true) → (∀ x ∈ a, ∀ y ∈ b, x < y) → (mg lt a b).1.Pairwise (fun x y => prB lt x y = true) := by
  refine mg_ind (lt := lt) (fun b _ h _ => by rw [mg_nil]; exact h) (fun a h _ _ => by rw [mg_nil2]; exact h) ?_ ?_
  · intro x a y b h ih ha hb hab
    rw [mg_lt h]
    obtain ⟨hy, hb'⟩ := List.pairwise_cons.mp hb
    obtain ⟨hx, _⟩ := List.pairwise_cons.mp ha
    refine List.pairwise_cons.mpr ⟨fun z hz => ?_, ih ha hb' fun u hu v hv => hab u hu v (List.mem_cons_of_mem _ hv)⟩
    rcases List.mem_append.mp ((mg_perm _ _).mem_iff.mp hz) with hz | hz
    · rcases memK hz with rfl | hz
      · simp [prB, h]
      · have := W.lt_le h (pr_up W (hx z hz))
        simp [prB, this]
    · exact hy z hz
  · intro x a y b h ih ha hb hab
    rw [mg_ge h]
    obtain ⟨hx, ha'⟩ := List.pairwise_cons.mp ha
    obtain ⟨hy, _⟩ := List.pairwise_cons.mp hb
    refine List.pairwise_cons.mpr ⟨fun z hz => ?_, ih ha' hb fun u hu v hv => hab u (List.mem_cons_of_mem _ hu) v hv⟩
    rcases List.mem_append.mp ((mg_perm _ _).mem_iff.mp hz) with hz | hz
    · exact hx z hz
    · have hl := hab x (by simp) z hz
      have : lt z x = false := by
        rcases memK hz with rfl | hz
        · exact h
        · exact W.le_tr h (pr_up W (hy z hz))
      simp [prB, this, hl]
theorem ms_pr (W : Wo lt) : ∀ xs : List Nat, xs.Pairwise (· < ·) → (ms lt xs).1.Pairwise (fun x y => prB lt x y = true) := by
  refine ms_ind (fun xs h _ => ?_) fun xs h p q hx => ?_
  · rw [ms_one h]
    cases xs with
    | nil => exact .nil
    | cons x xs =>
      have : xs = [] := List.length_eq_zero_iff.mp (by simp only [List.length_cons] at h; omega)
      subst this
      exact List.pairwise_singleton ..
  · rw [ms_two h]
    have e := List.take_append_drop (xs.length / 2) xs
    have hx2 := hx
    rw [← e] at hx2
    obtain ⟨h1, h2, h3⟩ := List.pairwise_append.mp hx2
    refine mg_pr W _ _ (p h1) (q h2) fun x hx y hy => h3 x ((ms_perm _).mem_iff.mp hx) y ((ms_perm _).mem_iff.mp hy)
theorem pos_of (W : Wo lt) {L : List Nat} (u : L.Pairwise (fun x y => prB lt x y = true)) {k : Nat} (hk : k ∈ L) : L[L.countP fun j => prB lt j k]? = some k := by
  obtain ⟨l1, l2, rfl⟩ := List.append_of_mem hk
  obtain ⟨_, h2, h3⟩ := List.pairwise_append.mp u
  obtain ⟨h4, _⟩ := List.pairwise_cons.mp h2
  have e1 : l1.countP (fun j => prB lt j k) = l1.length := List.countP_eq_length.mpr fun j hj => h3 j hj k (by simp)
  have e2 : l2.countP (fun j => prB lt j k) = 0 := List.countP_eq_zero.mpr fun j hj => by rw [pr_asym W (h4 j hj)]; exact Bool.false_ne_true
  rw [List.countP_append, List.countP_cons, e1, e2, pr_irr W]
  simp
theorem countP_or {l : List Nat} {p q : Nat → Bool} (h : ∀ j, p j = true → q j = false) : l.countP (fun j => p j || q j) = l.countP p + l.countP q := by
  induction l with
  | nil => rfl
  | cons x l ih =>
    rw [List.countP_cons, List.countP_cons, List.countP_cons, ih]
    cases e : p x with
    | true => simp [h x e]; omega
    | false => simp; omega
theorem countP_lt {p : Nat → Bool} {k : Nat} : ∀ n, k ≤ n → (List.range n).countP (fun j => p j && decide (j < k)) = (List.range k).countP p
  | 0, h => by have : k = 0 := by omega
               subst this; rfl
  | n + 1, h => by
    rw [List.range_succ, List.countP_append]
    by_cases e : k = n + 1
    · subst e
      rw [List.range_succ, List.countP_append]
      have : (List.range n).countP (fun j => p j && decide (j < n + 1)) = (List.range n).countP p := List.countP_congr fun j hj => by
        have := List.mem_range.mp hj
        simp [show j < n + 1 by omega]
      rw [this]
      simp
    · rw [countP_lt n (by omega)]
      simp [show ¬ n < k by omega]
/-- the law's own place of k -/
def atR (lt eq : Nat → Nat → Bool) (n k : Nat) : Nat := (List.range n).countP (fun j => lt j k) + (List.range k).countP (fun j => eq j k)
theorem at_pos (W : Wo lt) {eq : Nat → Nat → Bool} {n k : Nat} (hk : k < n) (he : ∀ j, j < n → eq j k = (!lt j k && !lt k j)) : (ms lt (List.range n)).1[atR lt eq n k]? = some k := by
  have p := ms_perm (lt := lt) (List.range n)
  have u := ms_pr W (List.range n) List.pairwise_lt_range
  have := pos_of W u (p.mem_iff.mpr (List.mem_range.mpr hk))
  rw [p.countP_eq] at this
  have e : (List.range n).countP (fun j => prB lt j k) = atR lt eq n k := by
    have e1 : (fun j => prB lt j k) = fun j => lt j k || (!lt j k && !lt k j && decide (j < k)) := by
      funext j
      unfold prB
      cases lt j k <;> simp
    rw [e1, countP_or fun j h => by simp [h], countP_lt n (by omega)]
    unfold atR
    congr 1
    refine List.countP_congr fun j hj => ?_
    rw [he j (by have := List.mem_range.mp hj; omega)]
  rw [e] at this
  exact this
end
end
section
/-! ### the order of data -/
mutual
theorem alike_eqv : ∀ (p q : PyData), PySem.W.alike p q = true → PyData.eqv p q = true → p = q
  | .none, q, h, e => by cases q <;> simp [PySem.W.alike] at h; rfl
  | .bool b, q, h, e => by
    cases q <;> simp [PySem.W.alike] at h
    simp [PyData.eqv] at e; rw [e]
  | .int i, q, h, e => by
    cases q <;> simp [PySem.W.alike] at h
    simp [PyData.eqv] at e; rw [e]
  | .str z, q, h, e => by
    cases q <;> simp [PySem.W.alike] at h
    simp [PyData.eqv] at e; rw [e]
  | .list xs, q, h, e => by
    cases q with
    | list ys =>
      rw [PySem.W.alike] at h
      rw [PyData.eqv] at e
      rw [alike_eqvs xs ys h e]
    | _ => simp [PySem.W.alike] at h
  | .tuple xs, q, h, e => by
    cases q with
    | tuple ys =>
      rw [PySem.W.alike] at h
      rw [PyData.eqv] at e
      rw [alike_eqvs xs ys h e]
    | _ => simp [PySem.W.alike] at h
  | .dict _, q, h, e => by cases q <;> simp [PySem.W.alike] at h
theorem alike_eqvs : ∀ (xs ys : List PyData), PySem.W.alikeAll xs ys = true → PyData.eqvAll xs ys = true → xs = ys
  | [], [], _, _ => rfl
  | [], y :: ys, _, e => by simp [PyData.eqvAll] at e
  | x :: xs, [], _, e => by simp [PyData.eqvAll] at e
  | x :: xs, y :: ys, h, e => by
    rw [PySem.W.alikeAll, Bool.and_eq_true] at h
    rw [PyData.eqvAll, Bool.and_eq_true] at e
    rw [alike_eqv x y h.1 e.1, alike_eqvs xs ys h.2 e.2]
end
theorem toks_inj {p q : PyData} (h : PySem.W.alike p q = true) (e : PySem.W.keyToks p = PySem.W.keyToks q) : p = q := by
  cases ee : PyData.eqv p q with
  | true => exact alike_eqv p q h ee
  | false =>
    have := (PySem.W.toks_eqv p q h).2 ee [] [.inl 0]
    rw [e, PySem.W.lex_pre, PyProof.Rows.lex_irrefl] at this
    exact absurd this (by decide)
def ltD (a b : D) : Bool := PySem.W.dataLt (encD a) (encD b)
theorem ltD_wo : Wo ltD := ⟨fun a => PyProof.Rows.lex_irrefl _, fun a b c => PyProof.Rows.lex_trans _ _ _, fun a b c => PyProof.Rows.lex_negTrans _ _ _⟩
theorem ltD_eq {a b : D} (h : PySem.W.alike (encD a) (encD b) = true) : PyData.eqv (encD a) (encD b) = (!ltD a b && !ltD b a) := by
  cases e : PyData.eqv (encD a) (encD b) with
  | true =>
    have := alike_eqv _ _ h e
    unfold ltD PySem.W.dataLt
    rw [this, PyProof.Rows.lex_irrefl]; rfl
  | false =>
    symm
    rw [Bool.and_eq_false_iff]
    cases h1 : ltD a b with
    | true => exact .inl rfl
    | false => cases h2 : ltD b a with
      | true => exact .inr rfl
      | false =>
        have e2 := toks_inj h (PyProof.Rows.lex_total _ _ h1 h2)
        rw [e2] at e h
        rw [PySem.W.eqv_refl_alike _ h] at e
        cases e
/-! ### ranks -/
/-- a rank by its way -/
inductive Rk (w : Nat) : D → Prop
  | non : Rk w (.tup [.int 0])
  | str {z : Str} (h : w = 1) (s : PyData.strOk z = true) : Rk w (.tup [.int 1, .str z])
  | int {i : Int} (h : w ≠ 1) : Rk w (.tup [.int 1, .int i])
/-- a row of ranks -/
structure Rw (ws : List Nat) (d : D) : Prop where
  ex : ∃ es, d = .tup es ∧ es.length = ws.length ∧ 0 < ws.length ∧ ∀ (i : Nat) (w : Nat) (e : D), ws[i]? = some w → es[i]? = some e → Rk w e
theorem Rk.py {w : Nat} {d : D} (h : Rk w d) : ∃ p, pyD d = some p ∧ p.canLay0 = true ∧ p.depth = 1 := by
  cases h with
  | non => exact ⟨.tuple [.int 0], by simp [pyD, pyDs], by simp [PyData.canLay0, PyData.canLayAll0], by simp [PyData.depth, PyData.depthAll]⟩
  | str h s => exact ⟨.tuple [.int 1, .str _], by simp [pyD, pyDs]; rfl, by simp [PyData.canLay0, PyData.canLayAll0, s], by simp [PyData.depth, PyData.depthAll]⟩
  | int h => exact ⟨.tuple [.int 1, .int _], by simp [pyD, pyDs]; rfl, by simp [PyData.canLay0, PyData.canLayAll0], by simp [PyData.depth, PyData.depthAll]⟩
theorem Rk.alike {w : Nat} {d e : D} {p q : PyData} (h : Rk w d) (g : Rk w e) (hp : pyD d = some p) (hq : pyD e = some q) : PySem.W.alike p q = true := by
  cases h <;> cases g <;> simp [pyD, pyDs] at hp hq <;> subst hp <;> subst hq <;> first | (exfalso; omega) | simp [PySem.W.alike, PySem.W.alikeAll]
theorem rks_py : ∀ {ws : List Nat} {es : List D}, es.length = ws.length → (∀ (i : Nat) (w : Nat) (e : D), ws[i]? = some w → es[i]? = some e → Rk w e) → ∃ ps, pyDs es = some ps ∧ PyData.canLayAll0 ps = true ∧ PyData.depthAll ps ≤ 1 ∧ ps.length = es.length
  | [], [], _, _ => ⟨[], by simp [pyDs], by simp [PyData.canLayAll0], by simp [PyData.depthAll], rfl⟩
  | w :: ws, e :: es, hl, h => by
    obtain ⟨p, a, b, c⟩ := (h 0 w e rfl rfl).py
    obtain ⟨ps, a1, b1, c1, d1⟩ := rks_py (ws := ws) (es := es) (by simpa using hl) fun i w' e' h1 h2 => h (i + 1) w' e' (by simpa using h1) (by simpa using h2)
    refine ⟨p :: ps, ?_, ?_, ?_, by simp [d1]⟩
    · rw [pyDs, a, a1]
    · rw [PyData.canLayAll0, b, b1]; rfl
    · rw [PyData.depthAll, c]; omega
  | [], _ :: _, hlz, _ => by simp at hlz
  | _ :: _, [], hlz, _ => by simp at hlz
theorem rks_alike : ∀ {ws : List Nat} {es fs : List D} {ps qs : List PyData}, (∀ (i : Nat) (w : Nat) (e : D), ws[i]? = some w → es[i]? = some e → Rk w e) → (∀ (i : Nat) (w : Nat) (e : D), ws[i]? = some w → fs[i]? = some e → Rk w e) → es.length = ws.length → fs.length = ws.length → pyDs es = some ps → pyDs fs = some qs → PySem.W.alikeAll ps qs = true
  | [], [], [], ps, qs, _, _, _, _, h1, h2 => by simp [pyDs] at h1 h2; subst h1; subst h2; simp [PySem.W.alikeAll]
  | w :: ws, e :: es, f :: fs, ps, qs, h, g, l1, l2, h1, h2 => by
    obtain ⟨p, a, _⟩ := (h 0 w e rfl rfl).py
    obtain ⟨q, b, _⟩ := (g 0 w f rfl rfl).py
    rw [pyDs, a] at h1
    rw [pyDs, b] at h2
    split at h1
    · rename_i p0 ps0 hp0 hps
      cases h1
      cases hp0
      split at h2
      · rename_i q0 qs0 hq0 hqs
        cases h2
        cases hq0
        rw [PySem.W.alikeAll, Rk.alike (h 0 w e rfl rfl) (g 0 w f rfl rfl) a b]
        exact rks_alike (ws := ws) (fun i w' e' x y => h (i + 1) w' e' (by simpa using x) (by simpa using y)) (fun i w' e' x y => g (i + 1) w' e' (by simpa using x) (by simpa using y)) (by simpa using l1) (by simpa using l2) hps hqs
      · cases h2
    · cases h1
  | [], _ :: _, _, _, _, _, _, l1, _, _, _ => by simp at l1
  | _ :: _, [], _, _, _, _, _, l1, _, _, _ => by simp at l1
  | [], [], _ :: _, _, _, _, _, _, l2, _, _ => by simp at l2
  | _ :: _, _ :: _, [], _, _, _, _, _, l2, _, _ => by simp at l2
/-- all that the order wants of rows -/
structure RwD (d : D) : Prop where
  ex : ∃ p ps, pyD d = some (.tuple (p :: ps)) ∧ PyData.canLayAll0 (p :: ps) = true ∧ PyData.depthAll (p :: ps) ≤ 1
theorem Rw.d {ws : List Nat} {d : D} (h : Rw ws d) : RwD d := by
  obtain ⟨es, rfl, hl, h0, h⟩ := h
  obtain ⟨ps, a, b, c, l⟩ := rks_py hl h
  cases ps with
  | nil => simp at l; omega
  | cons p ps => exact ⟨p, ps, by rw [pyD, a], b, c⟩
theorem RwD.isS {d : D} (h : RwD d) : (pyD d).isSome = true := by
  obtain ⟨p, ps, e, _⟩ := h
  rw [e]; rfl
theorem RwD.enc {d : D} (h : RwD d) : pyD d = some (encD d) := by
  have := h.isS
  unfold encD
  cases e : pyD d with
  | none => rw [e] at this; cases this
  | some p => rfl
theorem RwD.deep {d : D} (h : RwD d) : (encD d).depth ≤ 2 := by
  obtain ⟨p, ps, e, _, c⟩ := h
  unfold encD
  rw [e]
  show (PyData.tuple (p :: ps)).depth ≤ 2
  rw [PyData.depth]; omega
theorem Rw.alike {ws : List Nat} {d e : D} (h : Rw ws d) (g : Rw ws e) : PySem.W.alike (encD d) (encD e) = true := by
  obtain ⟨es, rfl, hl, h0, h1⟩ := id h
  obtain ⟨fs, rfl, gl, g0, g1⟩ := id g
  obtain ⟨ps, a, _⟩ := rks_py hl h1
  obtain ⟨qs, b, _⟩ := rks_py gl g1
  have e1 : encD (.tup es) = .tuple ps := by unfold encD; rw [pyD, a]; rfl
  have e2 : encD (.tup fs) = .tuple qs := by unfold encD; rw [pyD, b]; rfl
  rw [e1, e2, PySem.W.alike]
  exact rks_alike h1 g1 hl gl a b
theorem Rw.two {ws : List Nat} {d e : D} (h : Rw ws d) (g : Rw ws e) : twoD d e = some (encD d, encD e) := by
  unfold twoD
  rw [h.d.enc, g.d.enc]
  have c1 : nnP (encD d) = true := by
    obtain ⟨p, ps, e, _⟩ := h.d
    unfold encD; rw [e]; rfl
  have := h.d.deep
  simp only [h.alike g, c1, Bool.true_and]
  rw [if_pos (by simp; omega)]
def Rws (ws : List Nat) (l : List D) : Prop := ∀ x ∈ l, Rw ws x
theorem Rws.sort {ws : List Nat} {l : List D} (h : Rws ws l) : sortOk l = true := by
  unfold sortOk
  simp only [Bool.and_eq_true, List.all_eq_true, Bool.or_eq_true, decide_eq_true_eq]
  refine ⟨⟨fun x hx => ⟨(h x hx).d.isS, by have := (h x hx).d.deep; omega⟩, fun x hx y hy => (h x hx).alike (h y hy)⟩, .inl fun x hx => ?_⟩
  obtain ⟨p, ps, e, _⟩ := (h x hx).d
  unfold encD; rw [e]; rfl
theorem depth_le {l : List D} {n : Nat} (h : ∀ x ∈ l, (encD x).depth ≤ n) : PyData.depthAll (l.map encD) ≤ n := by
  induction l with
  | nil => simp [PyData.depthAll]
  | cons x l ih =>
    rw [List.map_cons]
    rw [PyData.depthAll]
    have h1 := h x (by simp)
    have h2 := ih fun y hy => h y (by simp [hy])
    omega
theorem Rws.max {ws : List Nat} {l : List D} (h : Rws ws l) : maxOk l = true := by
  unfold maxOk
  simp only [Bool.and_eq_true, List.all_eq_true, decide_eq_true_eq]
  refine ⟨⟨fun x hx => ⟨(h x hx).d.isS, ?_⟩, fun x hx y hy => (h x hx).alike (h y hy)⟩, ?_⟩
  · obtain ⟨p, ps, e, _⟩ := (h x hx).d
    unfold encD; rw [e]; rfl
  · have := depth_le (l := l) (n := 2) fun x hx => (h x hx).d.deep
    omega
/-- max is a greatest -/
theorem maxL_mx (x : D) (l : List D) : Mx ltD (maxL x l) (x :: l) := by
  refine ⟨?_, maxL x l, maxL_mem x l, ltD_wo.irr _⟩
  have key : ∀ (l seen : List D) (x : D), (∀ z ∈ seen, ltD x z = false) → ∀ z ∈ x :: seen ++ l, ltD (l.foldl (fun a y => if PySem.W.dataLt (encD a) (encD y) then y else a) x) z = false := by
    intro l
    induction l with
    | nil =>
      intro seen x h z hz
      simp only [List.append_nil] at hz
      rcases memK hz with rfl | hz
      · exact ltD_wo.irr _
      · exact h z hz
    | cons y l ih =>
      intro seen x h z hz
      rw [List.foldl_cons]
      have hz' : z = x ∨ z ∈ seen ∨ z = y ∨ z ∈ l := by simpa [or_assoc] using hz
      by_cases hlt : ltD x y = true
      · rw [if_pos (show PySem.W.dataLt (encD x) (encD y) = true from hlt)]
        refine ih (x :: seen) y ?_ z ?_
        · intro v hv
          rcases memK hv with rfl | hv
          · exact ltD_wo.asym hlt
          · have := h v hv
            cases e : ltD y v with
            | false => rfl
            | true => have := ltD_wo.tr _ _ _ hlt e; rw [h v hv] at this; cases this
        · rcases hz' with r | r | r | r <;> simp [r]
      · rw [if_neg (show ¬ PySem.W.dataLt (encD x) (encD y) = true from hlt)]
        refine ih (y :: seen) x ?_ z ?_
        · intro v hv
          rcases memK hv with rfl | hv
          · simpa using hlt
          · exact h v hv
        · rcases hz' with r | r | r | r <;> simp [r]
  intro z hz
  exact key l [] x (by simp) z (by simpa using hz)
end
local macro_rules | `(tactic| sizeOf_list_dec) => `(tactic| repeat (first | array_mem_dec | refine ⟨by simp only [List.length_cons, List.length_nil, sizeLine]; omega, ?_⟩))
section
/-- all but those at es stays -/
structure Ks (es : List Nat) (S S' : Sto) : Prop where
  at_ : ∀ (i : Nat) (o : O), i ∉ es → S[i]? = some o → S'[i]? = some o
  len : S.length ≤ S'.length
theorem Ks.refl {es S} : Ks es S S := ⟨fun _ _ _ h => h, Nat.le_refl _⟩
theorem Ks.trans {es S S1 S2} (a : Ks es S S1) (b : Ks es S1 S2) : Ks es S S2 := ⟨fun i o n h => b.at_ i o n (a.at_ i o n h), Nat.le_trans a.len b.len⟩
theorem Ks.app {es S S' J} (h : Ks es S S') : Ks es S (S' ++ J) := ⟨fun i o n e => lk_app (h.at_ i o n e), by have := h.len; simp; omega⟩
theorem Ks.set {es S S'} {n : Nat} {u : O} (h : Ks es S S') (hn : n ∈ es ∨ S.length ≤ n) : Ks es S (S'.set n u) := ⟨fun i o ni e => by
  have hne : i ≠ n := fun z => by
    subst z
    rcases hn with z | z
    · exact ni z
    · have := lt_of e; omega
  exact lk_ne hne (h.at_ i o ni e), by simpa using h.len⟩
theorem Ks.more {es fs S S'} (h : Ks es S S') (i : ∀ x ∈ es, x ∈ fs) : Ks fs S S' := ⟨fun j o n e => h.at_ j o (fun z => n (i j z)) e, h.len⟩
theorem Kp.ks {es S S'} (h : Kp S S') : Ks es S S' := ⟨fun i o _ e => h i o e, h.len⟩
/-- what was fresh may be spoilt -/
theorem Ks.drop {es S S'} {n : Nat} (h : Ks (n :: es) S S') (hn : S.length ≤ n) : Ks es S S' := ⟨fun j o nj e => h.at_ j o (fun z => by
  rcases memC z with z | z
  · have := lt_of e; omega
  · exact nj z) e, h.len⟩
/-- a deck -/
def Dk (p : Nat) (S : Sto) : Prop := ∃ ns : List Int, S[p]? = some (.lst (ns.map D.int))
theorem Dk.ks {p es S S'} (h : Dk p S) (k : Ks es S S') (n : p ∉ es) : Dk p S' := let ⟨ns, e⟩ := h; ⟨ns, k.at_ _ _ n e⟩
theorem Dk.app {p S J} (h : Dk p S) : Dk p (S ++ J) := let ⟨ns, e⟩ := h; ⟨ns, lk_app e⟩
theorem Dk.lt {p S} (h : Dk p S) : p < S.length := let ⟨_, e⟩ := h; lt_of e
theorem Dk.set {p S n u} (h : Dk p S) (hn : p ≠ n) : Dk p (S.set n u) := let ⟨ns, e⟩ := h; ⟨ns, lk_ne hn e⟩
theorem mul_r {i j : Int} (h : -(2 ^ 64) < j ∧ j < 2 ^ 64) : mulOk i j = true := by
  unfold mulOk
  rw [decide_eq_true h]; simp
theorem mul_l {i j : Int} (h : -(2 ^ 64) < i ∧ i < 2 ^ 64) : mulOk i j = true := by
  unfold mulOk
  rw [decide_eq_true h]; simp
def isI (xs : List D) : Prop := ∀ x ∈ xs, ∃ i, x = D.int i
theorem isI_rng (lo : Int) (n : Nat) : isI (rngD lo n) := by
  intro x hx
  simp only [rngD, List.mem_map] at hx
  obtain ⟨i, _, rfl⟩ := hx
  exact ⟨_, rfl⟩
theorem rng_len (lo : Int) (n : Nat) : (rngD lo n).length = n := by simp [rngD]
theorem isI_snoc {xs : List D} (h : isI xs) (i : Int) : isI (xs ++ [.int i]) := by
  intro x hx
  rcases memA hx with hx | hx
  · exact h x hx
  · simp at hx; exact ⟨i, hx⟩
theorem isI_ints : ∀ {xs : List D}, isI xs → ∃ ns : List Int, xs = ns.map D.int
  | [], _ => ⟨[], rfl⟩
  | x :: xs, h => by
    obtain ⟨i, rfl⟩ := h x (by simp)
    obtain ⟨ns, rfl⟩ := isI_ints (xs := xs) fun y hy => h y (by simp [hy])
    exact ⟨i :: ns, rfl⟩
theorem i_rl {γ : Sl} {S : Sto} {e : EvM} {Q : Option (Nat × O) → List D → Sto → Prop} (h : wE e γ S fun d S1 => ∃ xs, d = .rl xs ∧ Q none xs S1) : wI (rlI e) γ S Q := by
  obtain ⟨d, S1, e1, xs, rfl, q⟩ := h
  exact ⟨_, _, S1, by unfold rlI; simp only [e1], q⟩
theorem m_rev {n : Nat} {xs : List D} {S : Sto} {Q : D → Sto → Prop} (hn : S[n]? = some (.lst xs)) (q : Q .non (S.set n (.lst xs.reverse))) : wM reverseF (.ref n) [] S Q := ⟨.non, _, by unfold reverseF; simp only [hn], q⟩
/-- an item of a list told on the spot, drawn -/
theorem at_in {xs : List D} {r : Int} (h0 : 0 ≤ r) (h1 : r < xs.length) : ∃ x, atI xs r = some x ∧ x ∈ xs := by
  obtain ⟨i, rfl⟩ := Int.eq_ofNat_of_zero_le h0
  have hi : i < xs.length := by omega
  exact ⟨xs[i], at_rng (List.getElem?_eq_getElem hi), List.getElem_mem hi⟩
/-- a list told by a plain map -/
theorem comp_map {ck : Option (Nat × O)} {i n : Nat} {e : EvM} {γ : Sl} {S : Sto} {g : D → D} {acc xs : List D} {Q : Sto → Prop} (hn : S[n]? = some (.lst acc)) (hck : Chk ck S ∧ ∀ m o, ck = some (m, o) → m ≠ n)
    (he : ∀ x ∈ xs, ∀ (T : Sto) (Q' : D → Sto → Prop), Q' (g x) T → wE e (γ.set i (some x)) T Q') (hl : acc.length + xs.length ≤ 1000000) (q : Q (S.set n (.lst (acc ++ xs.map g)))) : wK ck (.one i) yesC e γ n xs S Q := by
  have hc : ∀ acc', Chk ck (S.set n (.lst acc')) := fun acc' => by
    obtain ⟨h1, h2⟩ := hck
    cases ck with
    | none => trivial
    | some c => obtain ⟨m, o⟩ := c; exact lk_ne (h2 m o rfl) h1
  refine k_inv (fun rest T => ∃ acc', T = S.set n (.lst acc') ∧ acc' ++ rest.map g = acc ++ xs.map g ∧ (∀ x ∈ rest, x ∈ xs) ∧ acc'.length + rest.length ≤ 1000000) ?_ ?_ _ _ ?_
  · rintro x rest T ⟨acc', rfl, h1, h2, h3⟩
    refine ⟨hc acc', _, rfl, ?_⟩
    sizeOf_list_dec
    refine iff_t ?_
    refine he x (h2 x (by simp)) _ _ ?_
    refine ⟨acc', lk_set hn, by simp only [sizeLine]; simp at h3; omega, acc' ++ [g x], by rw [List.set_set], by rw [← h1]; simp, fun y hy => h2 y (by simp [hy]), by simp at h3 ⊢; omega⟩
  · rintro T ⟨acc', rfl, h1, _, _⟩
    refine ⟨hc acc', ?_⟩
    rw [← h1] at q
    simpa using q
  · refine ⟨acc, ?_, rfl, fun _ h => h, hl⟩
    obtain ⟨hl, e⟩ := List.getElem?_eq_some_iff.mp hn
    rw [← e, List.set_getElem_self]
/-- a list told by a map that reads the store -/
theorem comp_mapT {ck : Option (Nat × O)} {i n : Nat} {e : EvM} {γ : Sl} {S : Sto} {g : D → D} {acc xs : List D} {Q : Sto → Prop} (hn : S[n]? = some (.lst acc)) (hck : Chk ck S ∧ ∀ m o, ck = some (m, o) → m ≠ n)
    (he : ∀ x ∈ xs, ∀ (acc' : List D) (Q' : D → Sto → Prop), Q' (g x) (S.set n (.lst acc')) → wE e (γ.set i (some x)) (S.set n (.lst acc')) Q') (hl : acc.length + xs.length ≤ 1000000) (q : Q (S.set n (.lst (acc ++ xs.map g)))) : wK ck (.one i) yesC e γ n xs S Q := by
  have hc : ∀ acc', Chk ck (S.set n (.lst acc')) := fun acc' => by
    obtain ⟨h1, h2⟩ := hck
    cases ck with
    | none => trivial
    | some c => obtain ⟨m, o⟩ := c; exact lk_ne (h2 m o rfl) h1
  refine k_inv (fun rest T => ∃ acc', T = S.set n (.lst acc') ∧ acc' ++ rest.map g = acc ++ xs.map g ∧ (∀ x ∈ rest, x ∈ xs) ∧ acc'.length + rest.length ≤ 1000000) ?_ ?_ _ _ ?_
  · rintro x rest T ⟨acc', rfl, h1, h2, h3⟩
    refine ⟨hc acc', _, rfl, ?_⟩
    sizeOf_list_dec
    refine iff_t ?_
    refine he x (h2 x (by simp)) _ _ ?_
    refine ⟨acc', lk_set hn, by simp only [sizeLine]; simp at h3; omega, acc' ++ [g x], by rw [List.set_set], by rw [← h1]; simp, fun y hy => h2 y (by simp [hy]), by simp at h3 ⊢; omega⟩
  · rintro T ⟨acc', rfl, h1, _, _⟩
    refine ⟨hc acc', ?_⟩
    rw [← h1] at q
    simpa using q
  · refine ⟨acc, ?_, rfl, fun _ h => h, hl⟩
    obtain ⟨hl, e⟩ := List.getElem?_eq_some_iff.mp hn
    rw [← e, List.set_getElem_self]
/-- .. whose test reads the store -/
theorem k_filterT {p : D → Bool} {P : D → Prop} {i n : Nat} {tt : CvM} {e : EvM} {γ : Sl} {T : Sto} {ck} {Q : Sto → Prop} {xs : List D} (hn : T[n]? = some (.lst [])) (hl : xs.length ≤ 1000000)
    (hP : ∀ x ∈ xs, P x) (hck : ∀ T' : Sto, Kp (T.set n (.lst [])) (T'.set n (.lst [])) → Chk ck T')
    (ht : ∀ (x : D) (T' : Sto) (Q' : Bool → Sto → Prop), P x → (∀ (j : Nat) (o : O), j ≠ n → T[j]? = some o → T'[j]? = some o) → Q' (p x) T' → wC tt (γ.set i (some x)) T' Q')
    (he : ∀ (x : D) (T' : Sto) (Q' : D → Sto → Prop), P x → Q' x T' → wE e (γ.set i (some x)) T' Q')
    (q : ∀ T' : Sto, (∀ (j : Nat) (o : O), j ≠ n → T[j]? = some o → T'[j]? = some o) → T'[n]? = some (.lst (xs.filter p)) → Q T') : wK ck (.one i) tt e γ n xs T Q := by
  have ext : ∀ T' : Sto, (∀ (j : Nat) (o : O), j ≠ n → T[j]? = some o → T'[j]? = some o) → n < T'.length → Kp (T.set n (.lst [])) (T'.set n (.lst [])) := by
    intro T' h hl j o hj
    by_cases e : j = n
    · subst e
      rw [List.getElem?_set_self (lt_of hn)] at hj
      rw [List.getElem?_set_self hl]; exact hj
    · rw [List.getElem?_set_ne (Ne.symm e)] at hj ⊢
      exact h j o e hj
  refine k_inv (fun rest T' => ∃ acc, (∀ x ∈ rest, P x) ∧ (∀ (j : Nat) (o : O), j ≠ n → T[j]? = some o → T'[j]? = some o) ∧ T'[n]? = some (.lst acc) ∧ acc ++ rest.filter p = xs.filter p ∧ acc.length + rest.length ≤ 1000000) ?_ ?_ _ _ ?_
  · rintro x r T' ⟨acc, hr, h1, h2, h3, h4⟩
    refine ⟨hck T' (ext T' h1 (lt_of h2)), _, rfl, ?_⟩
    refine ht x T' _ (hr x (by simp)) h1 ?_
    have hr' : ∀ y ∈ r, P y := fun y hy => hr y (by simp [hy])
    simp only [List.length_cons] at h4
    refine iff_b (fun hp => ?_) (fun hp => ?_)
    · refine he x T' _ (hr x (by simp)) ?_
      refine ⟨acc, h2, by simp only [sizeLine]; omega, acc ++ [x], hr', fun j o hj e => ?_, lk_set h2, ?_, by simp; omega⟩
      · rw [List.getElem?_set_ne (Ne.symm hj)]; exact h1 j o hj e
      · rw [← h3, List.filter_cons, if_pos hp]; simp
    · refine ⟨acc, hr', h1, h2, ?_, by omega⟩
      rw [← h3, List.filter_cons, if_neg (by simp [hp])]
  · rintro T' ⟨acc, hr, h1, h2, h3, h4⟩
    refine ⟨hck T' (ext T' h1 (lt_of h2)), q T' h1 ?_⟩
    rw [h2]; simp at h3; rw [h3]
  · exact ⟨[], hP, fun _ _ _ h => h, hn, by simp, by simpa using hl⟩
theorem nat_of {r : Int} (h0 : 0 ≤ r) : ∃ i : Nat, r = (i : Int) := Int.eq_ofNat_of_zero_le h0
theorem v_rev {γ : Sl} {S : Sto} {ea : EvM} {Q : D → Sto → Prop} (h : wE ea γ S fun d S1 => isRef d fun n => ∃ xs, S1[n]? = some (.lst xs) ∧ Q (.ref S1.length) (S1 ++ [.lst xs.reverse])) : wE (revM ea) γ S Q := by
  obtain ⟨d, S1, e1, n, rfl, xs, e2, q⟩ := h
  exact ⟨_, _, by unfold revM; simp only [e1, e2], q⟩
variable {k p : Nat} {S : Sto} {Q : D → Sto → Prop}
theorem pick_ok {m : Int} (hm : 0 < m) (hp : Dk p S) (q : ∀ r S', 0 ≤ r → r < m → Ks [p] S S' → Dk p S' → Q (.int r) S') : w1 (den (k + 1) ._law_pick) [.ref p, .int m] S Q := by
  obtain ⟨ns, hp⟩ := hp
  refine w_body ?_
  unfold b__law_pick
  sizeOf_list_dec
  rcases List.eq_nil_or_concat ns with h | ⟨xs, y, h⟩
  · subst h
    refine iff_t ?_
    sizeOf_list_dec
    exact q 0 S (Int.le_refl _) hm .refl ⟨[], hp⟩
  · subst h
    rw [List.concat_eq_append] at *
    have e : ((((xs ++ [y]).map D.int).length : Nat) : Int) ≠ 0 := by simp; omega
    rw [show ((((xs ++ [y]).map D.int).length : Int) == 0) = false by simpa using e]
    refine iff_f ?_
    have hp' : S[p]? = some (.lst (xs.map D.int ++ [.int y])) := by rw [hp, List.map_append]; rfl
    sizeOf_list_dec
    refine ⟨ty_lst hp, ?_⟩
    sizeOf_list_dec
    refine m_pop hp' ?_
    sizeOf_list_dec
    refine o_mod hm ?_
    sizeOf_list_dec
    exact q _ _ (Int.emod_nonneg _ (by omega)) (Int.emod_lt_of_pos _ hm) (Ks.refl.set (.inl (by simp))) ⟨xs, lk_set hp'⟩
theorem deal_ok {ns : List Int} (hns : ns.length ≤ 63) (q : ∀ r S', Kp S S' → Dk r S' → S[r]? = none → Q (.ref r) S') : w1 (den (k + 1) ._law_deal) [.rl (ns.map D.int)] S Q := by
  refine w_body ?_
  unfold b__law_deal
  sizeOf_list_dec
  rw [List.length_map]
  refine o_mul (mul_l ⟨by decide, by decide⟩) ?_
  sizeOf_list_dec
  refine i_rl ?_
  sizeOf_list_dec
  refine ⟨_, rfl, ?_⟩
  refine for_inv (fun rest γ T => ∃ (row : List D) (mix : Int) (a b c : Option D), isI rest ∧ rest.length ≤ 63 ∧ γ = [some (.rl (ns.map D.int)), some (.int mix), some (.ref S.length), a, b, c] ∧ T[S.length]? = some (.lst row) ∧ isI row ∧ row.length + 60 * rest.length ≤ 60 * 63 ∧ Kp S T) ?_ ?_ _ _ _ ?_
  · rintro x rest γ T ⟨row, mix, a, b, c, hr, hrl, rfl, ht, hrow, hlen, hk⟩
    refine ⟨trivial, ?_⟩
    obtain ⟨w, rfl⟩ := hr x (by simp)
    have hr' : isI rest := fun y hy => hr y (by simp [hy])
    simp only [List.length_cons] at hlen hrl
    have step : ∀ left : Int, wS (ifS (tstM (binM geF (varM 4) (binM powF (conM (.int 10)) (conM (.int 18))))) (forM (rng1I (consA (conM (.int 58)) (nilA))) (nameG 5) (seqM (ifS (tstM (binM eqF (varM 4) (conM (.int 0)))) (bkM) (nxM)) (seqM (exM (metM "list" appendF (varM 2) (consA (binM modF (appM intF (consA (varM 4) (nilA))) (conM (.int 27720))) (nilA)))) (asgM (binM fdivF (varM 4) (conM (.int 27720))) (nameG 4))))) (seqM (asgM (binM modF (appM intF (consA (binM addF (binM addF (binM mulF (varM 1) (conM (.int 48271))) (binM mulF (varM 4) (conM (.int 16807)))) (conM (.int 23))) (nilA))) (conM (.int 2147483647))) (nameG 1)) (exM (metM "list" appendF (varM 2) (consA (binM fdivF (binM modF (appM intF (consA (binM addF (binM mulF (varM 1) (conM (.int 40014))) (varM 4)) (nilA))) (conM (.int 2147483563))) (conM (.int 17))) (nilA))))))
        [some (.rl (ns.map D.int)), some (.int mix), some (.ref S.length), some (.int w), some (.int left), c] T (turnQ (fun γ T => ∃ (row : List D) (mix : Int) (a b c : Option D), isI rest ∧ rest.length ≤ 63 ∧ γ = [some (.rl (ns.map D.int)), some (.int mix), some (.ref S.length), a, b, c] ∧ T[S.length]? = some (.lst row) ∧ isI row ∧ row.length + 60 * rest.length ≤ 60 * 63 ∧ Kp S T) (thenQ (seqM (forM (rng1I (consA (conM (.int 260)) (nilA))) (nameG 5) (ifS (tstM (binM ltF (appM lenF (consA (varM 2) (nilA))) (conM (.int 260)))) (seqM (asgM (binM modF (appM intF (consA (binM addF (binM addF (binM mulF (varM 1) (conM (.int 69621))) (varM 5)) (conM (.int 5))) (nilA))) (conM (.int 2147483647))) (nameG 1)) (exM (metM "list" appendF (varM 2) (consA (binM fdivF (varM 1) (conM (.int 19))) (nilA))))) (nxM))) (rtM (revM (varM 2)))) (retQ Q))) := by
      intro left
      sizeOf_list_dec
      refine iff_d (fun _ => ?_) (fun _ => ?_)
      · sizeOf_list_dec
        refine ⟨⟨by omega, by omega⟩, ?_⟩
        refine for_inv (fun rest2 γ T => ∃ (row : List D) (left : Int) (e : Option D), isI rest2 ∧ γ = [some (.rl (ns.map D.int)), some (.int mix), some (.ref S.length), some (.int w), some (.int left), e] ∧ T[S.length]? = some (.lst row) ∧ isI row ∧ row.length + rest2.length + 60 * rest.length ≤ 60 * 63 ∧ Kp S T) ?_ ?_ _ _ _ ?_
        · rintro x rest2 γ T ⟨row, left, e, hr2, rfl, ht, hrow, hlen, hk⟩
          refine ⟨trivial, ?_⟩
          obtain ⟨tn, rfl⟩ := hr2 x (by simp)
          have hr2' : isI rest2 := fun y hy => hr2 y (by simp [hy])
          (simp only [List.length_cons] at hlen)
          sizeOf_list_dec
          refine iff_b (fun _ => ?_) (fun _ => ?_)
          · sizeOf_list_dec
            exact ⟨row, _, _, _, _, hr', by omega, rfl, ht, hrow, by omega, hk⟩
          · sizeOf_list_dec
            refine ⟨ty_lst ht, ?_⟩
            sizeOf_list_dec
            refine o_mod (by decide) ?_
            sizeOf_list_dec
            refine m_append ht (by simp only [sizeLine]; omega) ?_
            sizeOf_list_dec
            refine o_div (by decide +kernel) ?_
            sizeOf_list_dec
            exact ⟨_, _, _, hr2', rfl, lk_set ht, isI_snoc hrow _, by simp; omega, hk.set (by simp)⟩
        · rintro γ T ⟨row, left, e, hr2, rfl, ht, hrow, hlen, hk⟩
          refine ⟨trivial, ?_⟩
          exact .nx ⟨row, _, _, _, _, hr', by omega, rfl, ht, hrow, by simpa using hlen, hk⟩
        · refine ⟨row, left, _, isI_rng _ _, rfl, ht, hrow, ?_, hk⟩
          rw [rng_len]; simp; omega
      · sizeOf_list_dec
        refine o_mul (mul_r ⟨by decide, by decide⟩) ?_
        sizeOf_list_dec
        refine o_mul (mul_r ⟨by decide, by decide⟩) ?_
        sizeOf_list_dec
        refine o_mod (by decide) ?_
        sizeOf_list_dec
        refine ⟨ty_lst ht, ?_⟩
        sizeOf_list_dec
        refine o_mul (mul_r ⟨by decide, by decide⟩) ?_
        sizeOf_list_dec
        refine o_mod (by decide) ?_
        sizeOf_list_dec
        refine o_div (by decide +kernel) ?_
        sizeOf_list_dec
        refine m_append ht (by simp only [sizeLine]; omega) ?_
        sizeOf_list_dec
        exact ⟨_, _, _, _, _, hr', by omega, rfl, lk_set ht, isI_snoc hrow _, by simp; omega, hk.set (by simp)⟩
    sizeOf_list_dec
    refine iff_d (fun _ => ?_) (fun _ => ?_)
    · sizeOf_list_dec
      refine o_mul (mul_l ⟨by decide, by decide⟩) ?_
      refine o_sub ?_
      refine g_name ?_
      refine th_nx ?_
      exact step _
    · refine s_nx ?_
      refine th_nx ?_
      exact step _
  · rintro γ T ⟨row, mix, a, b, c, hr, hrl, rfl, ht, hrow, hlen, hk⟩
    refine ⟨trivial, ?_⟩
    sizeOf_list_dec
    refine ⟨⟨by omega, by omega⟩, ?_⟩
    refine for_inv (fun rest2 γ T => ∃ (row : List D) (mix : Int) (e : Option D), isI rest2 ∧ γ = [some (.rl (ns.map D.int)), some (.int mix), some (.ref S.length), a, b, e] ∧ T[S.length]? = some (.lst row) ∧ isI row ∧ row.length + rest2.length ≤ 60 * 63 + 260 ∧ Kp S T) ?_ ?_ _ _ _ ?_
    · rintro x rest2 γ T ⟨row, mix, e, hr2, rfl, ht, hrow, hlen, hk⟩
      refine ⟨trivial, ?_⟩
      obtain ⟨tn, rfl⟩ := hr2 x (by simp)
      have hr2' : isI rest2 := fun y hy => hr2 y (by simp [hy])
      (simp only [List.length_cons] at hlen)
      sizeOf_list_dec
      refine iff_d (fun _ => ?_) (fun _ => ?_)
      · sizeOf_list_dec
        refine o_mul (mul_r ⟨by decide, by decide⟩) ?_
        sizeOf_list_dec
        refine o_mod (by decide) ?_
        sizeOf_list_dec
        refine ⟨ty_lst ht, ?_⟩
        sizeOf_list_dec
        refine o_div (by decide +kernel) ?_
        sizeOf_list_dec
        refine m_append ht (by simp only [sizeLine]; omega) ?_
        sizeOf_list_dec
        exact ⟨_, _, _, hr2', rfl, lk_set ht, isI_snoc hrow _, by simp; omega, hk.set (by simp)⟩
      · sizeOf_list_dec
        exact ⟨_, _, _, hr2', rfl, ht, hrow, by omega, hk⟩
    · rintro γ T ⟨row, mix, e, hr2, rfl, ht, hrow, hlen, hk⟩
      refine ⟨trivial, ?_⟩
      sizeOf_list_dec
      obtain ⟨ms, rfl⟩ := isI_ints hrow
      refine ⟨_, ht, ?_⟩
      sizeOf_list_dec
      refine q _ _ hk.app ⟨ms.reverse, ?_⟩ (by have := hk.len; simp; omega)
      rw [lk_new, List.map_reverse]
    · refine ⟨row, mix, _, isI_rng _ _, rfl, ht, hrow, ?_, hk⟩
      rw [rng_len]; simp; omega
  · refine ⟨[], _, none, none, none, fun x hx => ?_, by simpa using hns, rfl, lk_new, by simp [isI], by simp; omega, Kp.refl.app⟩
    obtain ⟨i, _, rfl⟩ := List.mem_map.mp hx
    exact ⟨i, rfl⟩
end
section
set_option maxHeartbeats 1000000 -- wide
theorem strOk_lit (s : String) : PyData.strOk (Str.ofString s) = true := by
  unfold PyData.strOk
  rw [← Array.all_toList, PyProof.Rows.signs_ofString, List.all_map, List.all_eq_true]
  intro c _
  have := c.valid
  simp only [Function.comp_apply, decide_eq_true_eq]
  simp only [UInt32.isValidChar, Nat.isValidChar] at this
  show c.val.toNat < _
  omega
theorem strOk_cut {z : Str} (h : PyData.strOk z = true) (lo hi : Option Int) : PyData.strOk (cutS z lo hi) = true := by
  unfold PyData.strOk at *
  rw [Array.all_eq_true'] at *
  intro x hx
  unfold cutS at hx
  simp only [List.mem_toArray] at hx
  exact h x (by simpa using List.mem_of_mem_drop (List.mem_of_mem_take hx))
theorem sl_s {z : Str} {lo hi : Option Int} {S : Sto} {Q : D → Sto → Prop} (h : z.length ≤ sizeLine) (q : Q (.str (cutS z lo hi)) S) : slQ (.str z) lo hi S Q := ⟨_, _, by unfold slF; simp only [if_pos h], q⟩
theorem s_cut {γ : Sl} {S : Sto} {s t : SvM} {Q : Fl → Sl → Sto → Prop} (I : Sl → Sto → Prop) (h : wS s γ S (fun f γ' S' => f = .nx ∧ I γ' S')) (k : ∀ γ' S', I γ' S' → wS t γ' S' Q) : wS (seqM s t) γ S Q :=
  s_seq (h.mono fun f γ' S' z => by obtain ⟨rfl, i⟩ := z; exact .nx (k _ _ i))
variable {k p : Nat} {S : Sto} {Q : D → Sto → Prop}
theorem rank_ok {w : Nat} (hp : Dk p S) (q : ∀ d S', Rk w d → Ks [p] S S' → Dk p S' → Q d S') : w1 (den (k + 2) ._law_rank) [.ref p, .int w] S Q := by
  refine w_body ?_
  unfold b__law_rank
  sizeOf_list_dec
  refine pick_ok (by decide) hp ?_
  intro n S1 n0 n1 k1 hp1
  obtain ⟨n, rfl⟩ := nat_of n0
  sizeOf_list_dec
  refine iff_b (fun _ => ?_) (fun _ => ?_)
  · sizeOf_list_dec
    exact q _ _ .non k1 hp1
  · sizeOf_list_dec
    refine iff_b (fun hw => ?_) (fun hw => ?_)
    · sizeOf_list_dec
      refine o_mod (by decide) ?_
      sizeOf_list_dec
      refine o_mod (by decide) ?_
      sizeOf_list_dec
      refine o_div (by decide +kernel) ?_
      sizeOf_list_dec
      refine sl_s (by decide +kernel) ?_
      sizeOf_list_dec
      exact q _ _ (.str (by simp at hw; omega) (strOk_cut (strOk_lit _) _ _)) k1 hp1
    · have hw1 : w ≠ 1 := by
        intro e; subst e; simp at hw
      sizeOf_list_dec
      refine iff_b (fun _ => ?_) (fun _ => ?_)
      · sizeOf_list_dec
        refine o_mul (mul_l ⟨by omega, by omega⟩) ?_
        sizeOf_list_dec
        refine pick_ok (by decide) hp1 ?_
        intro n2 S2 _ _ k2 hp2
        sizeOf_list_dec
        exact q _ _ (.int hw1) (k1.trans k2) hp2
      · sizeOf_list_dec
        refine iff_b (fun _ => ?_) (fun _ => ?_)
        · sizeOf_list_dec
          refine o_mul (mul_r ⟨by decide, by decide⟩) ?_
          sizeOf_list_dec
          refine pick_ok (by decide) hp1 ?_
          intro n2 S2 _ _ k2 hp2
          sizeOf_list_dec
          exact q _ _ (.int hw1) (k1.trans k2) hp2
        · sizeOf_list_dec
          refine o_mod (by decide) ?_
          sizeOf_list_dec
          exact q _ _ (.int hw1) k1 hp1
/-- a thing in a list of rows -/
inductive Th (S : Sto) : D → Prop
  | non : Th S .non
  | tr : Th S (.bl true)
  | int (i : Int) : Th S (.int i)
  | str (z : Str) : Th S (.str z)
  | lst {r : Nat} {i : Int} {z : Str} (h : S[r]? = some (.lst [.int i, .str z])) : Th S (.ref r)
  | tup (i n : Int) : Th S (.tup [.int i, .non, .int n])
theorem Th.kp {S' : Sto} {d : D} (h : Th S d) (k : Kp S S') : Th S' d := by
  cases h with
  | non => exact .non
  | tr => exact .tr
  | int i => exact .int i
  | str z => exact .str z
  | lst h => exact .lst (k _ _ h)
  | tup i n => exact .tup i n
/-- no thing is a deck -/
theorem Th.ks {S' : Sto} {d : D} (h : Th S d) (hp : Dk p S) (k : Ks [p] S S') : Th S' d := by
  cases h with
  | non => exact .non
  | tr => exact .tr
  | int i => exact .int i
  | str z => exact .str z
  | tup i n => exact .tup i n
  | @lst r i z h =>
    refine .lst (k.at_ _ _ (fun m => ?_) h)
    simp at m; subst m
    obtain ⟨ns, e⟩ := hp
    rw [h] at e
    have e := O.lst.inj (Option.some.inj e)
    rcases ns with _ | ⟨a, _ | ⟨b, ns⟩⟩ <;> simp at e
theorem Th.put {n : Nat} {u : O} {d : D} (h : Th S d) (hn : d ≠ .ref n) : Th (S.set n u) d := by
  cases h with
  | non => exact .non
  | tr => exact .tr
  | int i => exact .int i
  | str z => exact .str z
  | tup i n => exact .tup i n
  | lst h => exact .lst (lk_ne (fun z => hn (by rw [z])) h)
theorem thing_ok2 {i : Int} (hp : Dk p S) (q : ∀ d S', Th S' d → (∀ n, n < S.length → d ≠ .ref n) → Ks [p] S S' → Dk p S' → Q d S') : w1 (den (k + 2) ._law_thing) [.ref p, .int i] S Q := by
  refine w_body ?_
  unfold b__law_thing
  sizeOf_list_dec
  refine pick_ok (by decide) hp ?_
  intro n S1 n0 n1 k1 hp1
  sizeOf_list_dec
  refine iff_b (fun _ => ?_) (fun _ => ?_)
  · sizeOf_list_dec
    exact q _ _ .non (fun n _ e => by cases e) k1 hp1
  sizeOf_list_dec
  refine iff_b (fun _ => ?_) (fun _ => ?_)
  · sizeOf_list_dec
    exact q _ _ .tr (fun n _ e => by cases e) k1 hp1
  sizeOf_list_dec
  refine iff_b (fun _ => ?_) (fun _ => ?_)
  · sizeOf_list_dec
    exact q _ _ (.int _) (fun n _ e => by cases e) k1 hp1
  sizeOf_list_dec
  refine iff_b (fun _ => ?_) (fun _ => ?_)
  · sizeOf_list_dec
    exact q _ _ (.str _) (fun n _ e => by cases e) k1 hp1
  sizeOf_list_dec
  refine iff_b (fun _ => ?_) (fun _ => ?_)
  · sizeOf_list_dec
    exact q _ _ (.lst lk_new) (fun n h e => by have := k1.len; cases e; omega) k1.app hp1.app
  sizeOf_list_dec
  refine iff_d (fun _ => ?_) (fun _ => ?_)
  · sizeOf_list_dec
    exact q _ _ (.tup _ _) (fun n _ e => by cases e) k1 hp1
  · sizeOf_list_dec
    exact q _ _ (.int _) (fun n _ e => by cases e) k1 hp1
end
section
set_option maxHeartbeats 1000000 -- wide
variable {k p : Nat} {S : Sto} {Q : D → Sto → Prop}
def natD (n : Nat) : D := .int n
theorem Rws.sorted {ws : List Nat} {l : List D} {b : Bool} (h : Rws ws l) : Rws ws (l.mergeSort (PySem.W.dataLe b encD)) := fun x hx => h x ((List.mem_mergeSort).mp hx)
theorem Rws.app {ws : List Nat} {l m : List D} (h : Rws ws l) (g : Rws ws m) : Rws ws (l ++ m) := fun x hx => by
  rcases memA hx with z | z
  · exact h x z
  · exact g x z
theorem Rws.sub {ws : List Nat} {l m : List D} (h : Rws ws l) (g : ∀ x ∈ m, x ∈ l) : Rws ws m := fun x hx => h x (g x hx)
theorem mem_cut {l : List D} {lo hi : Option Int} {x : D} (h : x ∈ cutX l lo hi) : x ∈ l := by
  unfold cutX at h
  exact List.mem_of_mem_drop (List.mem_of_mem_take h)
theorem cut_two (l : List D) (h : Nat) (hh : h ≤ l.length) : cutX l (some (h : Int)) none = l.drop h ∧ cutX l none (some (h : Int)) = l.take h := by
  have e : l = l.take h ++ l.drop h := (List.take_append_drop h l).symm
  have e2 : (l.take h).length = h := by simp; omega
  constructor
  · have := cut_post (l.take h) (l.drop h)
    rw [e2, ← e] at this; exact this
  · have := cut_pre (l.take h) (l.drop h)
    rw [e2, ← e] at this; exact this
/-- ranks as they stand -/
structure RkL (T : Sto) (b : Nat) (ws : List Nat) (n : Nat) : Prop where
  ex : ∃ l, T[b]? = some (.lst l) ∧ Rws ws l ∧ l.length = n
theorem scene_ok (hp : Dk p S) (hQ : ∀ a b S' rows ranks ws, S'[a]? = some (.lst rows) → S'[b]? = some (.lst ranks) → rows.length = ranks.length → rows.length ≤ 60 → (∀ x ∈ rows, Th S' x) → Rws ws ranks → ws.length ≤ 10 → a ≠ p → b ≠ p → Ks [p] S S' → Dk p S' → Q (.tup [.ref a, .ref b]) S') : w1 (den (k + 3) ._law_scene) [.ref p] S Q := by
  refine w_body ?_
  unfold b__law_scene
  sizeOf_list_dec
  refine pick_ok (by decide) hp ?_
  intro a1 S1 a10 a11 k1 hp1
  obtain ⟨a1, rfl⟩ := nat_of a10
  sizeOf_list_dec
  refine o_div (by decide +kernel) ?_
  sizeOf_list_dec
  refine pick_ok (by decide) hp1 ?_
  intro a2 S2 a20 a21 k2 hp2
  obtain ⟨a2, rfl⟩ := nat_of a20
  sizeOf_list_dec
  refine o_div (by decide +kernel) ?_
  sizeOf_list_dec
  obtain ⟨wd, ewd, wd1, wd2⟩ : ∃ wd : Nat, (1 : Int) + (a1 : Int) / 3 + (a2 : Int) / 3 = (wd : Int) ∧ 0 < wd ∧ wd ≤ 3 := ⟨1 + a1 / 3 + a2 / 3, by omega, by omega, by omega⟩
  rw [ewd]
  refine ⟨⟨by omega, by omega⟩, ?_⟩
  rw [Int.toNat_natCast]
  have lp2 := hp2.lt
  refine comp_rng (fun j acc T => Ks [p] S T ∧ Dk p T ∧ S2.length < T.length ∧ ∃ ws : List Nat, acc = ws.map natD ∧ ws.length = j) ?_ ?_ (by omega) lk_new ⟨(k1.trans k2).app, hp2.app, by simp, [], rfl, rfl⟩
  · rintro j acc T hj ha hT ⟨kT, hpT, lT, ws, rfl, hl⟩
    sizeOf_list_dec
    refine pick_ok (by decide) hpT ?_
    intro r T1 r0 r1 k3 hp3
    obtain ⟨r, rfl⟩ := nat_of r0
    have := k3.len
    refine ⟨k3.at_ _ _ (by simp; omega) hT, ?_⟩
    refine ⟨((kT.trans k3).more (fs := [S2.length, p]) (by simp)).set (.inl (by simp)) |>.drop (by have := (k1.trans k2).len; omega), hp3.set (by omega), by simp; omega, ws ++ [r], by simp [natD], by simp [hl]⟩
  rintro acc T ha hT ⟨kT, hpT, lT, ws, rfl, hl⟩
  have hws : 0 < ws.length := by omega
  sizeOf_list_dec
  refine pick_ok (by decide) hpT ?_
  intro many T1 m0 m1 k3 hp3
  have hT1 := k3.at_ _ _ (by simp; omega) hT
  refine g_name ?_
  refine th_nx ?_
  refine s_cut (fun γ T' => ∃ many : Int, γ = [some (.ref p), some (.int wd), some (.ref S2.length), some (.int many), none, none, none, none, none, none, none] ∧ 0 ≤ many ∧ many ≤ 60 ∧ Ks [p] S T' ∧ Dk p T' ∧ T'[S2.length]? = some (.lst (ws.map natD))) ?_ ?_
  · sizeOf_list_dec
    refine pick_ok (by decide) hp3 ?_
    intro c T2 c0 c1 k4 hp4
    sizeOf_list_dec
    refine iff_d (fun _ => ?_) (fun _ => ?_)
    · sizeOf_list_dec
      refine pick_ok (by decide) hp4 ?_
      intro m T3 m0 m1 k5 hp5
      sizeOf_list_dec
      exact ⟨rfl, _, rfl, m0, by omega, ((kT.trans k3).trans k4).trans k5, hp5, k5.at_ _ _ (by simp; omega) (k4.at_ _ _ (by simp; omega) hT1)⟩
    · sizeOf_list_dec
      exact ⟨rfl, _, rfl, m0, by omega, ((kT.trans k3).trans k4), hp4, (k4.at_ _ _ (by simp; omega) hT1)⟩
  clear hT1 hp3 k3 m0 m1 many T1
  rintro γ T1 ⟨many, rfl, m0, m1, kT1, hp1', hW⟩
  refine s_cut (fun γ T' => ∃ many : Nat, γ = [some (.ref p), some (.int wd), some (.ref S2.length), some (.int many), none, none, none, none, none, none, none] ∧ many ≤ 60 ∧ Ks [p] S T' ∧ Dk p T' ∧ T'[S2.length]? = some (.lst (ws.map natD))) ?_ ?_
  · obtain ⟨many, rfl⟩ := nat_of m0
    sizeOf_list_dec
    refine iff_d (fun _ => ?_) (fun _ => ?_)
    · sizeOf_list_dec
      by_cases h : (24 : Int) < many
      · rw [if_pos h]
        exact ⟨rfl, 24, rfl, by omega, kT1, hp1', hW⟩
      · rw [if_neg h]
        exact ⟨rfl, many, rfl, by omega, kT1, hp1', hW⟩
    · sizeOf_list_dec
      exact ⟨rfl, many, rfl, by omega, kT1, hp1', hW⟩
  clear kT1 hp1' hW m0 m1 many T1
  rintro γ T1 ⟨many, rfl, m1, kT1, hp1', hW⟩
  have lW := lt_of hW
  have lSp : S.length ≤ T1.length := kT1.len
  sizeOf_list_dec
  refine ⟨⟨by omega, by omega⟩, ?_⟩
  rw [Int.toNat_natCast]
  refine for_rng (fun j γ T => ∃ x5 : Option D, γ = [some (.ref p), some (.int wd), some (.ref S2.length), some (.int many), some (.ref T1.length), x5, none, none, none, none, none] ∧ Ks [p] S T ∧ Dk p T ∧ T[S2.length]? = some (.lst (ws.map natD)) ∧ RkL T T1.length ws j) ?_ ?_ ⟨_, rfl, kT1.app, hp1'.app, lk_app hW, [], lk_new, (fun x hx => by cases hx), rfl⟩
  · rintro j γ T2 hj ⟨x5, rfl, kT2, hp2', hW2, l, hl2, hR, hlen⟩
    have lT2 := lt_of hl2
    have lp := hp2'.lt
    sizeOf_list_dec
    refine ⟨ty_lst hl2, ?_⟩
    sizeOf_list_dec
    refine comp_seq (fun i acc T => Ks [p] S T ∧ Dk p T ∧ T[S2.length]? = some (.lst (ws.map natD)) ∧ T[T1.length]? = some (.lst l) ∧ T2.length < T.length ∧ ∀ (i : Nat) (w : Nat) (e : D), ws[i]? = some w → acc[i]? = some e → Rk w e) ?_ ?_ (by simp; omega) lk_new ⟨kT2.app, hp2'.app, lk_app hW2, lk_app hl2, by simp, by simp⟩
    · rintro i x acc T3 hx ha hT3 ⟨kT3, hp3, hW3, hl3, len3, hk3⟩
      refine ⟨hW3, _, rfl, ?_⟩
      obtain ⟨w, hw, rfl⟩ : ∃ w, ws[i]? = some w ∧ x = natD w := by
        rw [List.getElem?_map] at hx
        cases h : ws[i]? with
        | none => rw [h] at hx; cases hx
        | some w => rw [h] at hx; cases hx; exact ⟨w, rfl, rfl⟩
      sizeOf_list_dec
      refine rank_ok (k := k) hp3 ?_
      intro d T4 hd k4 hp4
      have e4 := k4.len
      refine ⟨k4.at_ _ _ (by simp; omega) hT3, ((kT3.trans k4).more (fs := [T2.length, p]) (by simp)).set (.inl (by simp)) |>.drop (by have := kT2.len; omega), hp4.set (by omega), lk_ne (by omega) (k4.at_ _ _ (by simp; omega) hW3), lk_ne (by omega) (k4.at_ _ _ (by simp; omega) hl3), by simp; omega, ?_⟩
      intro i' w' e' h1 h2
      by_cases h : i' < acc.length
      · rw [List.getElem?_append_left h] at h2
        exact hk3 i' w' e' h1 h2
      · have hi : i' = acc.length := by
          have := lt_of h2
          simp at this; omega
        subst hi
        rw [ha] at h1
        rw [hw] at h1
        cases h1
        simp at h2
        subst h2
        exact hd
    · rintro acc T3 ha hT3 ⟨kT3, hp3, hW3, hl3, len3, hk3⟩
      refine ⟨hW3, ?_⟩
      sizeOf_list_dec
      refine m_append hl3 (by simp only [sizeLine]; omega) ?_
      sizeOf_list_dec
      refine ⟨_, rfl, (kT3.more (fs := [T1.length, p]) (by simp)).set (.inl (by simp)) |>.drop lSp, hp3.set (by omega), lk_ne (by omega) hW3, _, lk_set hl3, ?_, by simp [hlen]⟩
      refine hR.app fun x hx => ?_
      simp at hx
      subst hx
      exact ⟨acc, rfl, by rw [ha]; simp, hws, hk3⟩
  rintro γ T2 ⟨x5, rfl, kT2, hp2', hW2, hRk⟩
  sizeOf_list_dec
  refine pick_ok (by decide) hp2' ?_
  intro form T3 _ _ k3 hp3
  refine g_name ?_
  refine th_nx ?_
  have hRk3 : RkL T3 T1.length ws many := by
    obtain ⟨l, h1, h2, h3⟩ := hRk
    exact ⟨l, k3.at_ _ _ (by simp; omega) h1, h2, h3⟩
  have kT3 := kT2.trans k3
  have ne1 : T1.length ≠ p := by have := hp1'.lt; omega
  have srt : ∀ (b0 : Bool) (b : Nat) (T : Sto) (l : List D), T[b]? = some (.lst l) → Rws ws l → l.length = many → RkL (T ++ [.lst (l.mergeSort (PySem.W.dataLe b0 encD))]) T.length ws many := fun b0 b T l h1 h2 h3 => ⟨_, lk_new, h2.sorted, by rw [List.length_mergeSort, h3]⟩
  have nep : ∀ {T : Sto}, Dk p T → T.length ≠ p := fun h => by have := h.lt; omega
  refine s_cut (fun γ T => ∃ (b : Nat) (x7 : Option D), γ = [some (.ref p), some (.int wd), some (.ref S2.length), some (.int many), some (.ref b), x5, some (.int form), x7, none, none, none] ∧ Ks [p] S T ∧ Dk p T ∧ b ≠ p ∧ RkL T b ws many) ?_ ?_
  · obtain ⟨l, h1, h2, h3⟩ := hRk3
    sizeOf_list_dec
    refine iff_b (fun _ => ?_) (fun _ => ?_)
    · sizeOf_list_dec
      refine f_sorted h1 h2.sort ?_
      sizeOf_list_dec
      exact ⟨rfl, _, _, rfl, kT3.app, hp3.app, nep hp3, srt false _ _ l h1 h2 h3⟩
    · sizeOf_list_dec
      exact ⟨rfl, _, _, rfl, kT3, hp3, ne1, l, h1, h2, h3⟩
  clear hRk3 kT3 hp3 k3 T3
  rintro γ T3 ⟨b, x7, rfl, kT3, hp3, nb, l, h1, h2, h3⟩
  refine s_cut (fun γ T => ∃ (b : Nat) (x7 : Option D), γ = [some (.ref p), some (.int wd), some (.ref S2.length), some (.int many), some (.ref b), x5, some (.int form), x7, none, none, none] ∧ Ks [p] S T ∧ Dk p T ∧ b ≠ p ∧ RkL T b ws many) ?_ ?_
  · sizeOf_list_dec
    refine iff_b (fun _ => ?_) (fun _ => ?_)
    · refine s_asg ?_
      refine v_sortR ?_
      sizeOf_list_dec
      refine ⟨rfl, ?_⟩
      refine f_sorted h1 h2.sort ?_
      sizeOf_list_dec
      exact ⟨rfl, _, _, rfl, kT3.app, hp3.app, nep hp3, srt true _ _ l h1 h2 h3⟩
    · sizeOf_list_dec
      exact ⟨rfl, _, _, rfl, kT3, hp3, nb, l, h1, h2, h3⟩
  clear h1 h2 h3 kT3 hp3 nb T3 l b x7
  rintro γ T3 ⟨b, x7, rfl, kT3, hp3, nb, l, h1, h2, h3⟩
  refine s_cut (fun γ T => ∃ (b : Nat) (x7 : Option D), γ = [some (.ref p), some (.int wd), some (.ref S2.length), some (.int many), some (.ref b), x5, some (.int form), x7, none, none, none] ∧ Ks [p] S T ∧ Dk p T ∧ b ≠ p ∧ RkL T b ws many) ?_ ?_
  · sizeOf_list_dec
    refine iff_b (fun _ => ?_) (fun _ => ?_)
    · sizeOf_list_dec
      refine iff_d (fun hm0 => ?_) (fun _ => ?_)
      · sizeOf_list_dec
        obtain ⟨x0, l0, rfl⟩ : ∃ x0 l0, l = x0 :: l0 := by
          cases l with
          | nil => simp at h3; omega
          | cons x l => exact ⟨x, l, rfl⟩
        have lb := lt_of h1
        refine comp_mapT (g := fun _ => x0) lk_new ⟨lk_app h1, fun m o e => by cases e; omega⟩ ?_ (by simp only [List.length_nil, Nat.zero_add]; omega) ?_
        · intro x hx acc' Q' hQ'
          sizeOf_list_dec
          refine o_ixL (lk_ne (by omega) (lk_app h1)) (at_zero _ _) ?_
          exact hQ'
        sizeOf_list_dec
        refine ⟨rfl, _, _, rfl, kT3.app.set (.inr (by have := kT3.len; omega)), (hp3.app).set (by have := hp3.lt; omega), nep hp3, _, lk_set lk_new, ?_, by simpa using h3⟩
        refine h2.sub fun x hx => ?_
        rw [List.nil_append] at hx
        obtain ⟨_, _, rfl⟩ := List.mem_map.mp hx
        simp
      · sizeOf_list_dec
        exact ⟨rfl, _, _, rfl, kT3, hp3, nb, l, h1, h2, h3⟩
    · sizeOf_list_dec
      refine iff_f ?_
      sizeOf_list_dec
      exact ⟨rfl, _, _, rfl, kT3, hp3, nb, l, h1, h2, h3⟩
  clear h1 h2 h3 kT3 hp3 nb T3 l b x7
  rintro γ T3 ⟨b, x7, rfl, kT3, hp3, nb, l, h1, h2, h3⟩
  refine s_cut (fun γ T => ∃ (b : Nat) (x7 : Option D), γ = [some (.ref p), some (.int wd), some (.ref S2.length), some (.int many), some (.ref b), x5, some (.int form), x7, none, none, none] ∧ Ks [p] S T ∧ Dk p T ∧ b ≠ p ∧ RkL T b ws many) ?_ ?_
  · sizeOf_list_dec
    refine iff_b (fun _ => ?_) (fun _ => ?_)
    · sizeOf_list_dec
      refine o_div (by decide +kernel) ?_
      sizeOf_list_dec
      obtain ⟨c1, c2⟩ := cut_two l (l.length / 2) (by omega)
      rw [show ((l.length : Int) / 2) = ((l.length / 2 : Nat) : Int) by omega]
      refine sl_l h1 ?_
      rw [c1]
      sizeOf_list_dec
      refine f_sorted lk_new (h2.sub (m := l.drop (l.length / 2)) fun x hx => List.mem_of_mem_drop hx).sort ?_
      sizeOf_list_dec
      refine sl_l (lk_app (lk_app h1)) ?_
      rw [c2]
      sizeOf_list_dec
      refine f_sorted lk_new (h2.sub (m := l.take (l.length / 2)) fun x hx => List.mem_of_mem_take hx).sort ?_
      sizeOf_list_dec
      refine o_addL (lk_app (lk_app lk_new)) lk_new (by simp only [List.length_mergeSort, List.length_drop, List.length_take, sizeLine]; omega) ?_
      sizeOf_list_dec
      refine ⟨rfl, _, _, rfl, kT3.app.app.app.app.app, hp3.app.app.app.app.app, ?_, _, lk_new, ?_, ?_⟩
      · have := hp3.lt; simp; omega
      · exact (h2.sub fun x hx => List.mem_of_mem_drop hx).sorted.app (h2.sub fun x hx => List.mem_of_mem_take hx).sorted
      · simp only [List.length_append, List.length_mergeSort, List.length_drop, List.length_take]; omega
    · sizeOf_list_dec
      exact ⟨rfl, _, _, rfl, kT3, hp3, nb, l, h1, h2, h3⟩
  clear h1 h2 h3 kT3 hp3 nb T3 l b x7
  rintro γ T3 ⟨b, x7, rfl, kT3, hp3, nb, l, h1, h2, h3⟩
  have lT3 := kT3.len
  have lb := lt_of h1
  sizeOf_list_dec
  refine ⟨⟨by omega, by omega⟩, ?_⟩
  rw [Int.toNat_natCast]
  refine comp_rng (fun j acc T => Ks [p] S T ∧ Dk p T ∧ T[b]? = some (.lst l) ∧ T3.length < T.length ∧ (∀ x ∈ acc, Th T x) ∧ ∀ x ∈ acc, x ≠ .ref T3.length) ?_ ?_ (by omega) lk_new ⟨kT3.app, hp3.app, lk_app h1, by simp, (by simp), (by simp)⟩
  · rintro j acc T4 hj ha hT ⟨kT4, hp4, hb4, len4, hth, hne⟩
    sizeOf_list_dec
    refine thing_ok2 (k := k) hp4 ?_
    intro d T5 hd hdn k5 hp5
    have := k5.len
    refine ⟨k5.at_ _ _ (by simp; have := hp3.lt; omega) hT, ((kT4.trans k5).more (fs := [T3.length, p]) (by simp)).set (.inl (by simp)) |>.drop lT3, hp5.set (by have := hp3.lt; omega), lk_ne (by omega) (k5.at_ _ _ (by simpa using nb) hb4), by simp; omega, ?_, ?_⟩
    · intro x hx
      have hx2 : Th T5 x ∧ x ≠ .ref T3.length := by
        rcases memA hx with hx | hx
        · exact ⟨(hth x hx).ks hp4 k5, hne x hx⟩
        · simp at hx
          subst hx
          exact ⟨hd, hdn _ (by omega)⟩
      exact hx2.1.put hx2.2
    · intro x hx
      rcases memA hx with hx | hx
      · exact hne x hx
      · simp at hx
        subst hx
        exact hdn _ (by omega)
  rintro acc T4 ha hT4 ⟨kT4, hp4, hb4, len4, hth, hne⟩
  have nr : T3.length ≠ p := nep hp3
  refine g_name ?_
  refine th_nx ?_
  refine s_cut (fun γ T => γ = [some (.ref p), some (.int wd), some (.ref S2.length), some (.int many), some (.ref b), x5, some (.int form), x7, some (.ref T3.length), none, none] ∧ Ks [p] S T ∧ Dk p T ∧ T[b]? = some (.lst l) ∧ ∃ rows, T[T3.length]? = some (.lst rows) ∧ rows.length = many ∧ ∀ x ∈ rows, Th T x) ?_ ?_
  · sizeOf_list_dec
    refine iff_d (fun hm3 => ?_) (fun _ => ?_)
    · sizeOf_list_dec
      refine iff_d (fun _ => ?_) (fun _ => ?_)
      · sizeOf_list_dec
        have hl1 : 1 < acc.length := by omega
        refine o_ixL hT4 (i := 1) (d := acc[1]) (at_rng (i := 1) (List.getElem?_eq_getElem hl1)) ?_
        sizeOf_list_dec
        obtain ⟨j, hj, hj2⟩ : ∃ j : Nat, (many : Int) - 1 = (j : Int) ∧ j < acc.length := ⟨many - 1, by omega, by omega⟩
        rw [hj]
        refine ⟨acc, hT4, j, by simp [ixN, hj2], ?_⟩
        refine ⟨rfl, rfl, (kT4.more (fs := [T3.length, p]) (by simp)).set (.inl (by simp)) |>.drop lT3, hp4.set (by omega), lk_ne (by omega) hb4, _, lk_set hT4, by simpa using ha, ?_⟩
        intro x hx
        rcases List.mem_or_eq_of_mem_set hx with h | h
        · exact (hth x h).put (hne x h)
        · subst h
          have hm := List.getElem_mem hl1
          exact (hth _ hm).put (hne _ hm)
      · sizeOf_list_dec
        exact ⟨rfl, rfl, kT4, hp4, hb4, acc, hT4, ha, hth⟩
    · sizeOf_list_dec
      refine iff_f ?_
      sizeOf_list_dec
      exact ⟨rfl, rfl, kT4, hp4, hb4, acc, hT4, ha, hth⟩
  rintro γ T5 ⟨rfl, kT5, hp5, hb5, rows, hr5, hl5, hth5⟩
  sizeOf_list_dec
  exact hQ _ _ _ rows l ws hr5 hb5 (by omega) (by omega) hth5 h2 (by omega) nr nb kT5 hp5
end
section
set_option maxHeartbeats 1000000 -- wide
/-- alike to the law's own look -/
inductive Sm (S : Sto) : Nat → D → D → Prop
  | flat {k : Nat} {x : D} (h : flatD x = true) : Sm S k x x
  | tup {k : Nat} {xs ys : List D} (hl : ys.length = xs.length) (hz : xs.length ≤ 1000000) (h : ∀ (i : Nat) (x y : D), xs[i]? = some x → ys[i]? = some y → Sm S k x y) : Sm S (k + 1) (.tup xs) (.tup ys)
  | lst {k a b : Nat} {xs ys : List D} (ha : S[a]? = some (.lst xs)) (hb : S[b]? = some (.lst ys)) (hl : ys.length = xs.length) (hz : xs.length ≤ 1000000) (h : ∀ (i : Nat) (x y : D), xs[i]? = some x → ys[i]? = some y → Sm S k x y) : Sm S (k + 1) (.ref a) (.ref b)
theorem Sm.kp {S S' : Sto} {k : Nat} {x y : D} (h : Sm S k x y) (e : Kp S S') : Sm S' k x y := by
  induction h with
  | flat h => exact .flat h
  | tup hl hz _ ih => exact .tup hl hz ih
  | lst ha hb hl hz _ ih => exact .lst (e _ _ ha) (e _ _ hb) hl hz ih
theorem o_neB {a b : Bool} {S : Sto} {Q : D → Sto → Prop} (q : Q (.bl (!(a == b))) S) : w2 neF (.bl a) (.bl b) S Q := ⟨_, _, rfl, q⟩
theorem o_neI {i j : Int} {S : Sto} {Q : D → Sto → Prop} (q : Q (.bl (!(i == j))) S) : w2 neF (.int i) (.int j) S Q := ⟨_, _, rfl, q⟩
theorem ty_k {T : Sto} {x : D} {t T' : String} {b : Bool} (h1 : tyN T x = some t) (h2 : kitB t T' = some b) {Q : Bool → Prop} (q : Q b) : tyQ T' T x Q := ⟨_, _, h1, h2, q⟩
theorem blsD_true : ∀ n : Nat, blsD (List.replicate n (.bl true)) = some (List.replicate n true)
  | 0 => rfl
  | n + 1 => by simp [List.replicate_succ, blsD, blsD_true n]
theorem kb {a b : String} (h : a ≠ b) (r : kitB a b = some false) : kitB a b = some false := r
theorem ks_self (t : String) : kitB t t = some true := by unfold kitB; simp
theorem tyN_lst {T : Sto} {n : Nat} {xs : List D} (h : T[n]? = some (.lst xs)) : tyN T (.ref n) = some "list" := by unfold tyN; simp [h]
theorem k2l : kit2 "list" "list" "tuple" = some true := by unfold kit2; rw [ks_self]
theorem kf1 : kitB "tuple" "list" = some false := by decide +kernel
theorem kf2 : kitB "list" "tuple" = some false := by decide +kernel
theorem k2t : kit2 "tuple" "list" "tuple" = some true := by unfold kit2; rw [kf1, ks_self]
variable {p : Nat}
/-- the part that goes through two sequences -/
theorem seq_ok {K : Nat} {S : Sto} {x y : D} {n : Nat} {at1 at2 : Nat → D} {Q : D → Sto → Prop} {x2 : Option D} (hn : n ≤ 1000000)
    (h1 : ∀ (T : Sto), Kp S T → ∀ (i : Nat) (Q : D → Sto → Prop), i < n → Q (at1 i) T → w2 ixF x (.int i) T Q) (h2 : ∀ (T : Sto), Kp S T → ∀ (i : Nat) (Q : D → Sto → Prop), i < n → Q (at2 i) T → w2 ixF y (.int i) T Q)
    (hl : ∀ (T : Sto) (Q : D → Sto → Prop), Kp S T → Q (.int n) T → w1 lenF [x] T Q)
    (ih : ∀ (T : Sto), Kp S T → ∀ (i : Nat) (Q : D → Sto → Prop), i < n → (∀ S', Kp T S' → Q (.bl true) S') → w1 (den K ._law_same) [at1 i, at2 i] T Q)
    (q : ∀ S', Kp S S' → Q (.bl true) S') : wE (appM allF (consA (compM (rng1I (consA (appM lenF (consA (varM 0) (nilA))) (nilA))) (.one 2) (yesC) (callM 2 (den K ._law_same) (consA (binM ixF (varM 0) (varM 2)) (consA (binM ixF (varM 1) (varM 2)) (nilA)))) [2]) (nilA))) [some x, some y, x2] S Q := by
  sizeOf_list_dec
  refine hl S _ Kp.refl ?_
  sizeOf_list_dec
  refine ⟨⟨by omega, by omega⟩, ?_⟩
  rw [Int.toNat_natCast]
  refine comp_rng (fun j acc T => Kp S T ∧ acc = List.replicate j (.bl true)) ?_ ?_ hn lk_new ⟨Kp.refl.app, rfl⟩
  · rintro j acc T hj ha hT ⟨kT, rfl⟩
    sizeOf_list_dec
    refine h1 T kT j _ hj ?_
    sizeOf_list_dec
    refine h2 T kT j _ hj ?_
    sizeOf_list_dec
    refine ih T kT j _ hj ?_
    intro S' k'
    exact ⟨k' _ _ hT, (kT.trans k').set (by simp), by rw [List.replicate_succ']⟩
  · rintro acc T ha hT ⟨kT, rfl⟩
    sizeOf_list_dec
    refine f_all hT (blsD_true n) ?_
    rw [show (List.replicate n true).all id = true by simp]
    exact q T kT
theorem same_ok {S : Sto} {k : Nat} {x y : D} (h : Sm S k x y) : ∀ (K : Nat), k < K → ∀ (T : Sto) (Q : D → Sto → Prop), Kp S T → (∀ S', Kp T S' → Q (.bl true) S') → w1 (den K ._law_same) [x, y] T Q := by
  induction h with
  | @flat k x h =>
    intro K hK T Q kT q
    obtain ⟨K, rfl⟩ : ∃ K', K = K' + 1 := ⟨K - 1, by omega⟩
    have t0 := q T Kp.refl
    refine w_body ?_
    unfold b__law_same
    cases x with
    | non =>
      refine s_seq ?_
      refine s_if ?_
      refine c_tru ?_
      refine v_isi2 ?_
      sizeOf_list_dec
      refine ⟨_, false, rfl, by decide +kernel, ?_⟩
      sizeOf_list_dec
      refine iff_f ?_
      sizeOf_list_dec
      refine iff_t ?_
      refine iff_t ?_
      sizeOf_list_dec
      refine iff_t ?_
      sizeOf_list_dec
      exact t0
    | bl b =>
      refine s_seq ?_
      refine s_if ?_
      refine c_tru ?_
      refine v_isi2 ?_
      sizeOf_list_dec
      refine ⟨_, false, rfl, by decide +kernel, ?_⟩
      sizeOf_list_dec
      refine iff_f ?_
      sizeOf_list_dec
      refine iff_f ?_
      sizeOf_list_dec
      refine iff_f ?_
      sizeOf_list_dec
      refine ty_k (b := true) rfl (ks_self _) ?_
      sizeOf_list_dec
      refine ty_k (b := true) rfl (ks_self _) ?_
      sizeOf_list_dec
      refine o_neB ?_
      sizeOf_list_dec
      refine iff_f ?_
      sizeOf_list_dec
      refine ty_k (b := true) rfl (by decide +kernel) ?_
      sizeOf_list_dec
      refine ty_k (b := true) rfl (by decide +kernel) ?_
      sizeOf_list_dec
      refine o_neB ?_
      sizeOf_list_dec
      refine iff_f ?_
      sizeOf_list_dec
      refine ty_k (b := false) rfl (by decide +kernel) ?_
      sizeOf_list_dec
      refine ty_k (b := false) rfl (by decide +kernel) ?_
      sizeOf_list_dec
      refine o_neB ?_
      sizeOf_list_dec
      refine iff_f ?_
      refine c_tru ?_
      refine v_isi2 ?_
      sizeOf_list_dec
      refine ⟨_, false, rfl, by decide +kernel, ?_⟩
      sizeOf_list_dec
      refine iff_f ?_
      sizeOf_list_dec
      rw [show (b == b) = true by simp]
      exact t0
    | int i =>
      refine s_seq ?_
      refine s_if ?_
      refine c_tru ?_
      refine v_isi2 ?_
      sizeOf_list_dec
      refine ⟨_, false, rfl, by decide +kernel, ?_⟩
      sizeOf_list_dec
      refine iff_f ?_
      sizeOf_list_dec
      refine iff_f ?_
      sizeOf_list_dec
      refine iff_f ?_
      sizeOf_list_dec
      refine ty_k (b := false) rfl (by decide +kernel) ?_
      sizeOf_list_dec
      refine ty_k (b := false) rfl (by decide +kernel) ?_
      sizeOf_list_dec
      refine o_neB ?_
      sizeOf_list_dec
      refine iff_f ?_
      sizeOf_list_dec
      refine ty_k (b := true) rfl (ks_self _) ?_
      sizeOf_list_dec
      refine ty_k (b := true) rfl (ks_self _) ?_
      sizeOf_list_dec
      refine o_neB ?_
      sizeOf_list_dec
      refine iff_f ?_
      sizeOf_list_dec
      refine ty_k (b := false) rfl (by decide +kernel) ?_
      sizeOf_list_dec
      refine ty_k (b := false) rfl (by decide +kernel) ?_
      sizeOf_list_dec
      refine o_neB ?_
      sizeOf_list_dec
      refine iff_f ?_
      refine c_tru ?_
      refine v_isi2 ?_
      sizeOf_list_dec
      refine ⟨_, false, rfl, by decide +kernel, ?_⟩
      sizeOf_list_dec
      refine iff_f ?_
      sizeOf_list_dec
      rw [show (i == i) = true by simp]
      exact t0
    | str z =>
      refine s_seq ?_
      refine s_if ?_
      refine c_tru ?_
      refine v_isi2 ?_
      sizeOf_list_dec
      refine ⟨_, false, rfl, by decide +kernel, ?_⟩
      sizeOf_list_dec
      refine iff_f ?_
      sizeOf_list_dec
      refine iff_f ?_
      sizeOf_list_dec
      refine iff_f ?_
      sizeOf_list_dec
      refine ty_k (b := false) rfl (by decide +kernel) ?_
      sizeOf_list_dec
      refine ty_k (b := false) rfl (by decide +kernel) ?_
      sizeOf_list_dec
      refine o_neB ?_
      sizeOf_list_dec
      refine iff_f ?_
      sizeOf_list_dec
      refine ty_k (b := false) rfl (by decide +kernel) ?_
      sizeOf_list_dec
      refine ty_k (b := false) rfl (by decide +kernel) ?_
      sizeOf_list_dec
      refine o_neB ?_
      sizeOf_list_dec
      refine iff_f ?_
      sizeOf_list_dec
      refine ty_k (b := true) rfl (ks_self _) ?_
      sizeOf_list_dec
      refine ty_k (b := true) rfl (ks_self _) ?_
      sizeOf_list_dec
      refine o_neB ?_
      sizeOf_list_dec
      refine iff_f ?_
      refine c_tru ?_
      refine v_isi2 ?_
      sizeOf_list_dec
      refine ⟨_, false, rfl, by decide +kernel, ?_⟩
      sizeOf_list_dec
      refine iff_f ?_
      sizeOf_list_dec
      rw [show (z == z) = true by simp]
      exact t0
    | tup _ => simp [flatD] at h
    | rl _ => simp [flatD] at h
    | ref _ => simp [flatD] at h
    | gl _ => simp [flatD] at h
  | @tup k xs ys hl hz _ ih =>
    intro K hK T Q kT q
    obtain ⟨K, rfl⟩ : ∃ K', K = K' + 1 := ⟨K - 1, by omega⟩
    refine w_body ?_
    unfold b__law_same
    refine s_seq ?_
    refine s_if ?_
    refine c_tru ?_
    refine v_isi2 ?_
    sizeOf_list_dec
    refine ⟨_, true, rfl, k2t, ?_⟩
    sizeOf_list_dec
    refine iff_t ?_
    sizeOf_list_dec
    refine ty_k (b := false) rfl kf1 ?_
    sizeOf_list_dec
    refine ty_k (b := false) rfl kf1 ?_
    sizeOf_list_dec
    refine o_neB ?_
    sizeOf_list_dec
    refine iff_f ?_
    sizeOf_list_dec
    refine ty_k (b := true) rfl (ks_self _) ?_
    sizeOf_list_dec
    refine ty_k (b := true) rfl (ks_self _) ?_
    sizeOf_list_dec
    refine o_neB ?_
    sizeOf_list_dec
    refine iff_f ?_
    sizeOf_list_dec
    refine o_neI ?_
    sizeOf_list_dec
    rw [hl, show (!((xs.length : Int) == (xs.length : Int))) = false by simp]
    refine iff_f ?_
    refine s_nx ?_
    refine th_nx ?_
    refine s_rt ?_
    refine seq_ok (n := xs.length) (at1 := fun i => xs.getD i .non) (at2 := fun i => ys.getD i .non) (x := .tup xs) (y := .tup ys) (K := K) hz ?_ ?_ ?_ ?_ ?_
    · intro T' _ i Q' hi hq
      exact o_ixT (at_rng (by simp [hi])) hq
    · intro T' _ i Q' hi hq
      exact o_ixT (at_rng (by simp [hl, hi])) hq
    · intro T' Q' _ hq
      exact f_lenT hq
    · intro T' kT' i Q' hi hq
      exact ih i _ _ (by simp [hi]) (by simp [hl, hi]) K (by omega) T' Q' (kT.trans kT') hq
    · intro S' kS
      sizeOf_list_dec
      exact q S' kS
  | @lst k a b xs ys ha hb hl hz _ ih =>
    intro K hK T Q kT q
    obtain ⟨K, rfl⟩ : ∃ K', K = K' + 1 := ⟨K - 1, by omega⟩
    have ha1 := kT _ _ ha
    have hb1 := kT _ _ hb
    refine w_body ?_
    unfold b__law_same
    refine s_seq ?_
    refine s_if ?_
    refine c_tru ?_
    refine v_isi2 ?_
    sizeOf_list_dec
    refine ⟨_, true, tyN_lst ha1, k2l, ?_⟩
    sizeOf_list_dec
    refine iff_t ?_
    sizeOf_list_dec
    refine ty_k (b := true) (tyN_lst ha1) (ks_self _) ?_
    sizeOf_list_dec
    refine ty_k (b := true) (tyN_lst hb1) (ks_self _) ?_
    sizeOf_list_dec
    refine o_neB ?_
    sizeOf_list_dec
    refine iff_f ?_
    sizeOf_list_dec
    refine ty_k (b := false) (tyN_lst ha1) kf2 ?_
    sizeOf_list_dec
    refine ty_k (b := false) (tyN_lst hb1) kf2 ?_
    sizeOf_list_dec
    refine o_neB ?_
    sizeOf_list_dec
    refine iff_f ?_
    sizeOf_list_dec
    refine o_neI ?_
    sizeOf_list_dec
    rw [hl, show (!((xs.length : Int) == (xs.length : Int))) = false by simp]
    refine iff_f ?_
    refine s_nx ?_
    refine th_nx ?_
    refine s_rt ?_
    refine seq_ok (n := xs.length) (at1 := fun i => xs.getD i .non) (at2 := fun i => ys.getD i .non) (x := .ref a) (y := .ref b) (K := K) hz ?_ ?_ ?_ ?_ ?_
    · intro T' kT' i Q' hi hq
      exact o_ixL (kT' _ _ ha1) (at_rng (by simp [hi])) hq
    · intro T' kT' i Q' hi hq
      exact o_ixL (kT' _ _ hb1) (at_rng (by simp [hl, hi])) hq
    · intro T' Q' kT' hq
      exact f_lenL (kT' _ _ ha1) hq
    · intro T' kT' i Q' hi hq
      exact ih i _ _ (by simp [hi]) (by simp [hl, hi]) K (by omega) T' Q' (kT.trans kT') hq
    · intro S' kS
      sizeOf_list_dec
      exact q S' kS
end
section
set_option maxHeartbeats 1000000 -- wide
def rkN (l : List D) (i : Nat) : D := l.getD i .non
def ltI (l : List D) (i j : Nat) : Bool := ltD (rkN l i) (rkN l j)
theorem ltI_wo (l : List D) : Wo (ltI l) := ⟨fun a => ltD_wo.irr _, fun a b c => ltD_wo.tr _ _ _, fun a b c => ltD_wo.neg _ _ _⟩
theorem cut_nat (ps : List Nat) (h : Nat) (hh : h ≤ ps.length) : cutX (ps.map natD) (some (h : Int)) none = (ps.drop h).map natD ∧ cutX (ps.map natD) none (some (h : Int)) = (ps.take h).map natD := by
  obtain ⟨a, b⟩ := cut_two (ps.map natD) h (by simpa using hh)
  exact ⟨by rw [a, List.map_drop], by rw [b, List.map_take]⟩
theorem Rws.at {ws : List Nat} {l : List D} (h : Rws ws l) {i : Nat} (hi : i < l.length) : Rw ws (rkN l i) := by
  unfold rkN
  rw [List.getD_eq_getElem?_getD] -- by place
  rw [List.getElem?_eq_getElem hi]
  exact h _ (List.getElem_mem hi)
theorem rkN_at {l : List D} {i : Nat} (hi : i < l.length) : atI l (i : Int) = some (rkN l i) := at_rng (by unfold rkN; simp [hi])
theorem nat_at {ps : List Nat} {i : Nat} (hi : i < ps.length) : atI (ps.map natD) (i : Int) = some (natD ps[i]) := at_rng (by simp [hi])
variable {S : Sto} {Q : D → Sto → Prop}
theorem merged_ok {ranks : List D} {ws : List Nat} (hR : Rws ws ranks) : ∀ (K : Nat) (ps : List Nat) (S : Sto) (Q : D → Sto → Prop) (a b : Nat), ps.length ≤ 2 ^ K → ps.length ≤ 1000 → (∀ x ∈ ps, x < ranks.length) → S[a]? = some (.lst (ps.map natD)) → S[b]? = some (.lst ranks) →
    (∀ c S', Kp S S' → S'[c]? = some (.lst ((ms (ltI ranks) ps).1.map natD)) → Q (.tup [.ref c, natD (ms (ltI ranks) ps).2]) S') → w1 (den (K + 1) .merged_places) [.ref a, .ref b] S Q := by
  intro K
  induction K with
  | zero =>
    intro ps S Q a b hK hz hps ha hb q
    refine w_body ?_
    unfold b_merged_places
    sizeOf_list_dec
    rw [List.length_map]
    refine iff_d (fun _ => ?_) (fun h => by simp at hK; omega)
    sizeOf_list_dec
    have := q a S Kp.refl
    rw [ms_one (by simpa using hK)] at this
    exact this ha
  | succ K ih =>
    intro ps S Q a b hK hz hps ha hb q
    refine w_body ?_
    unfold b_merged_places
    sizeOf_list_dec
    rw [List.length_map]
    refine iff_d (fun h1 => ?_) (fun h1 => ?_)
    · sizeOf_list_dec
      have := q a S Kp.refl
      rw [ms_one (by omega)] at this
      exact this ha
    have h1' : ¬ ps.length ≤ 1 := by omega
    rw [ms_two h1'] at q
    sizeOf_list_dec
    rw [List.length_map]
    refine o_div (by decide +kernel) ?_
    sizeOf_list_dec
    rw [show ((ps.length : Int) / 2) = ((ps.length / 2 : Nat) : Int) by omega]
    obtain ⟨c1, c2⟩ := cut_nat ps (ps.length / 2) (by omega)
    refine sl_l ha ?_
    rw [c2]
    sizeOf_list_dec
    rw [Nat.pow_succ] at hK
    have l1 : (ps.take (ps.length / 2)).length = ps.length / 2 := by rw [List.length_take]; omega
    have l2 : (ps.drop (ps.length / 2)).length = ps.length - ps.length / 2 := by rw [List.length_drop]
    refine ih (ps.take (ps.length / 2)) _ _ _ _ (by omega) (by omega) (fun x hx => hps x (List.mem_of_mem_take hx)) lk_new (lk_app hb) ?_
    intro f S1 k1 hf
    sizeOf_list_dec
    refine sl_l (k1 _ _ (lk_app ha)) ?_
    rw [c1]
    sizeOf_list_dec
    refine ih (ps.drop (ps.length / 2)) _ _ _ _ (by omega) (by omega) (fun x hx => hps x (List.mem_of_mem_drop hx)) lk_new (lk_app (k1 _ _ (lk_app hb))) ?_
    intro s S2 k2 hs
    have hf2 := k2 _ _ (lk_app hf)
    have k12 : Kp S S2 := fun i o e => k2 i o (lk_app (k1 i o (lk_app e)))
    have hb2 := k12 _ _ hb
    have pF := ms_perm (lt := ltI ranks) (ps.take (ps.length / 2))
    have pG := ms_perm (lt := ltI ranks) (ps.drop (ps.length / 2))
    have lF := ms_len (lt := ltI ranks) (ps.take (ps.length / 2))
    have lG := ms_len (lt := ltI ranks) (ps.drop (ps.length / 2))
    have hF : ∀ x ∈ (ms (ltI ranks) (ps.take (ps.length / 2))).1, x < ranks.length := fun x hx => hps x (List.mem_of_mem_take (pF.mem_iff.mp hx))
    have hG : ∀ x ∈ (ms (ltI ranks) (ps.drop (ps.length / 2))).1, x < ranks.length := fun x hx => hps x (List.mem_of_mem_drop (pG.mem_iff.mp hx))
    rw [l1] at lF
    rw [l2] at lG
    generalize (ms (ltI ranks) (ps.take (ps.length / 2))).2 = n1 at *
    generalize (ms (ltI ranks) (ps.drop (ps.length / 2))).2 = n2 at *
    generalize (ms (ltI ranks) (ps.take (ps.length / 2))).1 = F at *
    generalize (ms (ltI ranks) (ps.drop (ps.length / 2))).1 = G at *
    sizeOf_list_dec
    refine s_asg3 ?_
    sizeOf_list_dec
    refine s_while ?_
    refine wh_inv (fun m γ T => ∃ (i j : Nat) (acc : List Nat) (many : Nat), γ = [some (.ref a), some (.ref b), some (natD (ps.length / 2)), some (.ref f), some (natD n1), some (.ref s), some (natD n2), some (.ref S2.length), some (natD i), some (natD j), some (natD many)] ∧ m = (F.length - i) + (G.length - j) ∧ i ≤ F.length ∧ j ≤ G.length ∧ acc.length + (F.length - i) + (G.length - j) = F.length + G.length ∧ Kp S2 T ∧ T[S2.length]? = some (.lst (acc.map natD)) ∧ acc ++ (mg (ltI ranks) (F.drop i) (G.drop j)).1 = (mg (ltI ranks) F G).1 ∧ many + (mg (ltI ranks) (F.drop i) (G.drop j)).2 = (mg (ltI ranks) F G).2) ?_ turns (F.length + G.length) _ _ ⟨0, 0, [], 0, rfl, by simp, by simp, by simp, by simp, Kp.refl.app, lk_new, by simp, by simp⟩ (by simp only [turns]; omega)
    rintro m γ T ⟨i, j, acc, many, rfl, hm, hi, hj, hacc, kT, hT, hA, hN⟩
    have hfT := kT _ _ hf2
    have hsT := kT _ _ hs
    have hbT := kT _ _ hb2
    have fin : (i = F.length ∨ j = G.length) → wS (rtM (tupM (consA (binM addF (binM addF (varM 7) (slM (varM 3) (partM (varM 8)) (noM))) (slM (varM 5) (partM (varM 9)) (noM))) (consA (binM addF (binM addF (varM 4) (varM 6)) (varM 10)) (nilA)))))
        [some (.ref a), some (.ref b), some (natD (ps.length / 2)), some (.ref f), some (natD n1), some (.ref s), some (natD n2), some (.ref S2.length), some (natD i), some (natD j), some (natD many)] T (retQ Q) := by
      intro hend
      have e1 : acc ++ F.drop i ++ G.drop j = (mg (ltI ranks) F G).1 ∧ many = (mg (ltI ranks) F G).2 := by
        rcases hend with h | h
        · subst h
          rw [List.drop_length, mg_nil] at hA hN
          exact ⟨by rw [List.drop_length]; simpa using hA, by simpa using hN⟩
        · subst h
          rw [List.drop_length, mg_nil2] at hA hN
          exact ⟨by rw [List.drop_length]; simpa using hA, by simpa using hN⟩
      obtain ⟨d1, _⟩ := cut_nat F i hi
      obtain ⟨d2, _⟩ := cut_nat G j hj
      simp only [natD]
      sizeOf_list_dec
      refine sl_l hfT ?_
      rw [d1]
      sizeOf_list_dec
      refine o_addL (lk_app hT) lk_new (by simp only [List.length_map, List.length_drop, sizeLine]; omega) ?_
      rw [← List.map_append]
      sizeOf_list_dec
      refine sl_l (lk_app (lk_app hsT)) ?_
      rw [d2]
      sizeOf_list_dec
      refine o_addL (lk_app lk_new) lk_new (by simp only [List.length_map, List.length_drop, List.length_append, sizeLine]; omega) ?_
      rw [← List.map_append, e1.1]
      sizeOf_list_dec
      rw [e1.2]
      have kk : Kp S T := k12.trans kT
      have := q _ _ ((((kk.app (J := [.lst ((F.drop i).map natD)])).app (J := [.lst ((acc ++ F.drop i).map natD)])).app (J := [.lst ((G.drop j).map natD)])).app) lk_new
      simp only [natD, Int.natCast_add] at this
      exact this
    simp only [natD]
    sizeOf_list_dec
    rw [List.length_map]
    refine iff_d (fun hi2 => ?_) (fun hi2 => ?_)
    · sizeOf_list_dec
      rw [List.length_map]
      refine iff_d (fun hj2 => ?_) (fun hj2 => ?_)
      · have hiF : i < F.length := by omega
        have hjG : j < G.length := by omega
        have hx := hF _ (List.getElem_mem hiF)
        have hy := hG _ (List.getElem_mem hjG)
        have eF : F.drop i = F[i] :: F.drop (i + 1) := List.drop_eq_getElem_cons hiF
        have eG : G.drop j = G[j] :: G.drop (j + 1) := List.drop_eq_getElem_cons hjG
        sizeOf_list_dec
        refine o_ixL hsT (nat_at hjG) ?_
        simp only [natD]
        refine o_ixL hbT (rkN_at hy) ?_
        sizeOf_list_dec
        refine o_ixL hfT (nat_at hiF) ?_
        simp only [natD]
        refine o_ixL hbT (rkN_at hx) ?_
        refine o_ordT ((hR.at hy).two (hR.at hx)) ?_
        sizeOf_list_dec
        have ez : (many : Int) + 1 = ((many + 1 : Nat) : Int) := by omega
        rw [ez]
        refine iff_b (fun hlt => ?_) (fun hlt => ?_)
        · have hlt : ltI ranks G[j] F[i] = true := hlt
          rw [eF, eG, mg_lt hlt] at hA hN
          rw [← eF] at hA hN
          sizeOf_list_dec
          refine ⟨ty_lst hT, ?_⟩
          sizeOf_list_dec
          refine o_ixL hsT (nat_at hjG) ?_
          sizeOf_list_dec
          refine m_append hT (by simp only [List.length_map, sizeLine]; omega) ?_
          sizeOf_list_dec
          refine ⟨(F.length - i) + (G.length - (j + 1)), by omega, i, j + 1, acc ++ [G[j]], many + 1, ?_, rfl, hi, by omega, by simp; omega, kT.set (by simp), ?_, ?_, ?_⟩
          · rw [Int.natCast_add]; rfl
          · rw [lk_set hT]; simp
          · rw [← hA]; simp
          · rw [← hN]; omega
        · have hlt : ltI ranks G[j] F[i] = false := hlt
          rw [eF, eG, mg_ge hlt] at hA hN
          rw [← eG] at hA hN
          sizeOf_list_dec
          refine ⟨ty_lst hT, ?_⟩
          sizeOf_list_dec
          refine o_ixL hfT (nat_at hiF) ?_
          sizeOf_list_dec
          refine m_append hT (by simp only [List.length_map, sizeLine]; omega) ?_
          sizeOf_list_dec
          refine ⟨(F.length - (i + 1)) + (G.length - j), by omega, i + 1, j, acc ++ [F[i]], many + 1, ?_, rfl, by omega, hj, by simp; omega, kT.set (by simp), ?_, ?_, ?_⟩
          · rw [Int.natCast_add]; rfl
          · rw [lk_set hT]; simp
          · rw [← hA]; simp
          · rw [← hN]; omega
      · refine th_nx ?_
        exact fin (.inr (by omega))
    · refine iff_f ?_
      refine th_nx ?_
      exact fin (.inl (by omega))
end
section
set_option maxHeartbeats 1000000 -- wide
theorem none_len2 {S S2 : Sto} (h : S.length ≤ S2.length) : S[S2.length]? = none := List.getElem?_eq_none h
theorem rng_nat (n : Nat) : rngD 0 n = (List.range n).map natD := by
  unfold rngD natD
  apply List.map_congr_left
  intro i _
  simp
theorem lst_rng (l : List D) : l = (List.range l.length).map (rkN l) := by
  apply List.ext_getElem?
  intro i
  rw [List.getElem?_map]
  by_cases h : i < l.length
  · rw [List.getElem?_eq_getElem h, List.getElem?_range h]
    simp [rkN, h]
  · rw [List.getElem?_eq_none (by omega), List.getElem?_eq_none (by simp; omega)]; rfl
theorem take_rng (l : List D) {k : Nat} (hk : k ≤ l.length) : l.take k = (List.range k).map (rkN l) := by
  conv => lhs; rw [lst_rng l]
  rw [← List.map_take, List.take_range, Nat.min_eq_left hk]
variable {S : Sto} {Q : D → Sto → Prop} {k a b : Nat}
theorem sorted_counted_ok {rows ranks : List D} {ws : List Nat} (hR : Rws ws ranks) (hl : rows.length = ranks.length) (hz : rows.length ≤ 60) (ha : S[a]? = some (.lst rows)) (hb : S[b]? = some (.lst ranks))
    (q : ∀ c S', Kp S S' → S'[c]? = some (.lst ((ms (ltI ranks) (List.range rows.length)).1.map (rkN rows))) → S[c]? = none → Q (.tup [.ref c, natD (ms (ltI ranks) (List.range rows.length)).2]) S') : w1 (den (k + 8) .sorted_counted) [.ref a, .ref b] S Q := by
  refine w_body ?_
  unfold b_sorted_counted
  refine s_seq ?_
  refine s_asg ?_
  refine v_call ?_
  refine a_cons ?_
  refine v_lrng ?_
  sizeOf_list_dec
  refine ⟨⟨by omega, by omega⟩, ?_⟩
  rw [Int.toNat_natCast, rng_nat]
  sizeOf_list_dec
  have hp : (List.range rows.length).length ≤ 2 ^ (k + 6) := by
    have := Nat.pow_le_pow_right (n := 2) (by decide) (show 6 ≤ k + 6 by omega)
    rw [List.length_range]; omega
  refine merged_ok hR (k + 6) (List.range rows.length) _ _ S.length b hp (by rw [List.length_range]; omega) (fun x hx => by have := List.mem_range.mp hx; omega) lk_new (lk_app hb) ?_
  intro c S1 k1 hc
  have k1' : Kp S S1 := fun i o e => k1 i o (lk_app e)
  have ha1 := k1' _ _ ha
  have la := lt_of ha1
  have pL := ms_perm (lt := ltI ranks) (List.range rows.length)
  sizeOf_list_dec
  refine comp_mapT (g := fun x => match x with | .int i => rkN rows i.toNat | _ => .non) lk_new ⟨lk_app hc, fun m o e => by cases e; have := lt_of hc; omega⟩ ?_ (by simp [ms_len]; omega) ?_
  · intro x hx acc' Q' hQ'
    obtain ⟨i, hi, rfl⟩ := List.mem_map.mp hx
    have hi2 : i < rows.length := List.mem_range.mp (pL.mem_iff.mp hi)
    simp only [natD] at hQ' ⊢
    sizeOf_list_dec
    refine o_ixL (lk_ne (by omega) (lk_app ha1)) (rkN_at hi2) ?_
    rw [Int.toNat_natCast] at hQ'
    exact hQ'
  · have e : ([] : List D) ++ ((ms (ltI ranks) (List.range rows.length)).1.map natD).map (fun x => match x with | .int i => rkN rows i.toNat | _ => .non) = (ms (ltI ranks) (List.range rows.length)).1.map (rkN rows) := by
      rw [List.nil_append, List.map_map]
      apply List.map_congr_left
      intro i _
      simp [natD]
    rw [e]
    sizeOf_list_dec
    exact q _ _ (k1'.app.set (none_len2 k1'.len)) (lk_set lk_new) (none_len2 k1'.len)
theorem least_ok : ∀ (K n : Nat) (S : Sto) (Q : D → Sto → Prop), n ≤ 2 ^ K → n ≤ 1000 → Q (natD (leastN n)) S → w1 (den (K + 1) ._law_least) [.int n] S Q := by
  intro K
  induction K with
  | zero =>
    intro n S Q hK hz q
    refine w_body ?_
    unfold b__law_least
    sizeOf_list_dec
    refine iff_d (fun _ => ?_) (fun h => by simp at hK; omega)
    sizeOf_list_dec
    rw [leastN, dif_pos (by simp at hK; omega)] at q
    exact q
  | succ K ih =>
    intro n S Q hK hz q
    rw [Nat.pow_succ] at hK
    refine w_body ?_
    unfold b__law_least
    sizeOf_list_dec
    refine iff_d (fun h => ?_) (fun h => ?_)
    · sizeOf_list_dec
      rw [leastN, dif_pos (by omega)] at q
      exact q
    · rw [leastN, dif_neg (by omega)] at q
      sizeOf_list_dec
      refine o_div (by decide +kernel) ?_
      sizeOf_list_dec
      refine o_div (by decide +kernel) ?_
      rw [show ((n : Int) / 2) = ((n / 2 : Nat) : Int) by omega]
      sizeOf_list_dec
      refine ih (n / 2) _ _ (by omega) (by omega) ?_
      simp only [natD]
      sizeOf_list_dec
      refine o_div (by decide +kernel) ?_
      rw [show ((n : Int) / 2) = ((n / 2 : Nat) : Int) by omega]
      sizeOf_list_dec
      rw [show (n : Int) - ((n / 2 : Nat) : Int) = ((n - n / 2 : Nat) : Int) by omega]
      refine ih (n - n / 2) _ _ (by omega) (by omega) ?_
      simp only [natD]
      sizeOf_list_dec
      simp only [natD, Int.natCast_add] at q
      exact q
theorem lift_ok {n : Nat} (hz : n ≤ 1000) (q : ∀ L : Nat, n ≤ 2 ^ L → Q (natD L) S) : w1 (den (k + 1) ._law_lift) [.int n] S Q := by
  refine w_body ?_
  unfold b__law_lift
  sizeOf_list_dec
  refine ⟨⟨by omega, by omega⟩, ?_⟩
  rw [Int.toNat_natCast]
  refine for_rng (fun j γ T => ∃ x3 : Option D, γ = [some (.int n), some (natD j), some (natD (2 ^ j)), x3] ∧ T = S) ?_ ?_ ⟨_, rfl, rfl⟩
  · rintro j γ T hj ⟨x3, rfl, rfl⟩
    simp only [natD]
    sizeOf_list_dec
    refine iff_d (fun h => ?_) (fun h => ?_)
    · sizeOf_list_dec
      exact q j (by omega)
    · sizeOf_list_dec
      refine o_mul (mul_l ⟨by decide, by decide⟩) ?_
      sizeOf_list_dec
      refine ⟨some (.int j), ?_, rfl⟩
      rw [show (2 : Int) * ((2 ^ j : Nat) : Int) = ((2 ^ (j + 1) : Nat) : Int) by rw [Nat.pow_succ]; omega, show (j : Int) + 1 = ((j + 1 : Nat) : Int) by omega]
      rfl
  · rintro γ T ⟨x3, rfl, rfl⟩
    simp only [natD]
    sizeOf_list_dec
    exact q n (Nat.le_of_lt n.lt_two_pow_self)
end
section
set_option maxHeartbeats 1000000 -- wide
variable {S : Sto} {Q : D → Sto → Prop} {k a b : Nat}
theorem filt_len {l : List D} {p : D → Bool} : (l.filter p).length = l.countP p := (List.countP_eq_length_filter ..).symm
theorem ne_split {l : List D} (h : 0 < l.length) : ∃ x xs, l = x :: xs := by
  cases l with
  | nil => simp at h
  | cons x xs => exact ⟨x, xs, rfl⟩
theorem compared_ok {ws : List Nat} : ∀ (K : Nat) (l : List D) (S : Sto) (Q : D → Sto → Prop) (a : Nat), l.length ≤ 2 ^ K → l.length ≤ 1000 → Rws ws l → S[a]? = some (.lst l) → (∀ S', Kp S S' → Q (natD (ms ltD l).2) S') → w1 (den (K + 1) ._law_compared) [.ref a] S Q := by
  intro K
  induction K with
  | zero =>
    intro l S Q a hK hz hR ha q
    have h1 : l.length ≤ 1 := by simpa using hK
    refine w_body ?_
    unfold b__law_compared
    sizeOf_list_dec
    refine iff_d (fun _ => ?_) (fun h => by omega)
    sizeOf_list_dec
    have := q S Kp.refl
    rw [ms_one h1] at this
    exact this
  | succ K ih =>
    intro l S Q a hK hz hR ha q
    rw [Nat.pow_succ] at hK
    refine w_body ?_
    unfold b__law_compared
    sizeOf_list_dec
    refine iff_d (fun h => ?_) (fun h => ?_)
    · sizeOf_list_dec
      have := q S Kp.refl
      rw [ms_one (by omega)] at this
      exact this
    have h1 : ¬ l.length ≤ 1 := by omega
    obtain ⟨c1, c2⟩ := cut_two l (l.length / 2) (by omega)
    have l1 : (l.take (l.length / 2)).length = l.length / 2 := by rw [List.length_take]; omega
    have l2 : (l.drop (l.length / 2)).length = l.length - l.length / 2 := by rw [List.length_drop]
    have R1 : Rws ws (l.take (l.length / 2)) := hR.sub fun x hx => List.mem_of_mem_take hx
    have R2 : Rws ws (l.drop (l.length / 2)) := hR.sub fun x hx => List.mem_of_mem_drop hx
    have q2 : ∀ (F G : List D) (n : Nat), l.take (l.length / 2) = F → l.drop (l.length / 2) = G → ∀ (x : D) (xs : List D) (y : D) (ys : List D), F = x :: xs → G = y :: ys → n = left ltD (maxL x xs) (maxL y ys) F G → (((ms ltD F).2 : Int) + ((ms ltD G).2 : Int) + (l.length : Int) - (n : Int)) = ((ms ltD l).2 : Int) := by
      intro F G n eF eG x xs y ys hF hG hn
      rw [ms_two h1, eF, eG]
      have pF := ms_perm (lt := ltD) F
      have pG := ms_perm (lt := ltD) G
      have mF : Mx ltD (maxL x xs) (ms ltD F).1 := Mx.perm (by rw [hF]; exact maxL_mx x xs) pF.symm
      have mG : Mx ltD (maxL y ys) (ms ltD G).1 := Mx.perm (by rw [hG]; exact maxL_mx y ys) pG.symm
      have nF : (ms ltD F).1 ≠ [] := fun z => by have := pF.length_eq; rw [z, hF] at this; simp at this
      have nG : (ms ltD G).1 ≠ [] := fun z => by have := pG.length_eq; rw [z, hG] at this; simp at this
      have := mg_count ltD_wo _ _ nF nG (ms_up ltD_wo F) (ms_up ltD_wo G) mF mG
      rw [pF.length_eq, pG.length_eq, ← eF, ← eG, l1, l2, eF, eG] at this
      have e : left ltD (maxL x xs) (maxL y ys) (ms ltD F).1 (ms ltD G).1 = n := by
        rw [hn]
        unfold left
        rw [pF.countP_eq, pG.countP_eq]
      rw [e] at this
      show _ = (((ms ltD F).2 + (ms ltD G).2 + (mg ltD (ms ltD F).1 (ms ltD G).1).2 : Nat) : Int)
      omega
    sizeOf_list_dec
    refine o_div (by decide +kernel) ?_
    rw [show ((l.length : Int) / 2) = ((l.length / 2 : Nat) : Int) by omega]
    sizeOf_list_dec
    refine sl_l ha ?_
    rw [c2]
    sizeOf_list_dec
    refine o_div (by decide +kernel) ?_
    rw [show ((l.length : Int) / 2) = ((l.length / 2 : Nat) : Int) by omega]
    sizeOf_list_dec
    refine sl_l (lk_app ha) ?_
    rw [c1]
    have hF0 : (S ++ [O.lst (l.take (l.length / 2))] ++ [O.lst (l.drop (l.length / 2))])[S.length]? = some (.lst (l.take (l.length / 2))) := lk_app lk_new
    have hG0 : (S ++ [O.lst (l.take (l.length / 2))] ++ [O.lst (l.drop (l.length / 2))])[(S ++ [O.lst (l.take (l.length / 2))]).length]? = some (.lst (l.drop (l.length / 2))) := lk_new
    have k0 : Kp S (S ++ [O.lst (l.take (l.length / 2))] ++ [O.lst (l.drop (l.length / 2))]) := Kp.refl.app.app
    generalize (S ++ [O.lst (l.take (l.length / 2))]).length = g at *
    generalize S.length = f at *
    generalize S ++ [O.lst (l.take (l.length / 2))] ++ [O.lst (l.drop (l.length / 2))] = T at *
    obtain ⟨x, xs, eF⟩ := ne_split (l := l.take (l.length / 2)) (by omega)
    obtain ⟨y, ys, eG⟩ := ne_split (l := l.drop (l.length / 2)) (by omega)
    have q3 := q2 (l.take (l.length / 2)) (l.drop (l.length / 2))
    clear q2
    generalize l.take (l.length / 2) = F at *
    generalize l.drop (l.length / 2) = G at *
    subst eF
    subst eG
    have mx := R1 _ (maxL_mem x xs)
    have my := R2 _ (maxL_mem y ys)
    have fin : ∀ (n : Nat) (x5 : Option D) (T1 : Sto), Kp S T1 → T1[f]? = some (.lst (x :: xs)) → T1[g]? = some (.lst (y :: ys)) → n = left ltD (maxL x xs) (maxL y ys) (x :: xs) (y :: ys) → wS (rtM (binM subF (binM addF (binM addF (callM 1 (den (K + 1) ._law_compared) (consA (varM 2) (nilA))) (callM 1 (den (K + 1) ._law_compared) (consA (varM 3) (nilA)))) (varM 1)) (varM 4))) [some (.ref a), some (.int l.length), some (.ref f), some (.ref g), some (.int n), x5] T1 (retQ Q) := by
      intro n x5 T1 kT hf hg hn
      sizeOf_list_dec
      refine ih (x :: xs) _ _ _ (by omega) (by omega) R1 hf ?_
      intro T2 k2
      simp only [natD]
      sizeOf_list_dec
      refine ih (y :: ys) _ _ _ (by omega) (by omega) R2 (k2 _ _ hg) ?_
      intro T3 k3
      simp only [natD]
      sizeOf_list_dec
      rw [q3 n rfl rfl x xs y ys rfl rfl hn]
      exact q T3 ((kT.trans k2).trans k3)
    sizeOf_list_dec
    refine f_maxD hG0 R2.max ?_
    sizeOf_list_dec
    refine f_maxD hF0 R1.max ?_
    refine o_ordT (my.two mx) ?_
    have lf := lt_of hF0
    have lg := lt_of hG0
    sizeOf_list_dec
    refine iff_b (fun hge => ?_) (fun hge => ?_)
    · have hge : ltD (maxL y ys) (maxL x xs) = false := by
        have : (!ltD (maxL y ys) (maxL x xs)) = true := hge
        simpa using this
      sizeOf_list_dec
      refine k_filterT (p := fun z => !ltD z (maxL x xs)) (P := fun z => Rw ws z) lk_new (by simp only [List.length_cons] at *; omega) (fun z hz => R2 z hz) (fun T' hk => ?_) ?_ ?_ ?_
      · have := hk g _ (lk_ne (by omega) (lk_app hG0))
        rw [List.getElem?_set_ne (by omega)] at this
        exact this
      · intro z T' Q' hz hk hQ
        sizeOf_list_dec
        refine f_maxD (hk f _ (by omega) (lk_app hF0)) R1.max ?_
        refine o_ordT (hz.two mx) ?_
        sizeOf_list_dec
        exact hQ
      · intro z T' Q' hz hQ
        sizeOf_list_dec
        exact hQ
      · intro T' hk hr
        refine a_nil ?_
        refine f_lenL hr ?_
        rw [filt_len]
        refine g_name ?_
        refine th_nx ?_
        refine fin _ _ _ (fun i o e => hk i o (by have := lt_of (k0 i o e); omega) (lk_app (k0 i o e))) (hk f _ (by omega) (lk_app hF0)) (hk g _ (by omega) (lk_app hG0)) ?_
        unfold left
        rw [if_pos hge]
    · have hge : ltD (maxL y ys) (maxL x xs) = true := by
        have : (!ltD (maxL y ys) (maxL x xs)) = false := hge
        simpa using this
      sizeOf_list_dec
      refine k_filterT (p := fun z => ltD (maxL y ys) z) (P := fun z => Rw ws z) lk_new (by simp only [List.length_cons] at *; omega) (fun z hz => R1 z hz) (fun T' hk => ?_) ?_ ?_ ?_
      · have := hk f _ (lk_ne (by omega) (lk_app hF0))
        rw [List.getElem?_set_ne (by omega)] at this
        exact this
      · intro z T' Q' hz hk hQ
        sizeOf_list_dec
        refine f_maxD (hk g _ (by omega) (lk_app hG0)) R2.max ?_
        refine o_ordT (hz.two my) ?_
        sizeOf_list_dec
        exact hQ
      · intro z T' Q' hz hQ
        sizeOf_list_dec
        exact hQ
      · intro T' hk hr
        refine a_nil ?_
        refine f_lenL hr ?_
        rw [filt_len]
        refine g_name ?_
        refine th_nx ?_
        refine fin _ _ _ (fun i o e => hk i o (by have := lt_of (k0 i o e); omega) (lk_app (k0 i o e))) (hk f _ (by omega) (lk_app hF0)) (hk g _ (by omega) (lk_app hG0)) ?_
        unfold left
        rw [if_neg (by rw [hge]; exact Bool.noConfusion)]
end
section
set_option maxHeartbeats 1000000 -- wide
variable {S : Sto} {Q : D → Sto → Prop} {k a b : Nat}
def eqP (a b : D) : Bool := PyData.eqv (encD a) (encD b)
theorem RwD.shape {d : D} (h : RwD d) : SeqAt.shaped (encD d) = true := by
  obtain ⟨p, ps, e, c1, c2⟩ := h
  unfold encD
  rw [e]
  show SeqAt.shaped (.tuple (p :: ps)) = true
  refine Bool.and_eq_true_iff.mpr ⟨?_, decide_eq_true ?_⟩
  · rw [PyData.canLay0]; exact c1
  · rw [PyData.depth]; omega
theorem o_eqR {ws : List Nat} {x y : D} (hx : Rw ws x) (hy : Rw ws y) (q : Q (.bl (eqP x y)) S) : w2 eqF x y S Q := by
  have px := hx.d.enc
  have py := hy.d.enc
  have sx := hx.d.shape
  have sy := hy.d.shape
  unfold eqP at q
  obtain ⟨es, rfl, _⟩ := hx
  obtain ⟨fs, rfl, _⟩ := hy
  refine ⟨_, _, ?_, q⟩
  unfold eqF eqB eqS pyO
  simp only [px, py, sx, sy, Bool.and_self, if_true]
theorem rows_count {ranks : List D} {p : D → Bool} : ranks.countP p = (List.range ranks.length).countP fun j => p (rkN ranks j) := by
  conv => lhs; rw [lst_rng ranks]
  rw [List.countP_map]
  rfl
theorem take_count {ranks : List D} {p : D → Bool} {j : Nat} (hj : j ≤ ranks.length) : (ranks.take j).countP p = (List.range j).countP fun i => p (rkN ranks i) := by
  rw [take_rng ranks hj, List.countP_map]
  rfl
theorem set_place {L : List Nat} (hn : L.Nodup) {f : Nat → D} {p j : Nat} {x : D} (hp : L[p]? = some j) : (L.map f).set p x = L.map fun k => if k = j then x else f k := by
  apply List.ext_getElem?
  intro i
  rw [List.getElem?_set, List.getElem?_map, List.getElem?_map]
  have hpl := lt_of hp
  by_cases h : p = i
  · subst h
    rw [if_pos rfl, if_pos (by simpa using hpl), hp]
    simp
  · rw [if_neg h]
    cases e : L[i]? with
    | none => rfl
    | some v =>
      have : v ≠ j := fun z => by
        subst z
        have hi := lt_of e
        have e1 : L[p] = v := (List.getElem?_eq_some_iff.mp hp).2
        have e2 : L[i] = v := (List.getElem?_eq_some_iff.mp e).2
        have hpw := List.pairwise_iff_getElem.mp hn
        rcases Nat.lt_or_gt_of_ne h with g | g
        · exact hpw p i hpl hi g (e1.trans e2.symm)
        · exact hpw i p hi hpl g (e2.trans e1.symm)
      simp [this]
theorem lsorted_ok {rows ranks : List D} {ws : List Nat} (hR : Rws ws ranks) (hl : rows.length = ranks.length) (hz : rows.length ≤ 60) (ha : S[a]? = some (.lst rows)) (hb : S[b]? = some (.lst ranks))
    (q : ∀ c S', Kp S S' → S'[c]? = some (.lst ((ms (ltI ranks) (List.range rows.length)).1.map (rkN rows))) → Q (.ref c) S') : w1 (den (k + 1) ._law_sorted) [.ref a, .ref b] S Q := by
  have la := lt_of ha
  have lb := lt_of hb
  have W := ltI_wo ranks
  have pL := ms_perm (lt := ltI ranks) (List.range rows.length)
  have nL : (ms (ltI ranks) (List.range rows.length)).1.Nodup := pL.nodup_iff.mpr List.nodup_range
  have atP : ∀ j, j < rows.length → (ms (ltI ranks) (List.range rows.length)).1[atR (ltI ranks) (fun i j => eqP (rkN ranks i) (rkN ranks j)) rows.length j]? = some j := by
    intro j hj
    refine at_pos W hj fun i hi => ?_
    exact ltD_eq ((hR.at (by omega)).alike (hR.at (by omega)))
  have lL := ms_len (lt := ltI ranks) (List.range rows.length)
  rw [List.length_range] at lL
  generalize (ms (ltI ranks) (List.range rows.length)).1 = L at *
  refine w_body ?_
  unfold b__law_sorted
  sizeOf_list_dec
  refine comp_mapT (g := fun _ => .non) lk_new ⟨lk_app ha, fun m o e => by cases e; omega⟩ ?_ (by simp; omega) ?_
  · intro x hx acc' Q' hQ'
    sizeOf_list_dec
    exact hQ'
  sizeOf_list_dec
  refine ⟨⟨by omega, by omega⟩, ?_⟩
  rw [Int.toNat_natCast]
  have hz0 : rows.map (fun _ => D.non) = L.map fun i => if i < 0 then rkN rows i else .non := by
    apply List.ext_getElem?
    intro i
    rw [List.getElem?_map]
    rw [List.getElem?_map]
    by_cases h : i < rows.length
    · rw [List.getElem?_eq_getElem h, List.getElem?_eq_getElem (by omega)]; simp
    · rw [List.getElem?_eq_none (by omega), List.getElem?_eq_none (by omega)]; rfl
  refine for_rng (fun j γ T => ∃ x3 x4 x5 x6 : Option D, γ = [some (.ref a), some (.ref b), some (.ref S.length), x3, x4, x5, x6] ∧ Kp S T ∧ T[S.length]? = some (.lst (L.map fun i => if i < j then rkN rows i else .non))) ?_ ?_ ⟨_, _, _, _, rfl, Kp.refl.app.set (by simp), ?_⟩
  · rintro j γ T hj ⟨x3, x4, x5, x6, rfl, kT, hT⟩
    have haT := kT _ _ ha
    have hbT := kT _ _ hb
    have lbT := lt_of hbT
    have lST := lt_of hT
    have hjr : j < ranks.length := by omega
    sizeOf_list_dec
    refine k_filterT (p := fun z => ltD z (rkN ranks j)) (P := fun z => Rw ws z) lk_new (by omega) (fun z hz => hR z hz) (fun T' hk => ?_) ?_ ?_ ?_
    · have := hk b _ (lk_ne (by omega) (lk_app hbT))
      rw [List.getElem?_set_ne (by omega)] at this
      exact this
    · intro z T' Q' hz hk hQ
      sizeOf_list_dec
      refine o_ixL (hk b _ (by omega) (lk_app hbT)) (rkN_at hjr) ?_
      refine o_ordT (hz.two (hR.at hjr)) ?_
      sizeOf_list_dec
      exact hQ
    · intro z T' Q' hz hQ
      sizeOf_list_dec
      exact hQ
    intro T1 hk1 hr1
    have k1 : Kp T T1 := fun i o e => hk1 i o (by have := lt_of e; omega) (lk_app e)
    have len1 := k1.len
    have lr1 := lt_of hr1
    sizeOf_list_dec
    refine sl_l (k1 _ _ hbT) ?_
    rw [(cut_two ranks j (by omega)).2]
    sizeOf_list_dec
    refine k_filterT (p := fun z => eqP z (rkN ranks j)) (P := fun z => Rw ws z) lk_new (by rw [List.length_take]; omega) (fun z hz => hR z (List.mem_of_mem_take hz)) (fun T' hk => ?_) ?_ ?_ ?_
    · have := hk T1.length _ (lk_ne (by simp) (lk_app lk_new))
      rw [List.getElem?_set_ne (by simp)] at this
      exact this
    · intro z T' Q' hz hk hQ
      sizeOf_list_dec
      refine o_ixL (hk b _ (by simp; omega) (lk_app (lk_app (k1 _ _ hbT)))) (rkN_at hjr) ?_
      refine o_eqR hz (hR.at hjr) ?_
      sizeOf_list_dec
      exact hQ
    · intro z T' Q' hz hQ
      sizeOf_list_dec
      exact hQ
    intro T2 hk2 hr2
    have k2 : Kp T1 T2 := fun i o e => hk2 i o (by have := lt_of e; simp; omega) (lk_app (lk_app e))
    have kk := k1.trans k2
    refine a_nil ?_
    refine f_lenL hr2 ?_
    sizeOf_list_dec
    rw [filt_len, filt_len, rows_count, take_count (by omega), ← hl]
    refine o_ixL (kk _ _ haT) (rkN_at hj) ?_
    have hp := atP j hj
    have hpl := lt_of hp
    sizeOf_list_dec
    refine ⟨_, kk _ _ hT, atR (ltI ranks) (fun i j => eqP (rkN ranks i) (rkN ranks j)) rows.length j, ?_, ?_⟩
    · have e : (((List.range rows.length).countP (fun i => ltD (rkN ranks i) (rkN ranks j)) : Nat) : Int) + (((List.range j).countP (fun i => eqP (rkN ranks i) (rkN ranks j)) : Nat) : Int) = ((atR (ltI ranks) (fun i j => eqP (rkN ranks i) (rkN ranks j)) rows.length j : Nat) : Int) := by
        unfold atR
        exact (Int.natCast_add _ _).symm
      rw [e, List.length_map]
      simp [ixN, hpl]
    · refine .nx ⟨_, _, _, _, rfl, (kT.trans kk).set (by simp), ?_⟩
      rw [lk_set (kk _ _ hT), set_place nL hp]
      congr 2
      apply List.map_congr_left
      intro i _
      by_cases h1 : i = j
      · subst h1; simp
      · simp only [h1, if_false]
        by_cases h2 : i < j
        · rw [if_pos h2, if_pos (by omega)]
        · rw [if_neg h2, if_neg (by omega)]
  · rintro γ T ⟨x3, x4, x5, x6, rfl, kT, hT⟩
    sizeOf_list_dec
    refine q _ T kT ?_
    rw [hT]
    congr 2
    apply List.map_congr_left
    intro i hi
    have := List.mem_range.mp (pL.mem_iff.mp hi)
    rw [if_pos this]
  · rw [lk_set lk_new, List.nil_append, hz0]
end
section
set_option maxHeartbeats 1000000 -- wide
variable {S : Sto} {Q : D → Sto → Prop} {k a b : Nat}
theorem v_chain {γ : Sl} {F G : D → D → Sto → Option (D × Sto)} {ea eb ec : EvM} (h : wE ea γ S fun x S1 => wE eb γ S1 fun y S2 => w2 F x y S2 fun d S3 => isBl d fun c => iff2 c (wE ec γ S3 fun z S4 => w2 G y z S4 Q) (Q (.bl false) S3)) : wE (chainM F G ea eb ec) γ S Q := by
  obtain ⟨x, S1, e1, y, S2, e2, d, S3, e3, c, rfl, h1, h2⟩ := h
  cases c with
  | false => exact ⟨_, _, by unfold chainM; simp only [e1, e2, e3], h2 rfl⟩
  | true =>
    obtain ⟨z, S4, e4, d, S5, e5, q⟩ := h1 rfl
    exact ⟨d, S5, by unfold chainM; simp only [e1, e2, e3, e4, e5], q⟩
theorem v_callK {γ : Sl} {na nk n : Nat} {is : List Nat} {F} {ra rk : AvM} (h : wA ra γ S fun xs S1 => wA rk γ S1 fun ys S2 => xs.length = na ∧ ys.length = nk ∧ (xs ++ permL is ys).length = n ∧ w1 F (xs ++ permL is ys) S2 Q) : wE (callKM na nk n is F ra rk) γ S Q := by
  obtain ⟨xs, S1, e1, ys, S2, e2, h1, h2, h3, d, S3, e3, q⟩ := h
  exact ⟨d, S3, by unfold callKM; simp only [e1, e2]; rw [if_pos ⟨h1, h2, h3⟩, e3], q⟩
theorem Th.sm {x : D} (h : Th S x) : Sm S 1 x x := by
  have key : ∀ xs : List D, (∀ x ∈ xs, flatD x = true) → ∀ (i : Nat) (x y : D), xs[i]? = some x → xs[i]? = some y → Sm S 0 x y := fun xs h i x y h1 h2 => by
    rw [h1] at h2; cases h2
    exact .flat (h x (List.mem_of_getElem? h1))
  cases h with
  | non => exact .flat rfl
  | tr => exact .flat rfl
  | int i => exact .flat rfl
  | str z => exact .flat rfl
  | lst h => exact .lst h h rfl (by simp) (key _ (by simp [flatD]))
  | tup i n => exact .tup rfl (by simp) (key _ (by simp [flatD]))
theorem ths_sm {S : Sto} {xs : List D} {c d : Nat} (h : ∀ x ∈ xs, Th S x) (hz : xs.length ≤ 1000000) (hc : S[c]? = some (.lst xs)) (hd : S[d]? = some (.lst xs)) : Sm S 2 (.ref c) (.ref d) := .lst hc hd rfl hz fun i x y h1 h2 => by
  rw [h1] at h2; cases h2
  exact (h x (List.mem_of_getElem? h1)).sm
theorem Rk.sm {w : Nat} {x : D} (h : Rk w x) : Sm S 1 x x := by
  have key : ∀ xs : List D, (∀ x ∈ xs, flatD x = true) → ∀ (i : Nat) (x y : D), xs[i]? = some x → xs[i]? = some y → Sm S 0 x y := fun xs h i x y h1 h2 => by
    rw [h1] at h2; cases h2
    exact .flat (h x (List.mem_of_getElem? h1))
  cases h with
  | non => exact .tup rfl (by simp) (key _ (by simp [flatD]))
  | str _ _ => exact .tup rfl (by simp) (key _ (by simp [flatD]))
  | int _ => exact .tup rfl (by simp) (key _ (by simp [flatD]))
theorem Rw.sm {ws : List Nat} (hws : ws.length ≤ 1000000) {x : D} (h : Rw ws x) : Sm S 2 x x := by
  obtain ⟨es, rfl, hl, _, h⟩ := h
  refine .tup rfl (by omega) fun i x y h1 h2 => ?_
  rw [h1] at h2; cases h2
  have hi := lt_of h1
  exact (h i ws[i] x (List.getElem?_eq_getElem (by omega)) h1).sm
theorem rws_sm {S : Sto} {xs : List D} {ws : List Nat} {c d : Nat} (hws : ws.length ≤ 1000000) (h : Rws ws xs) (hz : xs.length ≤ 1000000) (hc : S[c]? = some (.lst xs)) (hd : S[d]? = some (.lst xs)) : Sm S 3 (.ref c) (.ref d) := .lst hc hd rfl hz fun i x y h1 h2 => by
  rw [h1] at h2; cases h2
  exact (h x (List.mem_of_getElem? h1)).sm hws
/-- what is told of rows and ranks -/
structure Told (S : Sto) (rows ranks : List D) (d : D) (c : Nat) : Prop where
  d : d = .tup [.ref c, natD (ms (ltI ranks) (List.range rows.length)).2]
  at_ : S[c]? = some (.lst ((ms (ltI ranks) (List.range rows.length)).1.map (rkN rows)))
theorem good_ok {rows ranks : List D} {ws : List Nat} {d : D} {c : Nat} (hR : Rws ws ranks) (hl : rows.length = ranks.length) (hz : rows.length ≤ 60) (ha : S[a]? = some (.lst rows)) (hb : S[b]? = some (.lst ranks)) (hth : ∀ x ∈ rows, Th S x) (ht : Told S rows ranks d c)
    (q : ∀ S', Kp S S' → Q (.bl true) S') : w1 (den (k + 20) ._law_good) [d, .ref a, .ref b] S Q := by
  obtain ⟨rfl, hc⟩ := ht
  have lc := lt_of hc
  have pL := ms_perm (lt := ltI ranks) (List.range rows.length)
  have lL := ms_len (lt := ltI ranks) (List.range rows.length)
  rw [List.length_range] at lL
  have hth2 : ∀ x ∈ (ms (ltI ranks) (List.range rows.length)).1.map (rkN rows), Th S x := fun x hx => by
    obtain ⟨i, hi, rfl⟩ := List.mem_map.mp hx
    have hi := List.mem_range.mp (pL.mem_iff.mp hi)
    unfold rkN
    rw [List.getD_eq_getElem?_getD] -- by place
    rw [List.getElem?_eq_getElem hi]
    exact hth _ (List.getElem_mem hi)
  have hp : rows.length ≤ 2 ^ (k + 18) := by
    have := Nat.pow_le_pow_right (n := 2) (by decide) (show 6 ≤ k + 18 by omega)
    omega
  refine w_body ?_
  unfold b__law_good
  sizeOf_list_dec
  refine ty_tup.mpr ?_
  sizeOf_list_dec
  refine iff_f ?_
  sizeOf_list_dec
  refine o_neI ?_
  sizeOf_list_dec
  refine iff_f ?_
  sizeOf_list_dec
  refine ty_k (b := true) (tyN_lst hc) (ks_self _) ?_
  sizeOf_list_dec
  refine iff_f ?_
  sizeOf_list_dec
  refine ty_k (b := true) rfl (ks_self _) ?_
  sizeOf_list_dec
  refine iff_f ?_
  sizeOf_list_dec
  refine ty_k (b := false) rfl (by decide +kernel) ?_
  sizeOf_list_dec
  refine iff_f ?_
  sizeOf_list_dec
  refine lsorted_ok (k := k + 18) hR hl hz ha hb ?_
  intro c2 S1 k1 h2
  sizeOf_list_dec
  refine same_ok (ths_sm (fun x hx => (hth2 x hx).kp k1) (by simp; omega) (k1 _ _ hc) h2) (k + 19) (by omega) S1 _ Kp.refl ?_
  intro S2 k2
  have k12 := k1.trans k2
  sizeOf_list_dec
  refine iff_f ?_
  sizeOf_list_dec
  refine compared_ok (k + 18) ranks _ _ _ (by omega) (by omega) hR (k12 _ _ hb) ?_
  intro S3 k3
  have k13 := k12.trans k3
  have ecnt : (ms ltD ranks).2 = (ms (ltI ranks) (List.range rows.length)).2 := by
    have := ms_map (lt := ltD) (rkN ranks) (List.range ranks.length)
    rw [← lst_rng ranks] at this
    rw [this, hl]
    rfl
  rw [ecnt]
  simp only [natD]
  refine o_neI ?_
  sizeOf_list_dec
  rw [show (!(((ms (ltI ranks) (List.range rows.length)).2 : Int) == ((ms (ltI ranks) (List.range rows.length)).2 : Int))) = false by simp]
  refine iff_f ?_
  refine s_nx ?_
  refine th_nx ?_
  refine s_rt ?_
  refine v_chain ?_
  refine v_call ?_
  refine a_cons ?_
  refine v_app ?_
  refine a_cons ?_
  refine v_var rfl ?_
  refine a_nil ?_
  refine f_lenL (k13 _ _ ha) ?_
  refine a_nil ?_
  refine ⟨rfl, ?_⟩
  refine least_ok (k + 18) rows.length _ _ hp (by omega) ?_
  simp only [natD]
  sizeOf_list_dec
  have h1 := least_lo (lt := ltI ranks) (List.range rows.length)
  rw [List.length_range] at h1
  rw [decide_eq_true (by omega : ((leastN rows.length : Nat) : Int) ≤ (((ms (ltI ranks) (List.range rows.length)).2 : Nat) : Int))]
  refine iff_t ?_
  refine v_bin ?_
  refine v_app ?_
  refine a_cons ?_
  refine v_var rfl ?_
  refine a_nil ?_
  refine f_lenL (k13 _ _ ha) ?_
  refine v_call ?_
  refine a_cons ?_
  refine v_app ?_
  refine a_cons ?_
  refine v_var rfl ?_
  refine a_nil ?_
  refine f_lenL (k13 _ _ ha) ?_
  refine a_nil ?_
  refine ⟨rfl, ?_⟩
  refine lift_ok (k := k + 18) (by omega) ?_
  intro L hL
  simp only [natD]
  refine o_mul (mul_l ⟨by omega, by omega⟩) ?_
  refine o_le ?_
  have h2 := ms_hi (lt := ltI ranks) L (List.range rows.length) (by rw [List.length_range]; exact hL)
  rw [List.length_range] at h2
  have e : (rows.length : Int) * (L : Int) = ((rows.length * L : Nat) : Int) := (Int.natCast_mul _ _).symm
  rw [e, decide_eq_true (by omega : (((ms (ltI ranks) (List.range rows.length)).2 : Nat) : Int) ≤ ((rows.length * L : Nat) : Int))]
  sizeOf_list_dec
  exact q S3 k13
end
section
set_option maxHeartbeats 1000000 -- wide
variable {S : Sto} {Q : D → Sto → Prop} {k a b : Nat}
theorem one_ok {rows ranks : List D} {ws : List Nat} (hws : ws.length ≤ 1000000) (hR : Rws ws ranks) (hl : rows.length = ranks.length) (hz : rows.length ≤ 60) (ha : S[a]? = some (.lst rows)) (hb : S[b]? = some (.lst ranks)) (hth : ∀ x ∈ rows, Th S x)
    (q : ∀ S', Kp S S' → Q (.bl true) S') : w1 (den (k + 30) ._law_one) [.ref a, .ref b] S Q := by
  have la := lt_of ha
  have lb := lt_of hb
  refine w_body ?_
  unfold b__law_one
  sizeOf_list_dec
  have hm1 : (S ++ [O.lst rows] ++ [O.lst ranks])[S.length]? = some (.lst rows) := lk_app lk_new
  have hm2 : (S ++ [O.lst rows] ++ [O.lst ranks])[(S ++ [O.lst rows]).length]? = some (.lst ranks) := lk_new
  have k0 : Kp S (S ++ [O.lst rows] ++ [O.lst ranks]) := Kp.refl.app.app
  have n1 : S[S.length]? = none := none_len
  have n2 : S[(S ++ [O.lst rows]).length]? = none := none_len2 (by simp)
  have ne12 : S.length ≠ (S ++ [O.lst rows]).length := by simp
  generalize (S ++ [O.lst rows]).length = m2 at *
  generalize S.length = m1 at *
  generalize S ++ [O.lst rows] ++ [O.lst ranks] = T0 at *
  refine sorted_counted_ok (k := k + 21) hR hl hz hm1 hm2 ?_
  intro c T1 k1 hc hcn
  have k01 := k0.trans k1
  refine g_name ?_
  refine th_nx ?_
  refine s_seq ?_
  sizeOf_list_dec
  refine good_ok (k := k + 9) (c := c) hR hl hz (k01 _ _ ha) (k01 _ _ hb) (fun x hx => (hth x hx).kp k01) ⟨rfl, hc⟩ ?_
  intro T2 k2
  have k02 := k01.trans k2
  have m12 := (k1.trans k2) _ _ hm1
  have m22 := (k1.trans k2) _ _ hm2
  sizeOf_list_dec
  refine iff_f ?_
  refine c_or ?_
  refine c_not ?_
  refine c_tru ?_
  refine v_call ?_
  refine a_cons ?_
  refine v_var rfl ?_
  refine a_cons ?_
  refine v_app ?_
  refine a_cons ?_
  refine v_var rfl ?_
  refine a_nil ?_
  refine f_listL (k02 _ _ ha) ?_
  refine a_nil ?_
  refine ⟨rfl, ?_⟩
  refine same_ok (ths_sm (S := T2 ++ [.lst rows]) (fun x hx => (hth x hx).kp k02.app) (by omega) (lk_app m12) lk_new) (k + 29) (by omega) _ _ Kp.refl ?_
  intro T3 k3
  have k23 : Kp T2 T3 := fun i o e => k3 i o (lk_app e)
  have k03 := k02.trans k23
  sizeOf_list_dec
  refine iff_f ?_
  refine c_not ?_
  refine c_tru ?_
  refine v_call ?_
  refine a_cons ?_
  refine v_var rfl ?_
  refine a_cons ?_
  refine v_app ?_
  refine a_cons ?_
  refine v_var rfl ?_
  refine a_nil ?_
  refine f_listL (k03 _ _ hb) ?_
  refine a_nil ?_
  refine ⟨rfl, ?_⟩
  refine same_ok (rws_sm (S := T3 ++ [.lst ranks]) hws hR (by omega) (lk_app (k23 _ _ m22)) lk_new) (k + 29) (by omega) _ _ Kp.refl ?_
  intro T4 k4
  have k34 : Kp T3 T4 := fun i o e => k4 i o (lk_app e)
  have k04 := k03.trans k34
  have k24 := k23.trans k34
  have hc4 := k24 _ _ (k2 _ _ hc)
  have m14 := k24 _ _ m12
  have m24 := k24 _ _ m22
  have ncm1 : m1 ≠ c := fun z => by subst z; rw [hm1] at hcn; cases hcn
  have ncm2 : m2 ≠ c := fun z => by subst z; rw [hm2] at hcn; cases hcn
  have scn : S[c]? = none := by
    cases e : S[c]? with
    | none => rfl
    | some o => have := k0 _ _ e; rw [hcn] at this; cases this
  have lL := ms_len (lt := ltI ranks) (List.range rows.length)
  rw [List.length_range] at lL
  sizeOf_list_dec
  refine iff_f ?_
  sizeOf_list_dec
  refine ⟨ty_lst hc4, ?_⟩
  sizeOf_list_dec
  refine m_append hc4 (by simp only [List.length_map, sizeLine]; omega) ?_
  have k05 : Kp S (T4.set c (.lst ((ms (ltI ranks) (List.range rows.length)).1.map (rkN rows) ++ [.str "spoilt"]))) := k04.set scn
  have m15 : (T4.set c (.lst ((ms (ltI ranks) (List.range rows.length)).1.map (rkN rows) ++ [.str "spoilt"])))[m1]? = some (.lst rows) := lk_ne ncm1 m14
  have m25 : (T4.set c (.lst ((ms (ltI ranks) (List.range rows.length)).1.map (rkN rows) ++ [.str "spoilt"])))[m2]? = some (.lst ranks) := lk_ne ncm2 m24
  generalize T4.set c (.lst ((ms (ltI ranks) (List.range rows.length)).1.map (rkN rows) ++ [.str "spoilt"])) = T5 at *
  refine th_nx ?_
  refine s_seq ?_
  refine s_if ?_
  refine c_not ?_
  refine c_tru ?_
  refine v_call ?_
  refine a_cons ?_
  refine v_var rfl ?_
  refine a_cons ?_
  refine v_app ?_
  refine a_cons ?_
  refine v_var rfl ?_
  refine a_nil ?_
  refine f_listL (k05 _ _ ha) ?_
  refine a_nil ?_
  refine ⟨rfl, ?_⟩
  refine same_ok (ths_sm (S := T5 ++ [.lst rows]) (fun x hx => (hth x hx).kp k05.app) (by omega) (lk_app m15) lk_new) (k + 29) (by omega) _ _ Kp.refl ?_
  intro T6 k6
  have k56 : Kp T5 T6 := fun i o e => k6 i o (lk_app e)
  have k06 := k05.trans k56
  sizeOf_list_dec
  refine iff_f ?_
  refine s_nx ?_
  refine th_nx ?_
  refine s_seq ?_
  refine s_asg ?_
  refine v_callK ?_
  sizeOf_list_dec
  show w1 (den (k + 29) .sorted_counted) [.ref m1, .ref m2] _ _
  refine sorted_counted_ok (k := k + 21) hR hl hz (k56 _ _ m15) (k56 _ _ m25) ?_
  intro c2 T7 k7 hc7 hcn7
  have k07 := k06.trans k7
  refine g_name ?_
  refine th_nx ?_
  refine s_seq ?_
  sizeOf_list_dec
  refine good_ok (k := k + 9) (c := c2) hR hl hz (k07 _ _ ha) (k07 _ _ hb) (fun x hx => (hth x hx).kp k07) ⟨rfl, hc7⟩ ?_
  intro T8 k8
  have k08 := k07.trans k8
  have m18 := k8 _ _ (k7 _ _ (k56 _ _ m15))
  have m28 := k8 _ _ (k7 _ _ (k56 _ _ m25))
  have hc8 := k8 _ _ hc7
  have nc1 : m1 ≠ c2 := fun z => by subst z; rw [k56 _ _ m15] at hcn7; cases hcn7
  have nc2 : m2 ≠ c2 := fun z => by subst z; rw [k56 _ _ m25] at hcn7; cases hcn7
  sizeOf_list_dec
  refine iff_f ?_
  refine s_nx ?_
  refine th_nx ?_
  refine s_cut (fun γ T => γ = [some (.ref a), some (.ref b), some (.ref m1), some (.ref m2), some (.tup [.ref c, natD (ms (ltI ranks) (List.range rows.length)).2]), some (.tup [.ref c2, natD (ms (ltI ranks) (List.range rows.length)).2])] ∧ Kp S T ∧ T[c2]? = some (.lst ((ms (ltI ranks) (List.range rows.length)).1.map (rkN rows)))) ?_ ?_
  · sizeOf_list_dec
    refine iff_d (fun h0 => ?_) (fun _ => ?_)
    · sizeOf_list_dec
      have h00 : 0 < rows.length := by omega
      refine ⟨rows, m18, 0, by simp [ixN, h00], ?_⟩
      have m29 : (T8.set m1 (.lst (rows.set 0 (.str "other"))))[m2]? = some (.lst ranks) := lk_ne (Ne.symm ne12) m28
      sizeOf_list_dec
      refine ⟨ty_lst m29, ?_⟩
      sizeOf_list_dec
      refine m_rev m29 ?_
      sizeOf_list_dec
      exact ⟨rfl, rfl, (k08.set n1).set n2, lk_ne (Ne.symm nc2) (lk_ne (Ne.symm nc1) hc8)⟩
    · sizeOf_list_dec
      exact ⟨rfl, rfl, k08, hc8⟩
  rintro γ T9 ⟨rfl, k09, hc9⟩
  sizeOf_list_dec
  refine good_ok (k := k + 9) (c := c2) hR hl hz (k09 _ _ ha) (k09 _ _ hb) (fun x hx => (hth x hx).kp k09) ⟨rfl, hc9⟩ ?_
  intro T10 k10
  sizeOf_list_dec
  exact q T10 (k09.trans k10)
theorem cut_any (l : List D) (h : Nat) : cutX l (some (h : Int)) none = l.drop h ∧ cutX l none (some (h : Int)) = l.take h := by
  rcases Nat.lt_or_ge l.length h with g | g
  · constructor
    · rw [List.drop_of_length_le (by omega)]
      simp only [cutX, HT.sIx_nat, HT.sIx_none]
      rw [Nat.min_eq_right (by omega)]
      simp
    · rw [List.take_of_length_le (by omega)]
      simp only [cutX, HT.sIx_nat, HT.sIx_none]
      rw [Nat.min_eq_right (by omega)]
      simp
  · exact cut_two l h g
theorem good : Good := by
  intro ns hns
  have main : w1 (den 100 .law) [.rl (ns.map D.int)] [] fun d _ => d = .bl true := by
    refine w_body ?_
    unfold b_law
    sizeOf_list_dec
    refine deal_ok hns ?_
    intro p S0 _ hp0 _
    sizeOf_list_dec
    refine ⟨⟨by decide, by decide⟩, ?_⟩
    refine for_rng (N := 2) (fun j γ T => ∃ x2 x3 x4 x5, γ = [some (.rl (ns.map D.int)), some (.ref p), x2, x3, x4, x5] ∧ Dk p T) ?_ ?_ ⟨_, _, _, _, rfl, hp0⟩
    · rintro j γ T hj ⟨x2, x3, x4, x5, rfl, hp⟩
      sizeOf_list_dec
      refine scene_ok (k := 96) hp ?_
      intro a b T1 rows ranks ws ha hb hl hz hth hR hws na nb _ hp1
      have dk : ∀ {T T' : Sto}, Dk p T → Kp T T' → Dk p T' := fun ⟨ns, e⟩ k => ⟨ns, k _ _ e⟩
      have c1 : ∀ l : List D, cutX l none (some 1) = l.take 1 := fun l => (cut_any l 1).2
      have c2 : ∀ l : List D, cutX l (some 1) none = l.drop 1 := fun l => (cut_any l 1).1
      have c3 : ∀ l : List D, cutX l none (some 3) = l.take 3 := fun l => (cut_any l 3).2
      sizeOf_list_dec
      refine one_ok (k := 69) (by omega) hR hl hz ha hb hth ?_
      intro T2 k2
      have ha2 := k2 _ _ ha
      have hb2 := k2 _ _ hb
      have hp2 := dk hp1 k2
      have hth2 : ∀ x ∈ rows, Th T2 x := fun x hx => (hth x hx).kp k2
      clear hth hp1 ha hb k2
      sizeOf_list_dec
      refine iff_f ?_
      refine s_nx ?_
      refine th_nx ?_
      refine s_cut (fun γ T => γ = [some (.rl (ns.map D.int)), some (.ref p), some (.int j), some (.ref a), some (.ref b), x5] ∧ Kp T2 T) ?_ ?_
      · sizeOf_list_dec
        refine iff_d (fun h0 => ?_) (fun _ => ?_)
        · sizeOf_list_dec
          refine sl_l ha2 ?_
          rw [c1]
          sizeOf_list_dec
          refine sl_l (lk_app hb2) ?_
          rw [c1]
          sizeOf_list_dec
          refine one_ok (k := 69) (ws := ws) (by omega) (hR.sub fun x hx => List.mem_of_mem_take hx) (by simp only [List.length_take]; omega) (by simp only [List.length_take]; omega) (lk_app lk_new) lk_new (fun x hx => (hth2 x (List.mem_of_mem_take hx)).kp Kp.refl.app.app) ?_
          intro T3 k3
          sizeOf_list_dec
          refine iff_f ?_
          sizeOf_list_dec
          exact ⟨rfl, rfl, fun i o e => k3 i o (lk_app (lk_app e))⟩
        · sizeOf_list_dec
          refine iff_f ?_
          sizeOf_list_dec
          exact ⟨rfl, rfl, Kp.refl⟩
      rintro γ T3 ⟨rfl, k3⟩
      have ha3 := k3 _ _ ha2
      have hb3 := k3 _ _ hb2
      have hth3 : ∀ x ∈ rows, Th T3 x := fun x hx => (hth2 x hx).kp k3
      refine s_cut (fun γ T => γ = [some (.rl (ns.map D.int)), some (.ref p), some (.int j), some (.ref a), some (.ref b), x5] ∧ Kp T3 T) ?_ ?_
      · sizeOf_list_dec
        refine sl_l ha3 ?_
        rw [c2]
        sizeOf_list_dec
        refine sl_l (lk_app hb3) ?_
        rw [c2]
        sizeOf_list_dec
        refine one_ok (k := 69) (ws := ws) (by omega) (hR.sub fun x hx => List.mem_of_mem_drop hx) (by simp only [List.length_drop]; omega) (by simp only [List.length_drop]; omega) (lk_app lk_new) lk_new (fun x hx => (hth3 x (List.mem_of_mem_drop hx)).kp Kp.refl.app.app) ?_
        intro T4 k4
        sizeOf_list_dec
        refine iff_f ?_
        sizeOf_list_dec
        exact ⟨rfl, rfl, fun i o e => k4 i o (lk_app (lk_app e))⟩
      rintro γ T4 ⟨rfl, k4⟩
      have ha4 := k4 _ _ ha3
      have hb4 := k4 _ _ hb3
      have hp4 := dk (dk hp2 k3) k4
      have hth4 : ∀ x ∈ rows, Th T4 x := fun x hx => (hth3 x hx).kp k4
      have la4 := lt_of ha4
      sizeOf_list_dec
      refine sl_l ha4 ?_
      rw [c3]
      sizeOf_list_dec
      refine sl_l (lk_app ha4) ?_
      rw [c1]
      sizeOf_list_dec
      have hx0 : ∀ x ∈ rows.take 1, atI rows 0 = some (rkN rows 0) := fun x hx => by
        have : 0 < rows.length := by
          have := List.length_pos_of_mem hx
          rw [List.length_take] at this; omega
        exact rkN_at this
      refine comp_mapT (g := fun _ => rkN rows 0) lk_new ⟨lk_app lk_new, fun m o e => by cases e; simp⟩ ?_ (by simp only [List.length_nil, List.length_take]; omega) ?_
      · intro x hx acc' Q' hQ'
        sizeOf_list_dec
        refine o_ixL (lk_ne (by simp; omega) (lk_app (lk_app (lk_app ha4)))) (hx0 x hx) ?_
        exact hQ'
      rw [List.nil_append]
      have kT : Kp T4 ((T4 ++ [O.lst (rows.take 3)] ++ [O.lst (rows.take 1)] ++ [O.lst []]).set (T4 ++ [O.lst (rows.take 3)] ++ [O.lst (rows.take 1)]).length (.lst ((rows.take 1).map fun _ => rkN rows 0))) := Kp.refl.app.app.app.set (by simp)
      have h3 : ((T4 ++ [O.lst (rows.take 3)] ++ [O.lst (rows.take 1)] ++ [O.lst []]).set (T4 ++ [O.lst (rows.take 3)] ++ [O.lst (rows.take 1)]).length (.lst ((rows.take 1).map fun _ => rkN rows 0)))[T4.length]? = some (.lst (rows.take 3)) := lk_ne (by simp) (lk_app (lk_app lk_new))
      have h1 : ((T4 ++ [O.lst (rows.take 3)] ++ [O.lst (rows.take 1)] ++ [O.lst []]).set (T4 ++ [O.lst (rows.take 3)] ++ [O.lst (rows.take 1)]).length (.lst ((rows.take 1).map fun _ => rkN rows 0)))[(T4 ++ [O.lst (rows.take 3)] ++ [O.lst (rows.take 1)]).length]? = some (.lst ((rows.take 1).map fun _ => rkN rows 0)) := lk_set lk_new
      generalize ((T4 ++ [O.lst (rows.take 3)] ++ [O.lst (rows.take 1)] ++ [O.lst []]).set (T4 ++ [O.lst (rows.take 3)] ++ [O.lst (rows.take 1)]).length (.lst ((rows.take 1).map fun _ => rkN rows 0))) = T5 at *
      generalize (T4 ++ [O.lst (rows.take 3)] ++ [O.lst (rows.take 1)]).length = m1 at *
      sizeOf_list_dec
      refine o_addL h3 h1 (by simp only [List.length_map, List.length_take, sizeLine]; omega) ?_
      sizeOf_list_dec
      have hb5 := kT _ _ hb4
      refine sl_l (lk_app hb5) ?_
      rw [c3]
      sizeOf_list_dec
      refine sl_l (lk_app (lk_app hb5)) ?_
      rw [c1]
      sizeOf_list_dec
      refine o_addL (lk_app lk_new) lk_new (by simp only [List.length_take, sizeLine]; omega) ?_
      sizeOf_list_dec
      refine one_ok (k := 69) (ws := ws) (by omega) ((hR.sub fun x hx => List.mem_of_mem_take hx).app (hR.sub fun x hx => List.mem_of_mem_take hx)) (by simp only [List.length_append, List.length_map, List.length_take]; omega) (by simp only [List.length_append, List.length_map, List.length_take]; omega) (lk_app (lk_app (lk_app lk_new))) lk_new ?_ ?_
      · intro x hx
        have kk : Kp T4 (T5 ++ [O.lst (rows.take 3 ++ (rows.take 1).map fun _ => rkN rows 0)] ++ [O.lst (ranks.take 3)] ++ [O.lst (ranks.take 1)] ++ [O.lst (ranks.take 3 ++ ranks.take 1)]) := kT.app.app.app.app
        rcases memA hx with hx | hx
        · exact (hth4 x (List.mem_of_mem_take hx)).kp kk
        · obtain ⟨y, hy, rfl⟩ := List.mem_map.mp hx
          have := hx0 y hy
          have h0 : 0 < rows.length := by
            have := List.length_pos_of_mem hy
            rw [List.length_take] at this; omega
          have e : rkN rows 0 = rows[0] := by unfold rkN; simp [h0]
          have hk := (hth4 _ (List.getElem_mem h0)).kp kk
          rw [← e] at hk
          exact hk
      intro T6 k6
      sizeOf_list_dec
      refine iff_f ?_
      sizeOf_list_dec
      exact ⟨_, _, _, _, rfl, dk hp4 fun i o e => k6 i o (lk_app (lk_app (lk_app (lk_app (kT i o e)))))⟩
    · rintro γ T ⟨x2, x3, x4, x5, rfl, hp⟩
      sizeOf_list_dec
      refine one_ok (k := 69) (ws := []) (rows := []) (ranks := []) (by simp) (fun x hx => by cases hx) rfl (by simp) (lk_app lk_new) lk_new (fun x hx => by cases hx) ?_
      intro T' _
      sizeOf_list_dec
      rfl
  obtain ⟨d, S, e, rfl⟩ := main
  exact ⟨S, e⟩
end
end Gn
set_option maxHeartbeats 4000000 -- wide
namespace Gn
open L2 PyProof.Rows PySem PySem.Spec Ml
theorem walk (good : Good) {l : PySem.W.OpenLaw} {q : Program} {loose : List Str} {XP : (Str → Option Value) → Heap → Prop} {YP : World → Heap → Prop} {d : DefRec} (hn : l.most = some 63) (hdf : d.params.defaults = []) (hd : d.name = "law")
    (F : ∀ (w : World) (mg : Str → Option Value) (h : Heap), YP w h → h.Ns mainGlobals mg → ∃ (K1 : PySem.W.Frag) (T : Txt K1 w mg), K1.In h ∧ ∀ p ∈ T.cs, h.get? p.2 = some (PySem.W.tabObj #[]) ∧ K1.lookup p.2 = none ∧ PySem.W.CodeHd h p.1 p.2) :
    PySem.W.WalkO q loose XP YP l.row.toRowW d [] (fun g us => PySem.call g us) :=
  LamX.walk_ofTsE (n := 63) (k := 100) (x := "_law_script") (CX := fun _ => CX0) hn (by decide) hdf ⟨rfl, by decide, by decide⟩
    (fun w mg fa h Y G hfa => by
      rw [hd] at hfa
      obtain ⟨K1, T, X1, hT⟩ := F w mg h Y G
      have e := hfa.symm.trans (T.mg .law rfl)
      cases e
      refine ⟨K1, X1, T.fd .law, T.cs, spLaw K1 T.tb, fun p hp => (hT p hp).1, fun p hp => (hT p hp).2.1, fun p hp => (hT p hp).2.2, T.lawB, fun H a ns hl _ hH hS => ⟨a, ns, rfl, hl, fun p hp => ?_, hS, fun _ => rfl⟩, fun base _ _ hTB => fn_law ((all_ok T 100 base hTB).f .law rfl) good⟩
      have : p.1 ∈ T.cs.map (·.2) := by
        have h2 : p.1 ∈ T.tb.map (·.1) := List.mem_map.mpr ⟨p, hp, rfl⟩
        exact h2
      obtain ⟨p2, hp2, e⟩ := List.mem_map.mp this
      rw [← e]
      exact hH p2 hp2)
    fun _ _ _ _ _ z => z
abbrev R : PySem.W.OpenRow := PySem.W.OpenLaw.row PySem.Challenge.rw_leastplans_k69_sorted_counted_by_halves
abbrev hk : PySem.W.Hook := He.hookX 4 faL fnL tsL tfL exL
end Gn
open PySem PySem.Calls PySem.W PyProof.Rows
theorem PySem.Challenge.cw_leastplans_k69_sorted_counted_by_halves_holds : PySem.Challenge.rw_leastplans_k69_sorted_counted_by_halves.Holds := by
  w_on; o_law
  o_head Gn.hk
  case hw => w_witness2
  case hc =>
    refine Gn.walk Gn.good (l := PySem.Challenge.rw_leastplans_k69_sorted_counted_by_halves) rfl (by kernel_rfl) (by kernel_rfl) ?F
    intro w mg h Y G
    obtain ⟨K, KX, c⟩ := Y
    obtain ⟨T, hT⟩ := Gn.mk_txt KX G c
    exact ⟨K, T, KX, hT⟩

