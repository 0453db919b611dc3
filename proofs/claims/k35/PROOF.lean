import PyProof.Rows.All
import Wide.All
import OpenK.AllK
import Wide.FinOn
import HandS.Base
import HandS.Call
import HandS.List
import HandS.Comp
import HandS.Ends
import HandS.Dict
import HandS.Iter
import HandS.Text
import HandS.Words
import HandS.WordsList
import HandS.WordsDict
import HandS.Deep
import HandS.IsInst
import HandS.TupAny
import HandS.TupLe
import HandS.Wide
import HandS.Rev
import HandS.Style
import HandS.Conv
import KE.KDictKeyed
import HandS.Lambda
import HandS.Nested
import HandS.NestedK
import HandS.More
import HandS.RevTup
import KE.KDictList
import HandS.CallLocal
import HandS.EndTab
import KE.KNestM
import HandS.AnyAll
import HandS.HeadWalk
import HandS.Head0
import HandS.Head1
import HandS.Head2
import HandS.HeadHook1
import HandS.HeadHook2
import HandS.HeadHook3
import HandS.HeadHook4
import HandS.TryOnly
import PySem.Challenge.RW_leastplans_k35_possible_truths
set_option Elab.async false
set_option linter.all false
set_option maxRecDepth 100000
/-! Ml: values by content, a store of what may change, and what a piece of a program computes over them. -/
namespace Ml
open L2 PyProof.Rows PySem PySem.Spec
/-- the written part, the program, the world -/
structure Kx where
  f : PySem.W.Frag
  p : Program
  w : World
  b : Heap
  t : List NdefX.NTab
abbrev kx (tb : List NdefX.NTab) (X : Cx) : Kx := ⟨X.K, X.prog, X.w, X.base, tb⟩
/-- a def within a def -/
structure NDef where
  name : Str
  qual : Str
  st : Stmt
  ps : List Str
  fr : List Str
abbrev NDef.nf (n : NDef) (cl : List (Str × Addr)) (c : Addr) : NdefX.NF := NdefX.NF.of n.st n.name n.qual cl c
/-- a value: what never changes by its content, what may change by its number in the store -/
inductive D where
  | non | bl (b : Bool) | int (i : Int) | str (z : Str) | tup (xs : List D) | rl (xs : List D) | ref (n : Nat) | gl (z : Str)
/-- what may change -/
inductive O : Type where
  | lst (xs : List D)
  | dk (kvs : List (Key × D))
  | dn (lk : Bool) (kvs : List (D × D))
  | ins (C : Addr) (fs : List (Str × D))
  | dkl (kvs : List (Key × D))
  | fn (id : Nat) (nd : NDef) (ws : List D)
  | junk
abbrev Sto := List O
abbrev Sl := List (Option D)
/-- a list that nothing changes (the script that a law is handed) -/
def RoL (K : PySem.W.Frag) (H : Hp) (a : Addr) (xs : List V) : Prop := (∃ o, H a = some (.frz o (.lst xs))) ∨ ∀ H' : Hp, SqL K H' a xs
theorem RoL.sq {K : PySem.W.Frag} {H : Hp} {a : Addr} {xs : List V} (h : RoL K H a xs) : SqL K H a xs := by
  rcases h with ⟨o, h⟩ | h
  · exact .inl (.inr ⟨o, h⟩)
  · exact h H
mutual
/-- v is the value d in the heap H, m telling where the store's things stand -/
def Rp (K : Kx) (H : Hp) (m : List Addr) : D → V → Prop
  | .non, v => v = .non
  | .bl b, v => v = .bl b
  | .int i, v => v = .int i
  | .str z, v => v = .str z
  | .tup xs, v => ∃ a vs, v = .ref a ∧ SqT K.f H a vs ∧ Rps K H m xs vs
  | .rl xs, v => ∃ a vs, v = .ref a ∧ RoL K.f H a vs ∧ Rps K H m xs vs
  | .ref n, v => ∃ a, m[n]? = some a ∧ v = .ref a
  | .gl z, v => ∃ a, v = .ref a ∧ PySem.W.nsIn K.f mainGlobals z = some (some (.ref a))
def Rps (K : Kx) (H : Hp) (m : List Addr) : List D → List V → Prop
  | [], vs => vs = []
  | x :: xs, vs => ∃ v r, vs = v :: r ∧ Rp K H m x v ∧ Rps K H m xs r
end
/-- later: more things, all tuples as they were -/
structure Ext0 (K : Kx) (H : Hp) (m : List Addr) (H' : Hp) (m' : List Addr) : Prop where
  pre : ∃ r, m' = m ++ r
  tup : ∀ a vs, SqT K.f H a vs → SqT K.f H' a vs
  rol : ∀ a vs, RoL K.f H a vs → RoL K.f H' a vs
/-- .. and what is locked stays as it is -/
structure Ext (K : Kx) (H : Hp) (m : List Addr) (H' : Hp) (m' : List Addr) : Prop extends Ext0 K H m H' m' where
  frz : ∀ a od u, H a = some (.frz od u) → H' a = some (.frz od u)
theorem Ext.refl {K H m} : Ext K H m H m := ⟨⟨⟨[], by simp⟩, fun _ _ h => h, fun _ _ h => h⟩, fun _ _ _ h => h⟩
theorem Ext0.trans {K H m H1 m1 H2 m2} (a : Ext0 K H m H1 m1) (b : Ext0 K H1 m1 H2 m2) : Ext0 K H m H2 m2 := by
  obtain ⟨⟨r, rfl⟩, t, u⟩ := a
  obtain ⟨⟨r', rfl⟩, t', u'⟩ := b
  exact ⟨⟨r ++ r', by simp⟩, fun x vs h => t' x vs (t x vs h), fun x vs h => u' x vs (u x vs h)⟩
theorem Ext.trans {K H m H1 m1 H2 m2} (a : Ext K H m H1 m1) (b : Ext K H1 m1 H2 m2) : Ext K H m H2 m2 := ⟨a.toExt0.trans b.toExt0, fun x o u h => b.frz x o u (a.frz x o u h)⟩
theorem Ext.get {K H m H' m'} (e : Ext K H m H' m') {n : Nat} {a : Addr} (h : m[n]? = some a) : m'[n]? = some a := by
  obtain ⟨⟨⟨r, rfl⟩, _⟩, _⟩ := e
  obtain ⟨hl, _⟩ := List.getElem?_eq_some_iff.mp h
  rw [List.getElem?_append_left hl]
  exact h
mutual
theorem Rp.mono0 {K H m H' m'} (e : Ext0 K H m H' m') : ∀ (d : D) (v : V), Rp K H m d v → Rp K H' m' d v
  | .non, v, h => by simpa [Rp] using h
  | .bl b, v, h => by simpa [Rp] using h
  | .int i, v, h => by simpa [Rp] using h
  | .str z, v, h => by simpa [Rp] using h
  | .tup xs, v, h => by
    rw [Rp] at h ⊢
    obtain ⟨a, vs, r, s, q⟩ := h
    exact ⟨a, vs, r, e.tup a vs s, Rps.mono0 e xs vs q⟩
  | .rl xs, v, h => by
    rw [Rp] at h ⊢
    obtain ⟨a, vs, r, s, q⟩ := h
    exact ⟨a, vs, r, e.rol a vs s, Rps.mono0 e xs vs q⟩
  | .ref n, v, h => by
    rw [Rp] at h ⊢
    obtain ⟨a, r, s⟩ := h
    obtain ⟨⟨z, rfl⟩, _⟩ := e
    obtain ⟨hl, _⟩ := List.getElem?_eq_some_iff.mp r
    exact ⟨a, by rw [List.getElem?_append_left hl]; exact r, s⟩
  | .gl z, v, h => by simpa [Rp] using h
theorem Rps.mono0 {K H m H' m'} (e : Ext0 K H m H' m') : ∀ (d : List D) (v : List V), Rps K H m d v → Rps K H' m' d v
  | [], v, h => by simpa [Rps] using h
  | x :: xs, v, h => by
    rw [Rps] at h ⊢
    obtain ⟨w, r, q, s, t⟩ := h
    exact ⟨w, r, q, Rp.mono0 e x w s, Rps.mono0 e xs r t⟩
end
theorem Rp.mono {K H m H' m'} (e : Ext K H m H' m') (d : D) (v : V) (h : Rp K H m d v) : Rp K H' m' d v := Rp.mono0 e.toExt0 d v h
theorem Rps.mono {K H m H' m'} (e : Ext K H m H' m') (d : List D) (v : List V) (h : Rps K H m d v) : Rps K H' m' d v := Rps.mono0 e.toExt0 d v h
section
variable {K : Kx} {H : Hp} {m : List Addr}
theorem Rps.length : ∀ {xs : List D} {vs : List V}, Rps K H m xs vs → vs.length = xs.length
  | [], vs, h => by rw [Rps] at h; subst h; rfl
  | x :: xs, vs, h => by
    rw [Rps] at h
    obtain ⟨w, r, rfl, _, t⟩ := h
    simp [Rps.length t]
theorem Rps.get : ∀ {xs : List D} {vs : List V} {i : Nat} {x : D}, Rps K H m xs vs → xs[i]? = some x → ∃ v, vs[i]? = some v ∧ Rp K H m x v
  | [], vs, i, x, h, e => by simp at e
  | y :: xs, vs, 0, x, h, e => by
    rw [Rps] at h
    obtain ⟨w, r, rfl, s, t⟩ := h
    simp at e; subst e
    exact ⟨w, rfl, s⟩
  | y :: xs, vs, i + 1, x, h, e => by
    rw [Rps] at h
    obtain ⟨w, r, rfl, s, t⟩ := h
    have e' : xs[i]? = some x := by simpa using e
    obtain ⟨v, a, b⟩ := Rps.get (i := i) t e'
    exact ⟨v, by simpa using a, b⟩
theorem Rps.getV {xs : List D} {vs : List V} {i : Nat} {v : V} (h : Rps K H m xs vs) (e : vs[i]? = some v) : ∃ x, xs[i]? = some x ∧ Rp K H m x v := by
  obtain ⟨hl, _⟩ := List.getElem?_eq_some_iff.mp e
  have hx : i < xs.length := by rw [← h.length]; exact hl
  obtain ⟨w, a, b⟩ := h.get (List.getElem?_eq_getElem hx)
  rw [a] at e; cases e
  exact ⟨_, List.getElem?_eq_getElem hx, b⟩
theorem Rps.append : ∀ {xs ys : List D} {vs ws : List V}, Rps K H m xs vs → Rps K H m ys ws → Rps K H m (xs ++ ys) (vs ++ ws)
  | [], ys, vs, ws, h, g => by rw [Rps] at h; subst h; exact g
  | x :: xs, ys, vs, ws, h, g => by
    rw [Rps] at h
    obtain ⟨w, r, rfl, s, t⟩ := h
    show Rps K H m (x :: (xs ++ ys)) _
    rw [Rps]
    exact ⟨w, r ++ ws, rfl, s, Rps.append t g⟩
theorem Rps.one {x : D} {v : V} (h : Rp K H m x v) : Rps K H m [x] [v] := by
  rw [Rps]; exact ⟨v, [], rfl, h, by rw [Rps]⟩
theorem Rps.cons {x : D} {v : V} {xs : List D} {vs : List V} (h : Rp K H m x v) (g : Rps K H m xs vs) : Rps K H m (x :: xs) (v :: vs) := by
  rw [Rps]; exact ⟨v, vs, rfl, h, g⟩
theorem Rps.nil : Rps K H m [] [] := by rw [Rps]
theorem Rps.take : ∀ (n : Nat) {xs : List D} {vs : List V}, Rps K H m xs vs → Rps K H m (xs.take n) (vs.take n)
  | 0, xs, vs, h => by simpa using Rps.nil
  | n + 1, [], vs, h => by rw [Rps] at h; subst h; simpa using Rps.nil
  | n + 1, x :: xs, vs, h => by
    rw [Rps] at h
    obtain ⟨w, r, rfl, s, t⟩ := h
    simpa using Rps.cons s (Rps.take n t)
theorem Rps.drop : ∀ (n : Nat) {xs : List D} {vs : List V}, Rps K H m xs vs → Rps K H m (xs.drop n) (vs.drop n)
  | 0, xs, vs, h => by simpa using h
  | n + 1, [], vs, h => by rw [Rps] at h; subst h; simpa using Rps.nil
  | n + 1, x :: xs, vs, h => by
    rw [Rps] at h
    obtain ⟨w, r, rfl, s, t⟩ := h
    simpa using Rps.drop n t
theorem Rps.reverse {xs : List D} {vs : List V} (h : Rps K H m xs vs) : Rps K H m xs.reverse vs.reverse := by
  induction xs generalizing vs with
  | nil => rw [Rps] at h; subst h; exact Rps.nil
  | cons x xs ih =>
    rw [Rps] at h
    obtain ⟨w, r, rfl, s, t⟩ := h
    rw [List.reverse_cons]; rw [List.reverse_cons]
    exact (ih t).append (Rps.one s)
theorem Rps.set {x : D} {v : V} (h : Rp K H m x v) : ∀ (n : Nat) {xs : List D} {vs : List V}, Rps K H m xs vs → Rps K H m (xs.set n x) (vs.set n v)
  | n, [], vs, g => by rw [Rps] at g; subst g; simpa using Rps.nil
  | 0, y :: xs, vs, g => by
    rw [Rps] at g
    obtain ⟨w, r, rfl, s, t⟩ := g
    simpa using Rps.cons h t
  | n + 1, y :: xs, vs, g => by
    rw [Rps] at g
    obtain ⟨w, r, rfl, s, t⟩ := g
    simpa using Rps.cons s (Rps.set h n t)
theorem Rps.rep {x : D} {v : V} (h : Rp K H m x v) : ∀ n : Nat, Rps K H m (List.replicate n x) (List.replicate n v)
  | 0 => Rps.nil
  | n + 1 => by rw [List.replicate_succ, List.replicate_succ]; exact Rps.cons h (Rps.rep h n)
end
/-- values by key -/
def Rkv {κ : Type} (K : Kx) (H : Hp) (m : List Addr) : List (κ × D) → List (κ × V) → Prop := Paired fun p q => p.1 = q.1 ∧ Rp K H m p.2 q.2
theorem Rkv.mono0 {κ : Type} {K H m H' m'} (e : Ext0 K H m H' m') {a : List (κ × D)} {b : List (κ × V)} (h : Rkv K H m a b) : Rkv K H' m' a b :=
  Paired.mapP h fun _ _ q => ⟨q.1, q.2.mono0 e⟩
theorem Rkv.mono {κ : Type} {K H m H' m'} (e : Ext K H m H' m') {a : List (κ × D)} {b : List (κ × V)} (h : Rkv K H m a b) : Rkv K H' m' a b := Rkv.mono0 e.toExt0 h
mutual
/-- a value as a key of a dict -/
def nk : D → Option NestedKey
  | .non => some .none
  | .bl b => some (.num (if b = true then 1 else 0))
  | .int i => some (.num i)
  | .str z => some (.text z)
  | .tup xs => match nks xs with
    | some ks => some (.tup ks)
    | none => none
  | .rl _ => none
  | .ref _ => none
  | .gl _ => none
def nks : List D → Option (List NestedKey)
  | [] => some []
  | x :: xs => match nk x, nks xs with
    | some k, some ks => some (k :: ks)
    | _, _ => none
end
/-- the object of a dict whose keys are tuples -/
def dnF (P : Program) (w : World) (a : Addr) (xs : List (NestedKey × Addr × V)) : Heap → Prop := fun h => (a == sysModules) = false ∧ xs.length ≤ sizeLine ∧
  ∃ ys : List (NestedKey × Addr × Value), Paired (fun (p : NestedKey × Addr × V) (q : NestedKey × Addr × Value) => p.1 = q.1 ∧ p.2.1 = q.2.1 ∧ RelV p.2.2 q.2.2) xs ys ∧
    ∃ o es ep, h.get? a = some o ∧ o.ExactDict ∧ o.data = .dict es ep ∧ es.toList = ys.map (entryOfKey (nestedKind P w)) ∧ (ys.map (·.1)).Nodup
/-- its entries -/
def Rdn (K : Kx) (H : Hp) (m : List Addr) : List (D × D) → List (NestedKey × Addr × V) → Prop :=
  Paired fun p q => nk p.1 = some q.1 ∧ q.1.depth ≤ 8 ∧ Rp K H m p.1 (.ref q.2.1) ∧ Rp K H m p.2 q.2.2
theorem Rdn.mono0 {K H m H' m'} (e : Ext0 K H m H' m') {a : List (D × D)} {b : List (NestedKey × Addr × V)} (h : Rdn K H m a b) : Rdn K H' m' a b :=
  Paired.mapP h fun _ _ q => ⟨q.1, q.2.1, q.2.2.1.mono0 e, q.2.2.2.mono0 e⟩
theorem Rdn.mono {K H m H' m'} (e : Ext K H m H' m') {a : List (D × D)} {b : List (NestedKey × Addr × V)} (h : Rdn K H m a b) : Rdn K H' m' a b := Rdn.mono0 e.toExt0 h
/-- no tuple -/
def NoTup : HO → Prop
  | .tup _ => False
  | .frz _ (.tup _) => False
  | .frz _ (.lst _) => False
  | .tbl _ => False
  | _ => True
/-- cells that hold these values, in the part of the heap that stays -/
structure CellsIn (b : Heap) (cl : List (Str × Addr)) (fr : List Str) (vs : List V) : Prop where
  inj : ∀ y z c, cl.lookup y = some c → cl.lookup z = some c → y = z
  all : ∀ y c, cl.lookup y = some c → ∃ v, b.IsCell c v
  len : vs.length = fr.length
  has : ∀ (i : Nat) (y : Str), fr[i]? = some y → ∃ c, cl.lookup y = some c ∧ ∀ v, vs[i]? = some v → ∃ u, RelV v u ∧ b.IsCell c (some u)
/-- what stands at a -/
def OR (K : Kx) (H : Hp) (m : List Addr) (a : Addr) : O → Prop
  | .lst xs => ∃ vs, H a = some (.lst vs) ∧ Rps K H m xs vs
  | .dk kvs => ∃ ws, H a = some (.dK ws) ∧ Rkv K H m kvs ws
  | .dn false kvs => ∃ xs, H a = some (.ext (dnF K.p K.w a xs)) ∧ Rdn K H m kvs xs
  | .dn true kvs => ∃ od xs, H a = some (.frz od (.ext (dnF K.p K.w a xs))) ∧ Rdn K H m kvs xs
  | .ins C fs => ∃ dx ws, H a = some (.ins C dx ws) ∧ Rkv K H m fs ws
  | .dkl kvs => ∃ od ws, H a = some (.frz od (.dK ws)) ∧ Rkv K H m kvs ws
  | .fn _ nd ws => ∃ cl c vs, H a = some (NdefX.FnO a (nd.nf cl c)) ∧ H c = some (LamX.CodeO c nd.qual) ∧ c ∉ m ∧ CellsIn K.b cl nd.fr vs ∧ Rps K H m ws vs
  | .junk => ∃ F : NdefX.NF, H a = some (NdefX.FnO a F)
/-- the tables of code objects, none of these in the store -/
def TbOk (t : List NdefX.NTab) (H : Hp) (m : List Addr) : Prop := ∀ p ∈ t, ∃ ps : Array Value, H p.1 = some (.tbl ps) ∧ TriplesOk ps.toList ∧
  ∀ (pos : Pos) (cv : Value), codeAmong pos ps.toList = some cv → ∃ c, cv = .ref c ∧ H c = some (LamX.CodeO c (p.2 pos.line pos.col)) ∧ c ∉ m
/-- the store S stands at m -/
structure SR (K : Kx) (H : Hp) (m : List Addr) (S : Sto) : Prop where
  tb : TbOk K.t H m
  len : m.length = S.length
  nd : m.Nodup
  at_ : ∀ (n : Nat) (a : Addr) (o : O), m[n]? = some a → S[n]? = some o → OR K H m a o
theorem OR.there {K H m a o} (h : OR K H m a o) : ∃ u, H a = some u ∧ NoTup u := by
  cases o with
  | lst xs => obtain ⟨vs, e, _⟩ := h; exact ⟨_, e, trivial⟩
  | dk kvs => obtain ⟨vs, e, _⟩ := h; exact ⟨_, e, trivial⟩
  | dn lk kvs =>
    cases lk with
    | false => obtain ⟨xs, e, _⟩ := h; exact ⟨_, e, trivial⟩
    | true => obtain ⟨od, xs, e, _⟩ := h; exact ⟨_, e, trivial⟩
  | ins C fs => obtain ⟨dx, ws, e, _⟩ := h; exact ⟨_, e, trivial⟩
  | dkl kvs => obtain ⟨od, ws, e, _⟩ := h; exact ⟨_, e, trivial⟩
  | fn i nd ws => obtain ⟨_, _, _, e, _⟩ := h; exact ⟨_, e, True.intro⟩
  | junk => obtain ⟨_, e⟩ := h; exact ⟨_, e, True.intro⟩
theorem SR.addr {K H m S} (h : SR K H m S) {n : Nat} {o : O} (e : S[n]? = some o) : ∃ a, m[n]? = some a ∧ OR K H m a o := by
  obtain ⟨hl, _⟩ := List.getElem?_eq_some_iff.mp e
  have hm : n < m.length := by rw [h.len]; exact hl
  exact ⟨m[n], List.getElem?_eq_getElem hm, h.at_ n _ o (List.getElem?_eq_getElem hm) e⟩
/-- tuples stay -/
theorem sqT_new {K : Kx} {H : Hp} {p : Addr} {o : HO} (hp : H p = none) {a : Addr} {vs : List V} (h : SqT K.f H a vs) : SqT K.f (upd H p o) a vs := by
  rcases h with (h | ⟨ob, h⟩) | h
  · exact .inl (.inl (by rw [upd_ne (ne_of_none h hp)]; exact h))
  · exact .inl (.inr ⟨ob, by rw [upd_ne (ne_of_none h hp)]; exact h⟩)
  · exact .inr h
theorem sqT_upd {K : Kx} {H : Hp} {p : Addr} {o u : HO} (hp : H p = some u) (hm : NoTup u) {a : Addr} {vs : List V} (h : SqT K.f H a vs) : SqT K.f (upd H p o) a vs := by
  have ne : ∀ {w : HO}, H a = some w → ¬ NoTup w → a ≠ p := fun {w} e n z => by subst z; rw [e] at hp; cases hp; exact n hm
  rcases h with (h | ⟨ob, h⟩) | h
  · exact .inl (.inl (by rw [upd_ne (ne h fun z => z)]; exact h))
  · exact .inl (.inr ⟨ob, by rw [upd_ne (ne h fun z => z)]; exact h⟩)
  · exact .inr h
/-- neither a tuple nor locked -/
def Free : HO → Prop
  | .tup _ => False
  | .frz _ _ => False
  | .tbl _ => False
  | _ => True
theorem Free.noTup {u : HO} (h : Free u) : NoTup u := by cases u <;> first | exact h | exact trivial | exact h.elim
theorem rol_new {K : Kx} {H : Hp} {p : Addr} {o : HO} (hp : H p = none) {a : Addr} {vs : List V} (h : RoL K.f H a vs) : RoL K.f (upd H p o) a vs := by
  rcases h with ⟨ob, h⟩ | h
  · exact .inl ⟨ob, by rw [upd_ne (ne_of_none h hp)]; exact h⟩
  · exact .inr h
theorem rol_upd {K : Kx} {H : Hp} {p : Addr} {o u : HO} (hp : H p = some u) (hm : NoTup u) {a : Addr} {vs : List V} (h : RoL K.f H a vs) : RoL K.f (upd H p o) a vs := by
  rcases h with ⟨ob, h⟩ | h
  · exact .inl ⟨ob, by rw [upd_ne (fun z => by subst z; rw [h] at hp; cases hp; exact hm)]; exact h⟩
  · exact .inr h
theorem Ext.new {K H m} {p : Addr} {o : HO} (hp : H p = none) : Ext K H m (upd H p o) m := ⟨⟨⟨[], by simp⟩, fun _ _ h => sqT_new hp h, fun _ _ h => rol_new hp h⟩, fun a od u h => by rw [upd_ne (ne_of_none h hp)]; exact h⟩
theorem Ext.newM {K H m} {p : Addr} {o : HO} (hp : H p = none) : Ext K H m (upd H p o) (m ++ [p]) := ⟨⟨⟨[p], rfl⟩, fun _ _ h => sqT_new hp h, fun _ _ h => rol_new hp h⟩, fun a od u h => by rw [upd_ne (ne_of_none h hp)]; exact h⟩
theorem Ext0.upd {K H m} {p : Addr} {o u : HO} (hp : H p = some u) (hm : NoTup u) : Ext0 K H m (upd H p o) m := ⟨⟨[], by simp⟩, fun _ _ h => sqT_upd hp hm h, fun _ _ h => rol_upd hp hm h⟩
theorem Ext.upd {K H m} {p : Addr} {o u : HO} (hp : H p = some u) (hm : Free u) : Ext K H m (upd H p o) m :=
  ⟨Ext0.upd hp hm.noTup, fun a od w h => by rw [upd_ne fun z => by subst z; rw [h] at hp; cases hp; exact hm]; exact h⟩
theorem OR.moved {K H m H' m' a o} (e : Ext0 K H m H' m') (h : OR K H m a o) (k : ∀ u, H a = some u → H' a = some u) (kc : ∀ c u, c ∉ m → H c = some u → H' c = some u ∧ c ∉ m' := by intro _ _ z w; exact ⟨w, z⟩) : OR K H' m' a o := by
  cases o with
  | lst xs => obtain ⟨vs, q, r⟩ := h; exact ⟨vs, k _ q, r.mono0 e⟩
  | dk kvs => obtain ⟨vs, q, r⟩ := h; exact ⟨vs, k _ q, r.mono0 e⟩
  | dn lk kvs =>
    cases lk with
    | false => obtain ⟨xs, q, r⟩ := h; exact ⟨xs, k _ q, r.mono0 e⟩
    | true => obtain ⟨od, xs, q, r⟩ := h; exact ⟨od, xs, k _ q, r.mono0 e⟩
  | ins C fs => obtain ⟨dx, ws, q, r⟩ := h; exact ⟨dx, ws, k _ q, r.mono0 e⟩
  | dkl kvs => obtain ⟨od, ws, q, r⟩ := h; exact ⟨od, ws, k _ q, r.mono0 e⟩
  | fn i nd ws =>
    obtain ⟨cl, c, vs, q, r, z, w, x⟩ := h
    exact ⟨cl, c, vs, k _ q, (kc _ _ z r).1, (kc _ _ z r).2, w, x.mono0 e⟩
  | junk => obtain ⟨F, q⟩ := h; exact ⟨F, k _ q⟩
theorem TbOk.moved {t H m H' m'} (h : TbOk t H m) (k : ∀ P ps, H P = some (.tbl ps) → H' P = some (.tbl ps)) (kc : ∀ c u, c ∉ m → H c = some u → H' c = some u ∧ c ∉ m') : TbOk t H' m' := fun p hp => by
  obtain ⟨ps, h1, h2, h3⟩ := h p hp
  refine ⟨ps, k _ _ h1, h2, fun pos cv e => ?_⟩
  obtain ⟨c, e1, e2, e3⟩ := h3 pos cv e
  exact ⟨c, e1, (kc _ _ e3 e2).1, (kc _ _ e3 e2).2⟩
theorem SR.none {K H m S} (h : SR K H m S) {p : Addr} (hp : H p = Option.none) : p ∉ m := fun hm => by
  obtain ⟨n, hl, e⟩ := List.getElem_of_mem hm
  have hS : n < S.length := by rw [← h.len]; exact hl
  obtain ⟨u, q, _⟩ := (h.at_ n p S[n] (by rw [List.getElem?_eq_getElem hl, e]) (List.getElem?_eq_getElem hS)).there
  rw [hp] at q; cases q
/-- a new tuple (or anything that the store doesn't tell) -/
theorem SR.new {K H m S} (h : SR K H m S) {p : Addr} {o : HO} (hp : H p = Option.none) : SR K (upd H p o) m S :=
  have k : ∀ (b : Addr) (u : HO), H b = some u → upd H p o b = some u := fun b u q => by rw [upd_ne (ne_of_none q hp)]; exact q
  ⟨h.tb.moved (fun _ _ q => k _ _ q) fun _ _ z q => ⟨k _ _ q, z⟩, h.len, h.nd, fun n a u e1 e2 => (h.at_ n a u e1 e2).moved (Ext.new hp).toExt0 (fun w q => k _ _ q) fun _ _ z q => ⟨k _ _ q, z⟩⟩
/-- a new thing of the store -/
theorem SR.newM {K H m S} (h : SR K H m S) {p : Addr} {o : HO} {u : O} (hp : H p = Option.none) (new : OR K (upd H p o) (m ++ [p]) p u) : SR K (upd H p o) (m ++ [p]) (S ++ [u]) := by
  have kc : ∀ (c : Addr) (x : HO), c ∉ m → H c = some x → upd H p o c = some x ∧ c ∉ m ++ [p] := fun c x z q => ⟨by rw [upd_ne (ne_of_none q hp)]; exact q, fun y => by
    rcases List.mem_append.mp y with y | y
    · exact z y
    · have : c = p := by simpa using y
      rw [this, hp] at q; cases q⟩
  refine ⟨h.tb.moved (fun P ps q => by rw [upd_ne (ne_of_none q hp)]; exact q) kc, by simp [h.len], ?_, fun n a w e1 e2 => ?_⟩
  · rw [List.nodup_append]
    refine ⟨h.nd, by simp, fun a ha b hb z => ?_⟩
    have : b = p := by simpa using hb
    subst this; subst z
    exact h.none hp ha
  · by_cases hn : n < m.length
    · rw [List.getElem?_append_left hn] at e1
      rw [List.getElem?_append_left (by rw [← h.len]; exact hn)] at e2
      exact (h.at_ n a w e1 e2).moved (Ext.newM hp).toExt0 (fun x q => by rw [upd_ne (ne_of_none q hp)]; exact q) kc
    · have hn' : m.length ≤ n := Nat.le_of_not_lt hn
      rw [List.getElem?_append_right hn'] at e1
      rw [List.getElem?_append_right (by rw [← h.len]; exact hn')] at e2
      rw [h.len] at e1
      cases q : n - S.length with
      | zero =>
        rw [q] at e1 e2
        simp at e1 e2
        subst e1; subst e2
        exact new
      | succ k =>
        rw [q] at e1
        simp at e1
/-- a thing of the store is changed -/
theorem SR.upd {K H m S} (h : SR K H m S) {n : Nat} {p : Addr} {o : HO} {u : O} (hn : m[n]? = some p) (hl : n < S.length) (new : OR K (L2.upd H p o) m p u) : SR K (L2.upd H p o) m (S.set n u) := by
  obtain ⟨w, hw, hm⟩ := (h.at_ n p S[n] hn (List.getElem?_eq_getElem hl)).there
  have kc : ∀ (c : Addr) (x : HO), c ∉ m → H c = some x → L2.upd H p o c = some x ∧ c ∉ m := fun c x z q => ⟨by rw [upd_ne fun y => by subst y; exact z (List.mem_of_getElem? hn)]; exact q, z⟩
  have kt : ∀ (P : Addr) (ps : Array Value), H P = some (.tbl ps) → L2.upd H p o P = some (.tbl ps) := fun P ps q => by
    rw [upd_ne fun y => by subst y; rw [hw] at q; cases q; exact hm]; exact q
  refine ⟨h.tb.moved kt kc, by simp [h.len], h.nd, fun k a x e1 e2 => ?_⟩
  by_cases hk : k = n
  · subst hk
    rw [hn] at e1; cases e1
    rw [List.getElem?_set_self hl] at e2; cases e2
    exact new
  · rw [List.getElem?_set_ne (Ne.symm hk)] at e2
    have ne : a ≠ p := fun z => hk (nd_ix h.nd e1 (z ▸ hn))
    exact (h.at_ k a x e1 e2).moved (Ext0.upd hw hm) (fun y q => by rw [upd_ne ne]; exact q) kc
/-- the slots -/
structure SLR (K : Kx) (H : Hp) (m : List Addr) (γ : Sl) (σ : L2.St) : Prop where
  len : γ.length = σ.length
  at_ : ∀ (i : Nat) (d : D), γ[i]? = some (some d) → ∃ v, σ[i]? = some (some v) ∧ Rp K H m d v
theorem SLR.mono {K H m H' m' γ σ} (e : Ext K H m H' m') (h : SLR K H m γ σ) : SLR K H' m' γ σ :=
  ⟨h.len, fun i d q => let ⟨v, a, b⟩ := h.at_ i d q; ⟨v, a, b.mono e⟩⟩
theorem SLR.set {K H m γ σ} (h : SLR K H m γ σ) {i : Nat} {d : D} {v : V} (r : Rp K H m d v) : SLR K H m (γ.set i (some d)) (σ.set i (some v)) := by
  refine ⟨by simp [h.len], fun j e q => ?_⟩
  by_cases hj : j = i
  · subst hj
    have hl : j < γ.length := by
      have := (List.getElem?_eq_some_iff.mp q).1
      simpa using this
    rw [List.getElem?_set_self hl] at q
    cases q
    exact ⟨v, List.getElem?_set_self (by rw [← h.len]; exact hl), r⟩
  · rw [List.getElem?_set_ne (Ne.symm hj)] at q ⊢
    exact h.at_ j e q
theorem SLR.forget {K H m γ σ} (h : SLR K H m γ σ) {i : Nat} : SLR K H m (γ.set i none) (σ.set i none) := by
  refine ⟨by simp [h.len], fun j e q => ?_⟩
  by_cases hj : j = i
  · subst hj
    have hl : j < γ.length := by
      have := (List.getElem?_eq_some_iff.mp q).1
      simpa using this
    rw [List.getElem?_set_self hl] at q
    cases q
  · rw [List.getElem?_set_ne (Ne.symm hj)] at q ⊢
    exact h.at_ j e q
end Ml
namespace Ml
open L2 PyProof.Rows PySem PySem.Spec
abbrev EvM := Sl → Sto → Option (D × Sto)
abbrev CvM := Sl → Sto → Option (Bool × Sto)
abbrev AvM := Sl → Sto → Option (List D × Sto)
/-- what is wanted of a value and the store behind it -/
abbrev Fin (K : Kx) (H : Hp) (m : List Addr) (S' : Sto) (d : D) (Q : VK) : Prop :=
  ∀ w H' m', Ext K H m H' m' → SR K H' m' S' → Rp K H' m' d w → Q w H'
def tM (K : Kx) (e : EvM) : TE := fun σ H Q => ∃ m S γ d S', SR K H m S ∧ SLR K H m γ σ ∧ e γ S = some (d, S') ∧ Fin K H m S' d Q
def tTM (K : Kx) (c : CvM) : TT := fun σ H Q => ∃ m S γ b S', SR K H m S ∧ SLR K H m γ σ ∧ c γ S = some (b, S') ∧ ∀ H' m', Ext K H m H' m' → SR K H' m' S' → Q b H'
def tAM (K : Kx) (e : AvM) : TA := fun σ H Q => ∃ m S γ ds S', SR K H m S ∧ SLR K H m γ σ ∧ e γ S = some (ds, S') ∧ ∀ vs H' m', Ext K H m H' m' → SR K H' m' S' → Rps K H' m' ds vs → Q vs H'
section
variable {tb : List NdefX.NTab} {X : Cx}
theorem PE.imp {e : Expr} {t t' : TE} (h : PE X e t) (hi : ∀ σ H Q, t' σ H Q → t σ H Q) : PE X e t' := ⟨fun pins s σ H Q I q => h.run pins s σ H Q I (hi σ H Q q)⟩
theorem PT.imp {e : Expr} {t t' : TT} (h : PT X e t) (hi : ∀ σ H Q, t' σ H Q → t σ H Q) : PT X e t' := ⟨fun pins s σ H Q I q => h.run pins s σ H Q I (hi σ H Q q)⟩
theorem PW.imp {e : Expr} {t t' : TT} (h : PW X e t) (hi : ∀ σ H Q, t' σ H Q → t σ H Q) : PW X e t' := ⟨fun wh pins s σ H Q I q => h.run wh pins s σ H Q I (hi σ H Q q)⟩
theorem PA.imp {e : List Expr} {t t' : TA} (h : PA X e t) (hi : ∀ σ H Q, t' σ H Q → t σ H Q) : PA X e t' := ⟨fun pos pins s σ H Q I q => h.run pos pins s σ H Q I (hi σ H Q q)⟩
theorem PK.imp {e : List Keyword} {t t' : TA} (h : PK X e t) (hi : ∀ σ H Q, t' σ H Q → t σ H Q) : PK X e t' := ⟨fun pos pins s σ H Q I q => h.run pos pins s σ H Q I (hi σ H Q q)⟩
theorem PS.imp {e : Stmt} {t t' : TS} (h : PS X e t) (hi : ∀ D σ H, t' D σ H → t D σ H) : PS X e t' := ⟨fun pins s σ H D I q => h.run pins s σ H D I (hi D σ H q)⟩
theorem PSs.imp {e : List Stmt} {t t' : TS} (h : PSs X e t) (hi : ∀ D σ H, t' D σ H → t D σ H) : PSs X e t' := ⟨fun pins s σ H D I q => h.run pins s σ H D I (hi D σ H q)⟩
abbrev ME (tb : List NdefX.NTab) (X : Cx) (e : Expr) (m : EvM) : Prop := PE X e (tM (kx tb X) m)
abbrev MT (tb : List NdefX.NTab) (X : Cx) (e : Expr) (m : CvM) : Prop := PT X e (tTM (kx tb X) m)
abbrev MW (tb : List NdefX.NTab) (X : Cx) (e : Expr) (m : CvM) : Prop := PW X e (tTM (kx tb X) m)
abbrev MA (tb : List NdefX.NTab) (X : Cx) (e : List Expr) (m : AvM) : Prop := PA X e (tAM (kx tb X) m)
abbrev MK (tb : List NdefX.NTab) (X : Cx) (e : List Keyword) (m : AvM) : Prop := PK X e (tAM (kx tb X) m)
variable {K : Kx} {a b c : Expr} {ea eb ec : EvM} {pos : Pos}
/-! ### names, constants -/
def varM (i : Nat) : EvM := fun γ S => match γ[i]? with
  | some (some d) => some (d, S)
  | _ => none
def conM (d : D) : EvM := fun _ S => some (d, S)
theorem me_var (i : Nat) {x : Str} {p : Pos} (hN : X.N[i]? = some x := by rfl) (hv : Vis X.env.scope x := by first | exact Or.inl rfl | exact Or.inr (Or.inl rfl) | exact Or.inr (Or.inr rfl)) (hd : (x == ("__debug__" : Str)) = false := by decide)
    (hcd : (x == ("__classdict__" : Str)) = false := by decide) : ME tb X (.Name x p) (varM i) := by
  refine PE.imp (pe_var hN hv hd hcd) fun σ H Q h => ?_
  obtain ⟨m, S, γ, d, S', hS, hγ, e, q⟩ := h
  unfold varM at e
  split at e
  · rename_i d' hd'
    cases e
    obtain ⟨v, h1, h2⟩ := hγ.at_ i _ hd'
    exact ⟨v, h1, q v H m .refl hS h2⟩
  · cases e
theorem me_con {e : Expr} {v : V} {d : D} (h : PE X e (tC v)) (hr : ∀ H m, Rp (kx tb X) H m d v) : ME tb X e (conM d) := by
  refine PE.imp h fun σ H Q h => ?_
  obtain ⟨m, S, γ, d', S', hS, hγ, e, q⟩ := h
  cases e
  exact q v H m .refl hS (hr H m)
theorem me_int {i j p} : ME tb X (.Constant (.int i) j p) (conM (.int i)) := me_con pe_int fun _ _ => by rw [Rp]
theorem me_bl {i j p} : ME tb X (.Constant (.bool i) j p) (conM (.bl i)) := me_con pe_bl fun _ _ => by rw [Rp]
theorem me_non {j p} : ME tb X (.Constant .none j p) (conM .non) := me_con pe_non fun _ _ => by rw [Rp]
theorem me_str {i j p} : ME tb X (.Constant (.str i) j p) (conM (.str i)) := me_con pe_str fun _ _ => by rw [Rp]
/-! ### two values -/
def binM (F : D → D → Sto → Option (D × Sto)) (ea eb : EvM) : EvM := fun γ S => match ea γ S with
  | none => none
  | some (x, S1) => match eb γ S1 with
    | none => none
    | some (y, S2) => F x y S2
def FOk2 (K : Kx) (F : D → D → Sto → Option (D × Sto)) (r : R2) : Prop :=
  ∀ x y S d S', F x y S = some (d, S') → ∀ H m vx vy Q, SR K H m S → Rp K H m x vx → Rp K H m y vy → Fin K H m S' d Q → r vx vy H Q
theorem FOk2.or {F G : D → D → Sto → Option (D × Sto)} {r r' : R2} (h : FOk2 K F r) (h' : FOk2 K G r') : FOk2 K (fun x y S => (F x y S).or (G x y S)) (fun x y H Q => r x y H Q ∨ r' x y H Q) := by
  intro x y S d S' e H m vx vy Q hS hx hy q
  dsimp only at e
  cases hF : F x y S with
  | some p => rw [hF] at e; simp at e; subst e; exact .inl (h _ _ _ _ _ hF H m vx vy Q hS hx hy q)
  | none => rw [hF] at e; simp at e; exact .inr (h' _ _ _ _ _ e H m vx vy Q hS hx hy q)
theorem bin_core {F : D → D → Sto → Option (D × Sto)} {r : R2} (hF : FOk2 K F r) {σ : L2.St} {H : Hp} {Q : VK} (h : tM K (binM F ea eb) σ H Q) : tOp r (tM K ea) (tM K eb) σ H Q := by
  obtain ⟨m, S, γ, d, S', hS, hγ, e, q⟩ := h
  unfold binM at e
  cases h1 : ea γ S with
  | none => rw [h1] at e; cases e
  | some p =>
    obtain ⟨x, S1⟩ := p
    rw [h1] at e
    dsimp only at e
    cases h2 : eb γ S1 with
    | none => rw [h2] at e; cases e
    | some p2 =>
      obtain ⟨y, S2⟩ := p2
      rw [h2] at e
      refine ⟨m, S, γ, x, S1, hS, hγ, h1, fun v H1 m1 e1 hS1 hx => ?_⟩
      refine ⟨m1, S1, γ, y, S2, hS1, hγ.mono e1, h2, fun w H2 m2 e2 hS2 hy => ?_⟩
      exact hF x y S2 d S' e H2 m2 v w Q hS2 (hx.mono e2) hy fun u H3 m3 e3 => q u H3 m3 (e1.trans (e2.trans e3))
theorem me_bin {op : Operator} {F : D → D → Sto → Option (D × Sto)} {r : R2} (ho : OpR X (binaryOp op) r) (hF : FOk2 (kx tb X) F r) (ha : ME tb X a ea) (hb : ME tb X b eb) : ME tb X (.BinOp a op b pos) (binM F ea eb) :=
  PE.imp (pe_op ho ha hb) fun _ _ _ h => bin_core hF h
theorem me_cmp {op : CmpOp} {F : D → D → Sto → Option (D × Sto)} {r : R2} (ho : OpR X (compareOp op) r) (hF : FOk2 (kx tb X) F r) (ha : ME tb X a ea) (hb : ME tb X b eb) (hm : behindInMarks op b = false) : ME tb X (.Compare a [op] [b] pos) (binM F ea eb) :=
  PE.imp (pe_cmpR ho ha hb hm) fun _ _ _ h => bin_core hF h
/-- a value that is a bool, as a test -/
def tstM (e : EvM) : CvM := fun γ S => match e γ S with
  | some (.bl k, S') => some (k, S')
  | _ => none
theorem tst_core {e : EvM} {σ : L2.St} {H : Hp} {Q : Bool → Hp → Prop} (h : tTM K (tstM e) σ H Q) : tM K e σ H fun x H' => ∃ k, x = .bl k ∧ Q k H' := by
  obtain ⟨m, S, γ, d, S', hS, hγ, e1, q⟩ := h
  unfold tstM at e1
  split at e1
  · rename_i k S1 h1
    cases e1
    refine ⟨m, S, γ, _, _, hS, hγ, h1, fun w H' m' e2 hS' hw => ?_⟩
    rw [Rp] at hw
    exact ⟨_, hw, q H' m' e2 hS'⟩
  · cases e1
theorem mt_cmp {op : CmpOp} {F : D → D → Sto → Option (D × Sto)} {r : R2} (ho : OpR X (compareOp op) r) (hF : FOk2 (kx tb X) F r) (ha : ME tb X a ea) (hb : ME tb X b eb) (hm : behindInMarks op b = false) : MT tb X (.Compare a [op] [b] pos) (tstM (binM F ea eb)) :=
  PT.imp (pt_cmpR ho ha hb hm) fun σ H Q h => bin_core hF (tst_core h)
/-! ### the operators -/
def opI (C : Int → Int → Bool) (g : Int → Int → D) : D → D → Sto → Option (D × Sto)
  | .int i, .int j, S => if C i j then some (g i j, S) else none
  | _, _, _ => none
theorem Rp.int_iff {H m i v} : Rp K H m (.int i) v ↔ v = .int i := by rw [Rp]
theorem Rp.str_iff {H m i v} : Rp K H m (.str i) v ↔ v = .str i := by rw [Rp]
theorem Rp.bl_iff {H m i v} : Rp K H m (.bl i) v ↔ v = .bl i := by rw [Rp]
theorem Rp.non_iff {H m v} : Rp K H m .non v ↔ v = .non := by rw [Rp]
theorem Rp.tup_iff {H m xs v} : Rp K H m (.tup xs) v ↔ ∃ a vs, v = .ref a ∧ SqT K.f H a vs ∧ Rps K H m xs vs := by rw [Rp]
theorem Rp.ref_iff {H m n v} : Rp K H m (.ref n) v ↔ ∃ a, m[n]? = some a ∧ v = .ref a := by rw [Rp]
/-- a scalar answer, nothing changed -/
theorem fin_int {H m S i} {Q : VK} (hS : SR K H m S) (q : Fin K H m S (.int i) Q) : Q (.int i) H := q _ H m .refl hS (by rw [Rp])
theorem fin_bl {H m S i} {Q : VK} (hS : SR K H m S) (q : Fin K H m S (.bl i) Q) : Q (.bl i) H := q _ H m .refl hS (by rw [Rp])
theorem fin_str {H m S i} {Q : VK} (hS : SR K H m S) (q : Fin K H m S (.str i) Q) : Q (.str i) H := q _ H m .refl hS (by rw [Rp])
theorem fin_non {H m S} {Q : VK} (hS : SR K H m S) (q : Fin K H m S .non Q) : Q .non H := q _ H m .refl hS (by rw [Rp])
/-- a new tuple -/
theorem fin_tup {H m S xs vs} {Q : VK} (hS : SR K H m S) (hv : Rps K H m xs vs) (q : Fin K H m S (.tup xs) Q) : ∀ p, H p = none → Q (.ref p) (upd H p (.tup vs)) := fun p hp =>
  q _ _ m (.new hp) (hS.new hp) (by rw [Rp]; exact ⟨p, vs, rfl, SqT.of upd_same, hv.mono (.new hp)⟩)
/-- a new list -/
theorem fin_lst {H m S xs vs} {Q : VK} (hS : SR K H m S) (hv : Rps K H m xs vs) (q : Fin K H m (S ++ [.lst xs]) (.ref S.length) Q) : ∀ p, H p = none → Q (.ref p) (upd H p (.lst vs)) := fun p hp =>
  q _ _ (m ++ [p]) (.newM hp) (hS.newM hp ⟨vs, upd_same, hv.mono (.newM hp)⟩) (by rw [Rp]; exact ⟨p, by rw [← hS.len]; simp, rfl⟩)
/-- a list of the store is changed -/
theorem fin_set {H m S n a xs vs us d v} {Q : VK} (hS : SR K H m S) (hn : m[n]? = some a) (hl : H a = some (.lst vs)) (hx : n < S.length) (hv : Rps K H m xs us) (hd : Rp K H m d v) (q : Fin K H m (S.set n (.lst xs)) d Q) : Q v (upd H a (.lst us)) :=
  q _ _ m (.upd hl trivial) (hS.upd hn hx ⟨us, upd_same, hv.mono (.upd hl trivial)⟩) (hd.mono (.upd hl trivial))
theorem opI_ok {C : Int → Int → Bool} {g : Int → Int → D} {P : Int → Int → Prop} {gV : Int → Int → V} (hC : ∀ i j, C i j = true → P i j) (hg : ∀ i j H m, Rp K H m (g i j) (gV i j)) : FOk2 K (opI C g) (rI P gV) := by
  intro x y S d S' e H m vx vy Q hS hx hy q
  unfold opI at e
  split at e
  · rename_i i j
    split at e
    · rename_i hc
      cases e
      rw [Rp] at hx hy
      exact ⟨i, j, hx, hy, hC _ _ hc, q _ H m .refl hS (hg i j H m)⟩
    · cases e
  · cases e
theorem opI0_ok {g : Int → Int → D} {gV : Int → Int → V} (hg : ∀ i j H m, Rp K H m (g i j) (gV i j)) : FOk2 K (opI (fun _ _ => true) g) (rI0 gV) := by
  intro x y S d S' e H m vx vy Q hS hx hy q
  unfold opI at e
  split at e
  · rename_i i j
    simp at e
    obtain ⟨rfl, rfl⟩ := e
    rw [Rp] at hx hy
    exact ⟨i, j, hx, hy, q _ H m .refl hS (hg i j H m)⟩
  · cases e
/-- the list of the store at a number -/
theorem SR.lst {H : Hp} {m : List Addr} {S : Sto} {n : Nat} {xs : List D} (hS : SR K H m S) (e : S[n]? = some (.lst xs)) : ∃ a vs, m[n]? = some a ∧ H a = some (.lst vs) ∧ Rps K H m xs vs := by
  obtain ⟨a, h1, vs, h2, h3⟩ := hS.addr e
  exact ⟨a, vs, h1, h2, h3⟩
theorem lt_of {α : Type} {l : List α} {n : Nat} {x : α} (e : l[n]? = some x) : n < l.length := (List.getElem?_eq_some_iff.mp e).1
/-- + -/
def addL : D → D → Sto → Option (D × Sto)
  | .ref i, .ref j, S => match S[i]?, S[j]? with
    | some (.lst xs), some (.lst ys) => if xs.length + ys.length ≤ sizeLine then some (.ref S.length, S ++ [.lst (xs ++ ys)]) else none
    | _, _ => none
  | _, _, _ => none
def addS : D → D → Sto → Option (D × Sto)
  | .str i, .str j, S => if i.length + j.length ≤ sizeLine then some (.str (i ++ j), S) else none
  | _, _, _ => none
def addT : D → D → Sto → Option (D × Sto)
  | .tup xs, .tup ys, S => if xs.length + ys.length ≤ sizeLine then some (.tup (xs ++ ys), S) else none
  | _, _, _ => none
theorem addL_ok : FOk2 K addL rCat := by
  intro x y S d S' e H m vx vy Q hS hx hy q
  unfold addL at e
  split at e
  · rename_i i j
    split at e
    · rename_i xs ys h1 h2
      split at e
      · rename_i hz
        cases e
        rw [Rp] at hx hy
        obtain ⟨a, ea, rfl⟩ := hx
        obtain ⟨b, eb, rfl⟩ := hy
        obtain ⟨a', vs, m1, k1, r1⟩ := hS.lst h1
        obtain ⟨b', ws, m2, k2, r2⟩ := hS.lst h2
        rw [ea] at m1; cases m1
        rw [eb] at m2; cases m2
        exact ⟨a, b, vs, ws, rfl, rfl, k1, k2, by rw [r1.length, r2.length]; exact hz, fin_lst hS (r1.append r2) q⟩
      · cases e
    · cases e
  · cases e
theorem addS_ok : FOk2 K addS (fun x y H Q => ∃ i j, x = .str i ∧ y = .str j ∧ i.length + j.length ≤ sizeLine ∧ Q (.str (i ++ j)) H) := by
  intro x y S d S' e H m vx vy Q hS hx hy q
  unfold addS at e
  split at e
  · rename_i i j
    split at e
    · rename_i hz
      cases e
      rw [Rp] at hx hy
      exact ⟨i, j, hx, hy, hz, fin_str hS q⟩
    · cases e
  · cases e
theorem addT_ok : FOk2 K addT (rCatA K.f) := by
  intro x y S d S' e H m vx vy Q hS hx hy q
  unfold addT at e
  split at e
  · rename_i xs ys
    split at e
    · rename_i hz
      cases e
      rw [Rp] at hx hy
      obtain ⟨a, vs, rfl, ha, rx⟩ := hx
      obtain ⟨b, ws, rfl, hb, ry⟩ := hy
      refine ⟨a, b, vs, ws, rfl, rfl, ha, hb, by rw [rx.length, ry.length]; exact hz, fun z => ?_, fun _ z => ?_, fun _ _ => fin_tup hS (rx.append ry) q⟩
      · have hx0 : xs = [] := by
          have := rx.length
          rw [z] at this
          exact List.length_eq_zero_iff.mp this.symm
        subst hx0
        refine q _ H m .refl hS ?_
        rw [List.nil_append, Rp]
        exact ⟨b, ws, rfl, hb, ry⟩
      · have hy0 : ys = [] := by
          have := ry.length
          rw [z] at this
          exact List.length_eq_zero_iff.mp this.symm
        subst hy0
        refine q _ H m .refl hS ?_
        rw [List.append_nil, Rp]
        exact ⟨a, vs, rfl, ha, rx⟩
    · cases e
  · cases e
def addF : D → D → Sto → Option (D × Sto)
  | .int i, .int j, S => some (.int (i + j), S)
  | .str i, .str j, S => if i.length + j.length ≤ sizeLine then some (.str (i ++ j), S) else none
  | .tup xs, .tup ys, S => if xs.length + ys.length ≤ sizeLine then some (.tup (xs ++ ys), S) else none
  | .ref i, .ref j, S => match S[i]?, S[j]? with
    | some (.lst xs), some (.lst ys) => if xs.length + ys.length ≤ sizeLine then some (.ref S.length, S ++ [.lst (xs ++ ys)]) else none
    | _, _ => none
  | _, _, _ => none
theorem FOk2.of {F G : D → D → Sto → Option (D × Sto)} {r : R2} (h : FOk2 K F r) (e : ∀ x y S, G x y S = F x y S) : FOk2 K G r := by
  have : G = F := by funext x y S; exact e x y S
  rw [this]; exact h
theorem addF_ok : FOk2 K addF (fun x y H Q => rI0 (fun i j => .int (i + j)) x y H Q ∨ (∃ i j, x = .str i ∧ y = .str j ∧ i.length + j.length ≤ sizeLine ∧ Q (.str (i ++ j)) H) ∨ rCatA K.f x y H Q ∨ rCat x y H Q) :=
  ((opI0_ok (g := fun i j => .int (i + j)) (gV := fun i j => .int (i + j)) fun _ _ _ _ => by rw [Rp]).or (addS_ok.or (addT_ok.or addL_ok))).of fun x y S => by
    cases x <;> cases y <;> simp [addF, opI, addS, addT, addL]
theorem me_add (ha : ME tb X a ea) (hb : ME tb X b eb) : ME tb X (.BinOp a .Add b pos) (binM addF ea eb) :=
  me_bin (op_add.or (op_add_str.or (op_catA.or op_cat))) addF_ok ha hb
def subF := opI (fun _ _ => true) (fun i j => .int (i - j))
theorem me_sub (ha : ME tb X a ea) (hb : ME tb X b eb) : ME tb X (.BinOp a .Sub b pos) (binM subF ea eb) := me_bin op_sub (opI0_ok (gV := fun i j => .int (i - j)) fun _ _ _ _ => by rw [Rp]) ha hb
end
end Ml
namespace Ml
open L2 PyProof.Rows PySem PySem.Spec
section
variable {tb : List NdefX.NTab} {X : Cx} {K : Kx} {a b c : Expr} {ea eb ec : EvM} {pos : Pos}
/-! ### numbers -/
def mulOk (i j : Int) : Bool := decide (-(2 ^ 64) < i ∧ i < 2 ^ 64) || decide (-(2 ^ 64) < j ∧ j < 2 ^ 64) || decide (i.natAbs.log2 + j.natAbs.log2 < 1000000)
def mulF : D → D → Sto → Option (D × Sto)
  | .int i, .int j, S => if mulOk i j then some (.int (i * j), S) else none
  | _, _, _ => none
theorem mulF_ok : FOk2 K mulF (fun x y H Q => rI CMul (fun i j => .int (i * j)) x y H Q ∨ rI CMulW (fun i j => .int (i * j)) x y H Q) := by
  intro x y S d S' e H m vx vy Q hS hx hy q
  unfold mulF at e
  split at e
  · rename_i i j
    split at e
    · rename_i hc
      cases e
      simp only [Rp] at hx hy
      simp only [mulOk, Bool.or_eq_true, decide_eq_true_eq] at hc
      rcases hc with (hc | hc) | hc
      · exact .inl ⟨i, j, hx, hy, .inl hc, fin_int hS q⟩
      · exact .inl ⟨i, j, hx, hy, .inr hc, fin_int hS q⟩
      · exact .inr ⟨i, j, hx, hy, hc, fin_int hS q⟩
    · cases e
  · cases e
theorem me_mul (ha : ME tb X a ea) (hb : ME tb X b eb) : ME tb X (.BinOp a .Mult b pos) (binM mulF ea eb) := me_bin (op_mul.or op_mulW) mulF_ok ha hb
/-- xs * n -/
def repF : D → D → Sto → Option (D × Sto)
  | .ref n, .int k, S => match S[n]? with
    | some (.lst xs) => if 0 ≤ k ∧ k < 2 ^ 63 ∧ xs.length * k.toNat ≤ sizeLine then some (.ref S.length, S ++ [.lst (List.replicate k.toNat xs).flatten]) else none
    | _ => none
  | _, _, _ => none
theorem Rps.repl {H m} {xs : List D} {vs : List V} (h : Rps K H m xs vs) : ∀ k : Nat, Rps K H m (List.replicate k xs).flatten (List.replicate k vs).flatten
  | 0 => Rps.nil
  | k + 1 => by rw [List.replicate_succ, List.replicate_succ, List.flatten_cons, List.flatten_cons]; exact h.append (Rps.repl h k)
theorem repF_ok : FOk2 K repF rRep := by
  intro x y S d S' e H m vx vy Q hS hx hy q
  unfold repF at e
  split at e
  · rename_i n k
    split at e
    · rename_i xs h1
      split at e
      · rename_i hz
        cases e
        simp only [Rp] at hx hy
        obtain ⟨a, ea, rfl⟩ := hx
        obtain ⟨a', vs, m1, k1, r1⟩ := hS.lst h1
        rw [ea] at m1; cases m1
        subst hy
        exact ⟨a, k, vs, rfl, rfl, k1, by omega, hz.2.1, by rw [r1.length]; exact hz.2.2, fin_lst hS (r1.repl _) q⟩
      · cases e
    · cases e
  · cases e
theorem me_rep (ha : ME tb X a ea) (hb : ME tb X b eb) : ME tb X (.BinOp a .Mult b pos) (binM repF ea eb) := me_bin op_rep repF_ok ha hb
def fdivF : D → D → Sto → Option (D × Sto)
  | .int i, .int j, S => if 0 < j ∧ j.natAbs.log2 < 9000 then some (.int (i / j), S) else none
  | _, _, _ => none
theorem me_fdiv (ha : ME tb X a ea) (hb : ME tb X b eb) : ME tb X (.BinOp a .FloorDiv b pos) (binM fdivF ea eb) :=
  me_bin op_fdivW ((opI_ok (P := CDivW) (C := fun i j => decide (0 < j ∧ j.natAbs.log2 < 9000)) (g := fun i j => .int (i / j)) (gV := fun i j => .int (i / j)) (fun _ _ h => by have h2 := h; simp only [decide_eq_true_eq] at h2; exact h2) fun _ _ _ _ => by rw [Rp]).of fun x y S => by
    cases x <;> cases y <;> simp [fdivF, opI]) ha hb
def modF : D → D → Sto → Option (D × Sto)
  | .int i, .int j, S => if 0 < j then some (.int (i % j), S) else none
  | _, _, _ => none
theorem me_mod (ha : ME tb X a ea) (hb : ME tb X b eb) : ME tb X (.BinOp a .Mod b pos) (binM modF ea eb) :=
  me_bin op_mod ((opI_ok (P := fun _ j => 0 < j) (C := fun i j => decide (0 < j)) (g := fun i j => .int (i % j)) (gV := fun i j => .int (i % j)) (fun _ _ h => by have h2 := h; simp only [decide_eq_true_eq] at h2; exact h2) fun _ _ _ _ => by rw [Rp]).of fun x y S => by
    cases x <;> cases y <;> simp [modF, opI]) ha hb
def powF : D → D → Sto → Option (D × Sto)
  | .int i, .int j, S => if 0 ≤ j ∧ j ≤ 1000000 ∧ i.natAbs < 2 ^ 64 then some (.int (i ^ j.toNat), S) else none
  | _, _, _ => none
theorem me_pow (ha : ME tb X a ea) (hb : ME tb X b eb) : ME tb X (.BinOp a .Pow b pos) (binM powF ea eb) :=
  me_bin op_pow ((opI_ok (P := CPow) (C := fun i j => decide (0 ≤ j ∧ j ≤ 1000000 ∧ i.natAbs < 2 ^ 64)) (g := fun i j => .int (i ^ j.toNat)) (gV := fun i j => .int (i ^ j.toNat)) (fun _ _ h => by have h2 := h; simp only [decide_eq_true_eq] at h2; exact h2) fun _ _ _ _ => by rw [Rp]).of fun x y S => by
    cases x <;> cases y <;> simp [powF, opI]) ha hb
/-- -x -/
def negM (e : EvM) : EvM := fun γ S => match e γ S with
  | some (.int i, S') => some (.int (-i), S')
  | _ => none
theorem me_neg (ha : ME tb X a ea) : ME tb X (.UnaryOp .USub a pos) (negM ea) := by
  refine PE.imp (pe_un un_neg ha) fun σ H Q h => ?_
  obtain ⟨m, S, γ, d, S', hS, hγ, e1, q⟩ := h
  unfold negM at e1
  split at e1
  · rename_i i S1 h1
    cases e1
    refine ⟨m, S, γ, _, _, hS, hγ, h1, fun w H' m' e2 hS' hw => ?_⟩
    rw [Rp] at hw
    exact ⟨_, hw, q _ H' m' e2 hS' (by rw [Rp])⟩
  · cases e1
/-! ### comparisons by order -/
def strS (g : Str → Str → Bool) : D → D → Sto → Option (D × Sto)
  | .str i, .str j, S => some (.bl (g i j), S)
  | _, _, _ => none
theorem strS_ok {g : Str → Str → Bool} : FOk2 K (strS g) (fun x y H Q => ∃ i j, x = .str i ∧ y = .str j ∧ Q (.bl (g i j)) H) := by
  intro x y S d S' e H m vx vy Q hS hx hy q
  unfold strS at e
  split at e
  · cases e
    rw [Rp] at hx hy
    exact ⟨_, _, hx, hy, fin_bl hS q⟩
  · cases e
abbrev ltS (i j : Str) : Bool := decide (i.cps.toList < j.cps.toList)
def ordF (gi : Int → Int → Bool) (gs : Str → Str → Bool) : D → D → Sto → Option (D × Sto)
  | .int i, .int j, S => some (.bl (gi i j), S)
  | .str i, .str j, S => some (.bl (gs i j), S)
  | _, _, _ => none
theorem ordF_ok {gi : Int → Int → Bool} {gs : Str → Str → Bool} : FOk2 K (ordF gi gs) (fun x y H Q => rI0 (fun i j => .bl (gi i j)) x y H Q ∨ (∃ i j, x = .str i ∧ y = .str j ∧ Q (.bl (gs i j)) H)) :=
  ((opI0_ok (g := fun i j => .bl (gi i j)) (gV := fun i j => .bl (gi i j)) fun _ _ _ _ => by rw [Rp]).or strS_ok).of fun x y S => by
    cases x <;> cases y <;> simp [ordF, opI, strS]
def ltF := ordF (fun i j => decide (i < j)) ltS
def leF := ordF (fun i j => decide (i ≤ j)) (fun i j => !ltS j i)
def gtF := ordF (fun i j => decide (j < i)) (fun i j => ltS j i)
def geF := ordF (fun i j => decide (j ≤ i)) (fun i j => !ltS i j)
theorem ltF_ok : FOk2 K ltF (fun x y H Q => rI0 (fun i j => .bl (decide (i < j))) x y H Q ∨ (∃ i j, x = .str i ∧ y = .str j ∧ Q (.bl (decide (i.cps.toList < j.cps.toList))) H)) := ordF_ok
theorem leF_ok : FOk2 K leF (fun x y H Q => rI0 (fun i j => .bl (decide (i ≤ j))) x y H Q ∨ (∃ i j, x = .str i ∧ y = .str j ∧ Q (.bl (!decide (j.cps.toList < i.cps.toList))) H)) := ordF_ok
theorem gtF_ok : FOk2 K gtF (fun x y H Q => rI0 (fun i j => .bl (decide (j < i))) x y H Q ∨ (∃ i j, x = .str i ∧ y = .str j ∧ Q (.bl (decide (j.cps.toList < i.cps.toList))) H)) := ordF_ok
theorem geF_ok : FOk2 K geF (fun x y H Q => rI0 (fun i j => .bl (decide (j ≤ i))) x y H Q ∨ (∃ i j, x = .str i ∧ y = .str j ∧ Q (.bl (!decide (i.cps.toList < j.cps.toList))) H)) := ordF_ok
theorem or_lt : OpR X (compareOp .Lt) (fun x y H Q => rI0 (fun i j => .bl (decide (i < j))) x y H Q ∨ (∃ i j, x = .str i ∧ y = .str j ∧ Q (.bl (decide (i.cps.toList < j.cps.toList))) H)) := op_lt.or op_lt_str
theorem or_le : OpR X (compareOp .LtE) (fun x y H Q => rI0 (fun i j => .bl (decide (i ≤ j))) x y H Q ∨ (∃ i j, x = .str i ∧ y = .str j ∧ Q (.bl (!decide (j.cps.toList < i.cps.toList))) H)) := op_le.or op_le_str
theorem or_gt : OpR X (compareOp .Gt) (fun x y H Q => rI0 (fun i j => .bl (decide (j < i))) x y H Q ∨ (∃ i j, x = .str i ∧ y = .str j ∧ Q (.bl (decide (j.cps.toList < i.cps.toList))) H)) := op_gt.or op_gt_str
theorem or_ge : OpR X (compareOp .GtE) (fun x y H Q => rI0 (fun i j => .bl (decide (j ≤ i))) x y H Q ∨ (∃ i j, x = .str i ∧ y = .str j ∧ Q (.bl (!decide (i.cps.toList < j.cps.toList))) H)) := op_ge.or op_ge_str
/-! ### == -/
mutual
/-- a value that has no thing of the store in it, as data -/
def pyD : D → Option PyData
  | .non => some .none
  | .bl b => some (.bool b)
  | .int i => some (.int i)
  | .str z => some (.str z)
  | .tup xs => match pyDs xs with
    | some ds => some (.tuple ds)
    | none => none
  | .rl _ => none
  | .ref _ => none
  | .gl _ => none
def pyDs : List D → Option (List PyData)
  | [] => some []
  | x :: xs => match pyD x, pyDs xs with
    | some d0, some ds => some (d0 :: ds)
    | _, _ => none
end
/-- .. or a list of such -/
def pyO (S : Sto) : D → Option PyData
  | .ref n => match S[n]? with
    | some (.lst xs) => match pyDs xs with
      | some ds => some (.list ds)
      | none => none
    | _ => none
  | d => pyD d
mutual
theorem pyD_ok {H m} : ∀ (d : D) (v : V) (p : PyData), Rp K H m d v → pyD d = some p → Dp K.f H v p
  | .non, v, p, h, e => by rw [Rp] at h; rw [pyD] at e; cases e; subst h; exact .non
  | .bl b, v, p, h, e => by rw [Rp] at h; rw [pyD] at e; cases e; subst h; exact .bl b
  | .int i, v, p, h, e => by rw [Rp] at h; rw [pyD] at e; cases e; subst h; exact .int i
  | .str z, v, p, h, e => by rw [Rp] at h; rw [pyD] at e; cases e; subst h; exact .str z
  | .tup xs, v, p, h, e => by
    rw [Rp] at h
    obtain ⟨a, vs, rfl, ha, hv⟩ := h
    rw [pyD] at e
    cases h1 : pyDs xs with
    | none => rw [h1] at e; cases e
    | some ds =>
      rw [h1] at e
      cases e
      exact .tup ha (pyDs_ok xs vs ds hv h1)
  | .rl n, v, p, h, e => by rw [pyD] at e; cases e
  | .ref n, v, p, h, e => by rw [pyD] at e; cases e
  | .gl n, v, p, h, e => by rw [pyD] at e; cases e
theorem pyDs_ok {H m} : ∀ (d : List D) (v : List V) (p : List PyData), Rps K H m d v → pyDs d = some p → DpAll K.f H v p
  | [], v, p, h, e => by rw [Rps] at h; rw [pyDs] at e; cases e; subst h; exact .nil
  | x :: xs, v, p, h, e => by
    rw [Rps] at h
    obtain ⟨w, r, rfl, h1, h2⟩ := h
    rw [pyDs] at e
    cases e1 : pyD x with
    | none => rw [e1] at e; cases e
    | some d1 =>
      cases e2 : pyDs xs with
      | none => rw [e1, e2] at e; cases e
      | some d2 =>
        rw [e1, e2] at e
        cases e
        exact .cons (pyD_ok x w d1 h1 e1) (pyDs_ok xs r d2 h2 e2)
end
theorem pyO_ok {H m S} {d : D} {v : V} {p : PyData} (hS : SR K H m S) (h : Rp K H m d v) (e : pyO S d = some p) : Dp K.f H v p := by
  unfold pyO at e
  split at e
  · rename_i n
    split at e
    · rename_i xs h1
      split at e
      · rename_i ds h2
        cases e
        rw [Rp] at h
        obtain ⟨a, ea, rfl⟩ := h
        obtain ⟨a', vs, m1, k1, r1⟩ := hS.lst h1
        rw [ea] at m1; cases m1
        exact .lst (SqL.of k1) (pyDs_ok xs vs ds r1 h2)
      · cases e
    · cases e
  · exact pyD_ok d v p h e
/-- == of scalars of like kinds -/
def eqS : D → D → Option Bool
  | .non, .non => some true
  | .int i, .int j => some (i == j)
  | .bl i, .bl j => some (i == j)
  | .str i, .str j => some (i == j)
  | .non, .int _ => some false | .int _, .non => some false
  | .non, .bl _ => some false | .bl _, .non => some false
  | .non, .str _ => some false | .str _, .non => some false
  | .int _, .str _ => some false | .str _, .int _ => some false
  | .bl _, .str _ => some false | .str _, .bl _ => some false
  | _, _ => none
def eqB (S : Sto) (x y : D) : Option Bool := match eqS x y with
  | some b => some b
  | none => match pyO S x, pyO S y with
    | some p, some q => if SeqAt.shaped p && SeqAt.shaped q then some (PyData.eqv p q) else none
    | _, _ => none
theorem eqS_ok {H m} {x y : D} {b : Bool} {vx vy : V} (e : eqS x y = some b) (hx : Rp K H m x vx) (hy : Rp K H m y vy) : scal vx vy = true ∧ decide (vx = vy) = b := by
  cases x <;> cases y <;> simp only [eqS, Option.some.injEq, reduceCtorEq] at e <;> (simp only [Rp] at hx hy; subst hx; subst hy; subst e) <;> refine ⟨rfl, ?_⟩ <;> first | rfl | (rw [dec_int]) | (rw [dec_bl]) | (rw [dec_str]) | simp
def eqF : D → D → Sto → Option (D × Sto) := fun x y S => match eqB S x y with
  | some b => some (.bl b, S)
  | none => none
def neF : D → D → Sto → Option (D × Sto) := fun x y S => match eqB S x y with
  | some b => some (.bl (!b), S)
  | none => none
theorem eqB_ok {H m S} {x y : D} {b : Bool} {vx vy : V} (hS : SR K H m S) (e : eqB S x y = some b) (hx : Rp K H m x vx) (hy : Rp K H m y vy) :
    (scal vx vy = true ∧ decide (vx = vy) = b) ∨ ∃ p q, Dp K.f H vx p ∧ Dp K.f H vy q ∧ SeqAt.shaped p = true ∧ SeqAt.shaped q = true ∧ PyData.eqv p q = b := by
  unfold eqB at e
  split at e
  · rename_i b' h1
    cases e
    exact .inl (eqS_ok h1 hx hy)
  · split at e
    · rename_i p q h1 h2
      split at e
      · rename_i hs
        cases e
        rw [Bool.and_eq_true] at hs
        exact .inr ⟨p, q, pyO_ok hS hx h1, pyO_ok hS hy h2, hs.1, hs.2, rfl⟩
      · cases e
    · cases e
theorem eqF_ok : FOk2 K eqF (fun x y H Q => rEq x y H Q ∨ rEqD K.f x y H Q) := by
  intro x y S d S' e H m vx vy Q hS hx hy q
  unfold eqF at e
  split at e
  · rename_i b h1
    cases e
    rcases eqB_ok hS h1 hx hy with ⟨h2, h3⟩ | ⟨p, r, h2, h3, h4, h5, h6⟩
    · exact .inl ⟨h2, by rw [h3]; exact fin_bl hS q⟩
    · exact .inr ⟨p, r, h2, h3, h4, h5, by rw [h6]; exact fin_bl hS q⟩
  · cases e
theorem neF_ok : FOk2 K neF (fun x y H Q => rNe x y H Q ∨ rNeD K.f x y H Q) := by
  intro x y S d S' e H m vx vy Q hS hx hy q
  unfold neF at e
  split at e
  · rename_i b h1
    cases e
    rcases eqB_ok hS h1 hx hy with ⟨h2, h3⟩ | ⟨p, r, h2, h3, h4, h5, h6⟩
    · exact .inl ⟨h2, by rw [h3]; exact fin_bl hS q⟩
    · exact .inr ⟨p, r, h2, h3, h4, h5, by rw [h6]; exact fin_bl hS q⟩
  · cases e
theorem or_eq (hu : X.A.units + 64 < cLine) : OpR X (compareOp .Eq) (fun x y H Q => rEq x y H Q ∨ rEqD X.K x y H Q) := op_eq.or (op_eqD hu)
theorem or_ne (hu : X.A.units + 64 < cLine) : OpR X (compareOp .NotEq) (fun x y H Q => rNe x y H Q ∨ rNeD X.K x y H Q) := op_ne.or (op_neD hu)
/-! ### in -/
/-- x in a list of data -/
def inB (S : Sto) (x y : D) : Option Bool := match pyD x, pyO S y with
  | some p, some (.list ds) => if SeqAt.shaped p && SeqAt.shaped (.list ds) then some (ds.any fun z => PyData.eqv z p) else none
  | _, _ => none
/-- x in a tuple of flat values -/
def flatD : D → Bool
  | .non => true | .bl _ => true | .int _ => true | .str _ => true | _ => false
def eqFl : D → D → Bool
  | .non, .non => true
  | .bl a, .bl b => a == b
  | .bl a0, .int b => (if a0 then 1 else 0) == b
  | .int a0, .bl b => a0 == (if b then 1 else 0)
  | .int a, .int b => a == b
  | .str a, .str b => a == b
  | _, _ => false
def inT (x y : D) : Option Bool := match y with
  | .tup ys => if flatD x && ys.all flatD then some (ys.any fun z => eqFl z x) else none
  | _ => none
theorem flatD_ok {H m} {x : D} {v : V} (h : Rp K H m x v) : flatD x = true → flatV v = true := by
  cases x <;> simp only [flatD, Bool.false_eq_true, false_imp_iff, imp_true_iff, forall_const, true_imp_iff] <;> (try (rw [Rp] at h; subst h; rfl))
theorem eqFl_ok {H m} {x y : D} {v w : V} (h : Rp K H m x v) (h' : Rp K H m y w) (f : flatD x = true) (g : flatD y = true) : eqV v w = eqFl x y := by
  cases x <;> simp only [flatD, Bool.false_eq_true] at f <;> cases y <;> simp only [flatD, Bool.false_eq_true] at g <;> (simp only [Rp] at h h'; subst h; subst h'; rfl)
theorem flats_ok {H m} : ∀ {xs : List D} {vs : List V}, Rps K H m xs vs → xs.all flatD = true → vs.all flatV = true
  | [], vs, h, _ => by rw [Rps] at h; subst h; rfl
  | x :: xs, vs, h, f => by
    rw [Rps] at h
    obtain ⟨w, r, rfl, h1, h2⟩ := h
    simp only [List.all_cons, Bool.and_eq_true] at f ⊢
    exact ⟨flatD_ok h1 f.1, flats_ok h2 f.2⟩
theorem inV_ok {H m} {x : D} {v : V} (h : Rp K H m x v) (f : flatD x = true) : ∀ {xs : List D} {vs : List V}, Rps K H m xs vs → xs.all flatD = true → inV v vs = xs.any fun z => eqFl z x
  | [], vs, h, _ => by rw [Rps] at h; subst h; rfl
  | y :: xs, vs, h', g => by
    rw [Rps] at h'
    obtain ⟨w, r, rfl, h1, h2⟩ := h'
    simp only [List.all_cons, Bool.and_eq_true] at g
    have := inV_ok h f h2 g.2
    unfold inV at this ⊢
    rw [List.any_cons, List.any_cons, this, eqFl_ok h1 h g.1 f]
def inF (neg : Bool) : D → D → Sto → Option (D × Sto) := fun x y S => match inT x y with
  | some b => some (.bl (if neg then !b else b), S)
  | none => match inB S x y with
    | some b => some (.bl (if neg then !b else b), S)
    | none => none
theorem inT_ok {H m S neg} {x y : D} {b : Bool} {vx vy : V} {Q : VK} (hS : SR K H m S) (e : inT x y = some b) (hx : Rp K H m x vx) (hy : Rp K H m y vy) (q : Fin K H m S (.bl (if neg then !b else b)) Q) : rIn K.f neg vx vy H Q := by
  unfold inT at e
  split at e
  · rename_i ys
    split at e
    · rename_i hf
      cases e
      rw [Bool.and_eq_true] at hf
      rw [Rp] at hy
      obtain ⟨a, vs, rfl, ha, hv⟩ := hy
      refine ⟨a, vs, rfl, .inr ha, flatD_ok hx hf.1, flats_ok hv hf.2, ?_⟩
      rw [inV_ok hx hf.1 hv hf.2]
      exact fin_bl hS q
    · cases e
  · cases e
theorem inB_ok {H m S} {x y : D} {b : Bool} {vx vy : V} (hS : SR K H m S) (e : inB S x y = some b) (hx : Rp K H m x vx) (hy : Rp K H m y vy) :
    ∃ d ds, Dp K.f H vx d ∧ Dp K.f H vy (.list ds) ∧ SeqAt.shaped d = true ∧ SeqAt.shaped (.list ds) = true ∧ (ds.any fun z => PyData.eqv z d) = b := by
  unfold inB at e
  split at e
  · rename_i p ds h1 h2
    split at e
    · rename_i hs
      cases e
      rw [Bool.and_eq_true] at hs
      exact ⟨p, ds, pyD_ok _ _ _ hx h1, pyO_ok hS hy h2, hs.1, hs.2, rfl⟩
    · cases e
  · cases e
theorem inF_ok : FOk2 K (inF false) (fun x y H Q => rIn K.f false x y H Q ∨ rInD K.f x y H Q) := by
  intro x y S d S' e H m vx vy Q hS hx hy q
  unfold inF at e
  split at e
  · rename_i b h1
    cases e
    exact .inl (inT_ok hS h1 hx hy q)
  · split at e
    · rename_i b h1
      cases e
      obtain ⟨p, ds, h2, h3, h4, h5, h6⟩ := inB_ok hS h1 hx hy
      exact .inr ⟨p, ds, h2, h3, h4, h5, by rw [h6]; exact fin_bl hS q⟩
    · cases e
theorem notInF_ok : FOk2 K (inF true) (fun x y H Q => rIn K.f true x y H Q ∨ rNotInD K.f x y H Q) := by
  intro x y S d S' e H m vx vy Q hS hx hy q
  unfold inF at e
  split at e
  · rename_i b h1
    cases e
    exact .inl (inT_ok hS h1 hx hy q)
  · split at e
    · rename_i b h1
      cases e
      obtain ⟨p, ds, h2, h3, h4, h5, h6⟩ := inB_ok hS h1 hx hy
      exact .inr ⟨p, ds, h2, h3, h4, h5, by rw [h6]; exact fin_bl hS q⟩
    · cases e
theorem or_in (hu : X.A.units + 65 < cLine) : OpR X (compareOp .In) (fun x y H Q => rIn X.K false x y H Q ∨ rInD X.K x y H Q) := op_in_seq.or (op_inD hu)
theorem or_notIn (hu : X.A.units + 65 < cLine) : OpR X (compareOp .NotIn) (fun x y H Q => rIn X.K true x y H Q ∨ rNotInD X.K x y H Q) := op_notIn_seq.or (op_notInD hu)
/-! ### is None, is True -/
def isN : D → Bool
  | .non => true
  | _ => false
def isF (neg : Bool) : D → D → Sto → Option (D × Sto)
  | x, .non, S => some (.bl (if neg then !isN x else isN x), S)
  | _, _, _ => none
theorem isN_ok {H m} {x : D} {v : V} (h : Rp K H m x v) : decide (v = V.non) = isN x := by
  cases x with
  | non => rw [Rp] at h; subst h; rfl
  | bl b => rw [Rp] at h; subst h; rfl
  | int b => rw [Rp] at h; subst h; rfl
  | str b => rw [Rp] at h; subst h; rfl
  | tup b => rw [Rp] at h; obtain ⟨_, _, rfl, _⟩ := h; rfl
  | rl b => rw [Rp] at h; obtain ⟨_, _, rfl, _⟩ := h; rfl
  | ref b => rw [Rp] at h; obtain ⟨_, _, rfl⟩ := h; rfl
  | gl b => rw [Rp] at h; obtain ⟨_, rfl, _⟩ := h; rfl
theorem isF_ok : FOk2 K (isF false) (fun x y H Q => y = .non ∧ Q (.bl (decide (x = .non))) H) := by
  intro x y S d S' e H m vx vy Q hS hx hy q
  unfold isF at e
  split at e
  · cases e
    rw [Rp] at hy
    exact ⟨hy, by rw [isN_ok hx]; exact fin_bl hS q⟩
  · cases e
theorem notF_ok : FOk2 K (isF true) (fun x y H Q => y = .non ∧ Q (.bl (!decide (x = .non))) H) := by
  intro x y S d S' e H m vx vy Q hS hx hy q
  unfold isF at e
  split at e
  · cases e
    rw [Rp] at hy
    exact ⟨hy, by rw [isN_ok hx]; exact fin_bl hS q⟩
  · cases e
end
end Ml
namespace Ml
open L2 PyProof.Rows PySem PySem.Spec
section
variable {tb : List NdefX.NTab} {X : Cx} {K : Kx} {a b c e : Expr} {es : List Expr} {ea eb ec : EvM} {pos : Pos}
/-! ### by place -/
theorem atI_rp {H m} {xs : List D} {vs : List V} {i : Int} {d : D} (h : Rps K H m xs vs) (e : atI xs i = some d) : ∃ v, atI vs i = some v ∧ Rp K H m d v := by
  unfold atI at e ⊢
  rw [h.length]
  cases hj : ixN xs.length i with
  | none => rw [hj] at e; cases e
  | some j =>
    rw [hj] at e
    exact h.get (by simpa using e)
def ixF : D → D → Sto → Option (D × Sto)
  | .tup xs, .int i, S => match atI xs i with
    | some d => some (d, S)
    | none => none
  | .ref n, .int i, S => match S[n]? with
    | some (.lst xs) => match atI xs i with
      | some d => some (d, S)
      | none => none
    | _ => none
  | .str z, .int i, S => if z.length ≤ sizeLine then match atI z.cps.toList i with
      | some c => some (.str ⟨#[c]⟩, S)
      | none => none
    else none
  | .rl xs, .int i, S => match atI xs i with
    | some d => some (d, S)
    | none => none
  | _, _, _ => none
theorem ixF_ok : FOk2 K ixF (rIx K.f) := by
  intro x y S d S' e H m vx vy Q hS hx hy q
  unfold ixF at e
  split at e
  · rename_i xs i
    split at e
    · rename_i d' h1
      cases e
      simp only [Rp] at hx hy
      obtain ⟨a, vs, rfl, ha, hv⟩ := hx
      obtain ⟨v, h2, h3⟩ := atI_rp hv h1
      exact .inr (.inl ⟨a, vs, i, v, rfl, hy, ha, h2, q v H m .refl hS h3⟩)
    · cases e
  · rename_i n i
    split at e
    · rename_i xs h1
      split at e
      · rename_i d' h2
        cases e
        simp only [Rp] at hx hy
        obtain ⟨a, ea, rfl⟩ := hx
        obtain ⟨a', vs, m1, k1, r1⟩ := hS.lst h1
        rw [ea] at m1; cases m1
        obtain ⟨v, h3, h4⟩ := atI_rp r1 h2
        exact .inl ⟨a, vs, i, v, rfl, hy, SqL.of k1, h3, q v H m .refl hS h4⟩
      · cases e
    · cases e
  · rename_i z i
    split at e
    · rename_i hz
      split at e
      · rename_i c h1
        cases e
        simp only [Rp] at hx hy
        exact .inr (.inr ⟨z, i, c, hx, hy, hz, h1, fin_str hS q⟩)
      · cases e
    · cases e
  · rename_i xs i
    split at e
    · rename_i d' h1
      cases e
      simp only [Rp] at hx hy
      obtain ⟨a, vs, rfl, ha, hv⟩ := hx
      obtain ⟨v, h2, h3⟩ := atI_rp hv h1
      exact .inl ⟨a, vs, i, v, rfl, hy, ha.sq, h2, q v H m .refl hS h3⟩
    · cases e
  · cases e
theorem me_ix (ha : ME tb X a ea) (hb : ME tb X b eb) (hs : PlainIx b := by exact fun _ _ => rfl) : ME tb X (.Subscript a b pos) (binM ixF ea eb) :=
  PE.imp (pe_ix ix_seq ha hb hs) fun _ _ _ h => bin_core ixF_ok h
/-! ### slices -/
abbrev OvM := Sl → Sto → Option (Option Int × Sto)
def tOM (K : Kx) (e : OvM) : TO := fun σ H Q => ∃ m S γ d S', SR K H m S ∧ SLR K H m γ σ ∧ e γ S = some (d, S') ∧ ∀ H' m', Ext K H m H' m' → SR K H' m' S' → Q d H'
abbrev MO (tb : List NdefX.NTab) (X : Cx) (e : Option Expr) (m : OvM) : Prop := PO X e (tOM (kx tb X) m)
def noM : OvM := fun _ S => some (none, S)
def partM (e : EvM) : OvM := fun γ S => match e γ S with
  | some (.int i, S') => some (some i, S')
  | _ => none
theorem PO.imp {e : Option Expr} {t t' : TO} (h : PO X e t) (hi : ∀ σ H Q, t' σ H Q → t σ H Q) : PO X e t' := ⟨fun pins s σ H Q I q => h.run pins s σ H Q I (hi σ H Q q)⟩
theorem mo_none : MO tb X none noM := PO.imp po_none fun σ H Q h => by
  obtain ⟨m, S, γ, d, S', hS, hγ, e1, q⟩ := h
  cases e1
  exact q H m .refl hS
theorem mo_some (h : ME tb X a ea) : MO tb X (some a) (partM ea) := PO.imp (po_some h) fun σ H Q h => by
  obtain ⟨m, S, γ, d, S', hS, hγ, e1, q⟩ := h
  unfold partM at e1
  split at e1
  · rename_i i S1 h1
    cases e1
    refine ⟨m, S, γ, _, _, hS, hγ, h1, fun w H' m' e2 hS' hw => ?_⟩
    rw [Rp] at hw
    exact ⟨_, hw, q H' m' e2 hS'⟩
  · cases e1
def cutX {α : Type} (xs : List α) (lo hi : Option Int) : List α := (xs.drop (HT.sIx xs.length 0 lo)).take (HT.sIx xs.length xs.length hi - HT.sIx xs.length 0 lo)
theorem cutX_rp {H m} {xs : List D} {vs : List V} (h : Rps K H m xs vs) (lo hi : Option Int) : Rps K H m (cutX xs lo hi) (cutV vs lo hi) := by
  unfold cutX cutV
  rw [h.length]
  exact (h.drop _).take _
theorem cutX_whole {α : Type} {xs : List α} {lo hi : Option Int} (h : HT.sIx xs.length 0 lo = 0 ∧ HT.sIx xs.length xs.length hi = xs.length) : cutX xs lo hi = xs := by
  unfold cutX
  rw [h.1, h.2]
  simp
def slF (x : D) (lo hi : Option Int) (S : Sto) : Option (D × Sto) := match x with
  | .tup xs => some (.tup (cutX xs lo hi), S)
  | .ref n => match S[n]? with
    | some (.lst xs) => some (.ref S.length, S ++ [.lst (cutX xs lo hi)])
    | _ => none
  | .str z => if z.length ≤ sizeLine then some (.str (cutS z lo hi), S) else none
  | _ => none
def slM (ea : EvM) (l h : OvM) : EvM := fun γ S => match ea γ S with
  | none => none
  | some (x, S1) => match l γ S1 with
    | none => none
    | some (lo, S2) => match h γ S2 with
      | none => none
      | some (hi, S3) => slF x lo hi S3
def rSlAll (K : PySem.W.Frag) : V → Option Int → Option Int → Hp → VK → Prop := fun x lo hi H Q => rSlA K x lo hi H Q ∨ rSlL K x lo hi H Q ∨ rSlS x lo hi H Q
theorem sl_all : SlR X (rSlAll X.K) := sl_tupA.or (sl_list.or sl_str)
theorem slF_ok {H m S x lo hi d S' vx} {Q : VK} (e : slF x lo hi S = some (d, S')) (hS : SR K H m S) (hx : Rp K H m x vx) (q : Fin K H m S' d Q) : rSlAll K.f vx lo hi H Q := by
  unfold slF at e
  split at e
  · rename_i xs
    cases e
    simp only [Rp] at hx
    obtain ⟨a, vs, rfl, ha, hv⟩ := hx
    refine .inl ⟨a, vs, rfl, ha, fun z => ?_, fun _ => fin_tup hS (cutX_rp hv lo hi) q⟩
    rw [hv.length] at z
    refine q _ H m .refl hS ?_
    rw [cutX_whole z, Rp]
    exact ⟨a, vs, rfl, ha, hv⟩
  · rename_i n
    split at e
    · rename_i xs h1
      cases e
      simp only [Rp] at hx
      obtain ⟨a, ea, rfl⟩ := hx
      obtain ⟨a', vs, m1, k1, r1⟩ := hS.lst h1
      rw [ea] at m1; cases m1
      exact .inr (.inl ⟨a, vs, rfl, SqL.of k1, fin_lst hS (cutX_rp r1 lo hi) q⟩)
    · cases e
  · rename_i z
    split at e
    · rename_i hz
      cases e
      simp only [Rp] at hx
      exact .inr (.inr ⟨z, hx, hz, fin_str hS q⟩)
    · cases e
  · cases e
theorem me_slice {lo hi : Option Expr} {l h : OvM} {p2 : Pos} (ha : ME tb X a ea) (hl : MO tb X lo l) (hh : MO tb X hi h) : ME tb X (.Subscript a (.Slice lo hi none p2) pos) (slM ea l h) := by
  refine PE.imp (pe_slice sl_all ha hl hh) fun σ H Q hw => ?_
  obtain ⟨m, S, γ, d, S', hS, hγ, e1, q⟩ := hw
  unfold slM at e1
  split at e1
  · cases e1
  · rename_i x S1 h1
    split at e1
    · cases e1
    · rename_i u S2 h2
      split at e1
      · cases e1
      · rename_i v S3 h3
        refine ⟨m, S, γ, x, S1, hS, hγ, h1, fun w H1 m1 x1 hS1 hx => ?_⟩
        refine ⟨m1, S1, γ, u, S2, hS1, hγ.mono x1, h2, fun H2 m2 x2 hS2 => ?_⟩
        refine ⟨m2, S2, γ, v, S3, hS2, (hγ.mono x1).mono x2, h3, fun H3 m3 x3 hS3 => ?_⟩
        exact slF_ok e1 hS3 ((hx.mono x2).mono x3) fun y H4 m4 x4 => q y H4 m4 (x1.trans (x2.trans (x3.trans x4)))
/-- xs[::-1] of a list -/
def revM (ea : EvM) : EvM := fun γ S => match ea γ S with
  | some (.ref n, S1) => match S1[n]? with
    | some (.lst xs) => some (.ref S1.length, S1 ++ [.lst xs.reverse])
    | _ => none
  | _ => none
theorem me_rev {k : Nat} {p1 p2 p3 : Pos} (ha : ME tb X a ea) : ME tb X (.Subscript a (.Slice none none (some (.UnaryOp .USub (.Constant (.int 1) k p1) p2)) p3) pos) (revM ea) := by
  refine PE.imp (pe_revL ha) fun σ H Q h => ?_
  obtain ⟨m, S, γ, d, S', hS, hγ, e1, q⟩ := h
  unfold revM at e1
  split at e1
  · rename_i n S1 h1
    split at e1
    · rename_i xs h2
      cases e1
      refine ⟨m, S, γ, _, _, hS, hγ, h1, fun w H1 m1 x1 hS1 hw => ?_⟩
      simp only [Rp] at hw
      obtain ⟨a, ea, rfl⟩ := hw
      obtain ⟨a', vs, m2, k1, r1⟩ := hS1.lst h2
      rw [ea] at m2; cases m2
      exact ⟨a, vs, rfl, SqL.of k1, fin_lst hS1 r1.reverse fun y H4 m4 x4 => q y H4 m4 (x1.trans x4)⟩
    · cases e1
  · cases e1
/-! ### arguments, displays -/
def nilA : AvM := fun _ S => some ([], S)
def consA (e : EvM) (r : AvM) : AvM := fun γ S => match e γ S with
  | none => none
  | some (x, S1) => match r γ S1 with
    | none => none
    | some (xs, S2) => some (x :: xs, S2)
theorem tnil_core {σ : L2.St} {H : Hp} {Q : List V → Hp → Prop} (h : tAM K nilA σ H Q) : tNil σ H Q := by
  obtain ⟨m, S, γ, d, S', hS, hγ, e1, q⟩ := h
  cases e1
  exact q [] H m .refl hS Rps.nil
theorem tcons_core {ra : AvM} {σ : L2.St} {H : Hp} {Q : List V → Hp → Prop} (h : tAM K (consA ea ra) σ H Q) : tCons (tM K ea) (tAM K ra) σ H Q := by
  obtain ⟨m, S, γ, d, S', hS, hγ, e1, q⟩ := h
  unfold consA at e1
  split at e1
  · cases e1
  · rename_i x S1 h1
    split at e1
    · cases e1
    · rename_i xs S2 h2
      cases e1
      refine ⟨m, S, γ, x, S1, hS, hγ, h1, fun w H1 m1 x1 hS1 hw => ?_⟩
      refine ⟨m1, S1, γ, xs, _, hS1, hγ.mono x1, h2, fun ws H2 m2 x2 hS2 hws => ?_⟩
      exact q _ H2 m2 (x1.trans x2) hS2 (Rps.cons (hw.mono x2) hws)
theorem ma_nil : MA tb X [] nilA := PA.imp pa_nil fun _ _ _ h => tnil_core h
theorem ma_cons {ra : AvM} (ha : ME tb X e ea) (hr : MA tb X es ra) (hs : starEach (e :: es) X.env = (false, eval e X.env) :: starEach es X.env := by rfl) : MA tb X (e :: es) (consA ea ra) :=
  PA.imp (pa_cons ha hr hs) fun _ _ _ h => tcons_core h
theorem mk_nil : MK tb X [] nilA := PK.imp pk_nil fun _ _ _ h => tnil_core h
theorem mk_cons {kws : List Keyword} {nm : Option Str} {kpos : Pos} {ra : AvM} (ha : ME tb X e ea) (hr : MK tb X kws ra) : MK tb X (⟨nm, e, kpos⟩ :: kws) (consA ea ra) :=
  PK.imp (pk_cons ha hr) fun _ _ _ h => tcons_core h
def tupM (r : AvM) : EvM := fun γ S => match r γ S with
  | some (xs, S') => if xs.length ≤ sizeLine then some (.tup xs, S') else none
  | none => none
def lstM (r : AvM) : EvM := fun γ S => match r γ S with
  | some (xs, S') => if xs.length ≤ sizeLine then some (.ref S'.length, S' ++ [.lst xs]) else none
  | none => none
theorem me_tup {x1 : Nat} {r : AvM} (h : MA tb X es r) : ME tb X (.Tuple es x1 pos) (tupM r) := by
  refine PE.imp (pe_tup h) fun σ H Q hw => ?_
  obtain ⟨m, S, γ, d, S', hS, hγ, e1, q⟩ := hw
  unfold tupM at e1
  split at e1
  · rename_i xs S1 h1
    split at e1
    · rename_i hz
      cases e1
      refine ⟨m, S, γ, xs, _, hS, hγ, h1, fun vs H1 m1 x1 hS1 hv => ⟨by rw [hv.length]; exact hz, ?_⟩⟩
      exact fin_tup hS1 hv fun y H4 m4 x4 => q y H4 m4 (x1.trans x4)
    · cases e1
  · cases e1
theorem me_lst {r : AvM} (h : MA tb X es r) : ME tb X (.List es pos) (lstM r) := by
  refine PE.imp (pe_lst h) fun σ H Q hw => ?_
  obtain ⟨m, S, γ, d, S', hS, hγ, e1, q⟩ := hw
  unfold lstM at e1
  split at e1
  · rename_i xs S1 h1
    split at e1
    · rename_i hz
      cases e1
      refine ⟨m, S, γ, xs, _, hS, hγ, h1, fun vs H1 m1 x1 hS1 hv => ⟨by rw [hv.length]; exact hz, ?_⟩⟩
      exact fin_lst hS1 hv fun y H4 m4 x4 => q y H4 m4 (x1.trans x4)
    · cases e1
  · cases e1
/-! ### truth -/
def truB (S : Sto) : D → Option Bool
  | .non => some false
  | .bl b => some b
  | .int i => some (i != 0)
  | .str z => if z.length ≤ sizeLine then some ((z.length : Int) != 0) else none
  | .tup xs => some (!xs.isEmpty)
  | .rl _ => none
  | .gl _ => none
  | .ref n => match S[n]? with
    | some (.lst xs) => some (!xs.isEmpty)
    | some (.dk kvs) => some (!kvs.isEmpty)
    | _ => none
theorem isEmpty_rps {H m} {xs : List D} {vs : List V} (h : Rps K H m xs vs) : vs.isEmpty = xs.isEmpty := by
  have := h.length
  cases xs <;> cases vs <;> simp_all
theorem truB_ok {H m S d b v} (hS : SR K H m S) (h : Rp K H m d v) (e : truB S d = some b) : TruV K.f v H b := by
  unfold truB at e
  split at e
  · cases e; rw [Rp] at h; subst h; rfl
  · cases e; rw [Rp] at h; subst h; rfl
  · cases e; rw [Rp] at h; subst h; rfl
  · split at e
    · rename_i hz
      cases e; rw [Rp] at h; subst h; exact ⟨hz, rfl⟩
    · cases e
  · rename_i xs
    cases e
    rw [Rp] at h
    obtain ⟨a, vs, rfl, ha, hv⟩ := h
    exact .inr (.inl ⟨vs, ha, by rw [isEmpty_rps hv]⟩)
  · cases e
  · cases e
  · rename_i n
    rw [Rp] at h
    obtain ⟨a, ea, rfl⟩ := h
    split at e
    · rename_i xs h1
      cases e
      obtain ⟨a', vs, m1, k1, r1⟩ := hS.lst h1
      rw [ea] at m1; cases m1
      exact .inl ⟨vs, SqL.of k1, by rw [isEmpty_rps r1]⟩
    · rename_i kvs h1
      cases e
      obtain ⟨a', m1, ws, k1, r1⟩ := hS.addr h1
      rw [ea] at m1; cases m1
      refine .inr (.inr ⟨ws, k1, ?_⟩)
      cases r1 <;> rfl
    · cases e
def truC (e : EvM) : CvM := fun γ S => match e γ S with
  | none => none
  | some (d, S') => match truB S' d with
    | some b => some (b, S')
    | none => none
theorem mt_truth (ha : ME tb X a ea) (he : ∀ whole, isTrue a X.env whole = (do let v ← whole; standAt a.pos; holding [v] (truthy v)) := by intro _; rfl) : MT tb X a (truC ea) := by
  refine PT.imp (pt_truth ha he) fun σ H Q h => ?_
  obtain ⟨m, S, γ, b, S', hS, hγ, e1, q⟩ := h
  unfold truC at e1
  split at e1
  · cases e1
  · rename_i d S1 h1
    split at e1
    · rename_i b' h2
      cases e1
      exact ⟨m, S, γ, d, _, hS, hγ, h1, fun w H1 m1 x1 hS1 hw => ⟨_, truB_ok hS1 hw h2, q H1 m1 x1 hS1⟩⟩
    · cases e1
def notC (c : CvM) : CvM := fun γ S => match c γ S with
  | some (b, S') => some (!b, S')
  | none => none
def andC (c d : CvM) : CvM := fun γ S => match c γ S with
  | some (true, S') => d γ S'
  | some (false, S') => some (false, S')
  | none => none
def orC (c d : CvM) : CvM := fun γ S => match c γ S with
  | some (true, S') => some (true, S')
  | some (false, S') => d γ S'
  | none => none
variable {ca cb : CvM} {rest : List Expr}
theorem mt_not (ha : MT tb X a ca) : MT tb X (.UnaryOp .Not a pos) (notC ca) := by
  refine PT.imp (pt_not ha) fun σ H Q h => ?_
  obtain ⟨m, S, γ, b, S', hS, hγ, e1, q⟩ := h
  unfold notC at e1
  split at e1
  · rename_i b' S1 h1
    cases e1
    exact ⟨m, S, γ, b', _, hS, hγ, h1, fun H1 m1 x1 hS1 => q H1 m1 x1 hS1⟩
  · cases e1
theorem mw_and1 (ha : MT tb X a ca) : MW tb X (.BoolOp .And [a] pos) ca := pw_and1 ha
theorem mw_or1 (ha : MT tb X a ca) : MW tb X (.BoolOp .Or [a] pos) ca := pw_or1 ha
theorem and_core {σ : L2.St} {H : Hp} {Q : Bool → Hp → Prop} (h : tTM K (andC ca cb) σ H Q) : tAnd (tTM K ca) (tTM K cb) σ H Q := by
  obtain ⟨m, S, γ, b, S', hS, hγ, e1, q⟩ := h
  unfold andC at e1
  split at e1
  · rename_i S1 h1
    refine ⟨m, S, γ, true, _, hS, hγ, h1, fun H1 m1 x1 hS1 => ?_⟩
    refine iteT ?_
    exact ⟨m1, _, γ, b, S', hS1, hγ.mono x1, e1, fun H2 m2 x2 hS2 => q H2 m2 (x1.trans x2) hS2⟩
  · rename_i S1 h1
    cases e1
    refine ⟨m, S, γ, false, _, hS, hγ, h1, fun H1 m1 x1 hS1 => ?_⟩
    refine iteF ?_
    exact q H1 m1 x1 hS1
  · cases e1
theorem or_core {σ : L2.St} {H : Hp} {Q : Bool → Hp → Prop} (h : tTM K (orC ca cb) σ H Q) : tOr (tTM K ca) (tTM K cb) σ H Q := by
  obtain ⟨m, S, γ, b, S', hS, hγ, e1, q⟩ := h
  unfold orC at e1
  split at e1
  · rename_i S1 h1
    cases e1
    refine ⟨m, S, γ, true, _, hS, hγ, h1, fun H1 m1 x1 hS1 => ?_⟩
    refine iteT ?_
    exact q H1 m1 x1 hS1
  · rename_i S1 h1
    refine ⟨m, S, γ, false, _, hS, hγ, h1, fun H1 m1 x1 hS1 => ?_⟩
    refine iteF ?_
    exact ⟨m1, _, γ, b, S', hS1, hγ.mono x1, e1, fun H2 m2 x2 hS2 => q H2 m2 (x1.trans x2) hS2⟩
  · cases e1
theorem mw_and (ha : MT tb X a ca) (hb : MW tb X (.BoolOp .And (b :: rest) pos) cb) : MW tb X (.BoolOp .And (a :: b :: rest) pos) (andC ca cb) :=
  PW.imp (pw_and ha hb) fun _ _ _ h => and_core h
theorem mw_or (ha : MT tb X a ca) (hb : MW tb X (.BoolOp .Or (b :: rest) pos) cb) : MW tb X (.BoolOp .Or (a :: b :: rest) pos) (orC ca cb) :=
  PW.imp (pw_or ha hb) fun _ _ _ h => or_core h
/-- .. as values, all but the last one bools -/
def andV (ea eb : EvM) : EvM := fun γ S => match ea γ S with
  | some (.bl true, S') => eb γ S'
  | some (.bl false, S') => some (.bl false, S')
  | _ => none
def orV (ea eb : EvM) : EvM := fun γ S => match ea γ S with
  | some (.bl true, S') => some (.bl true, S')
  | some (.bl false, S') => eb γ S'
  | _ => none
def notV (ea : EvM) : EvM := fun γ S => match ea γ S with
  | some (.bl b, S') => some (.bl (!b), S')
  | _ => none
theorem me_one {op : BoolOp} (h : ME tb X a ea) : ME tb X (.BoolOp op [a] pos) ea := pe_one h
theorem me_and (ha : ME tb X a ea) (hb : ME tb X (.BoolOp .And (b :: rest) pos) eb) : ME tb X (.BoolOp .And (a :: b :: rest) pos) (andV ea eb) := by
  refine PE.imp (pe_and ha hb) fun σ H Q h => ?_
  obtain ⟨m, S, γ, b, S', hS, hγ, e1, q⟩ := h
  unfold andV at e1
  split at e1
  · rename_i S1 h1
    refine ⟨m, S, γ, _, _, hS, hγ, h1, fun w H1 m1 x1 hS1 hw => ⟨true, by rw [Rp] at hw; exact hw, ?_⟩⟩
    refine iteT ?_
    exact ⟨m1, _, γ, b, S', hS1, hγ.mono x1, e1, fun w H2 m2 x2 => q w H2 m2 (x1.trans x2)⟩
  · rename_i S1 h1
    cases e1
    refine ⟨m, S, γ, _, _, hS, hγ, h1, fun w H1 m1 x1 hS1 hw => ⟨false, by rw [Rp] at hw; exact hw, ?_⟩⟩
    refine iteF ?_
    exact q _ H1 m1 x1 hS1 (by rw [Rp])
  · cases e1
theorem me_or (ha : ME tb X a ea) (hb : ME tb X (.BoolOp .Or (b :: rest) pos) eb) : ME tb X (.BoolOp .Or (a :: b :: rest) pos) (orV ea eb) := by
  refine PE.imp (pe_or ha hb) fun σ H Q h => ?_
  obtain ⟨m, S, γ, b, S', hS, hγ, e1, q⟩ := h
  unfold orV at e1
  split at e1
  · rename_i S1 h1
    cases e1
    refine ⟨m, S, γ, _, _, hS, hγ, h1, fun w H1 m1 x1 hS1 hw => ⟨true, by rw [Rp] at hw; exact hw, ?_⟩⟩
    refine iteT ?_
    exact q _ H1 m1 x1 hS1 (by rw [Rp])
  · rename_i S1 h1
    refine ⟨m, S, γ, _, _, hS, hγ, h1, fun w H1 m1 x1 hS1 hw => ⟨false, by rw [Rp] at hw; exact hw, ?_⟩⟩
    refine iteF ?_
    exact ⟨m1, _, γ, b, S', hS1, hγ.mono x1, e1, fun w H2 m2 x2 => q w H2 m2 (x1.trans x2)⟩
  · cases e1
theorem me_not (ha : ME tb X a ea) : ME tb X (.UnaryOp .Not a pos) (notV ea) := by
  refine PE.imp (pe_not ha) fun σ H Q h => ?_
  obtain ⟨m, S, γ, b, S', hS, hγ, e1, q⟩ := h
  unfold notV at e1
  split at e1
  · rename_i k S1 h1
    cases e1
    exact ⟨m, S, γ, _, _, hS, hγ, h1, fun w H1 m1 x1 hS1 hw => ⟨k, by rw [Rp] at hw; exact hw, q _ H1 m1 x1 hS1 (by rw [Rp])⟩⟩
  · cases e1
/-- a if t else b -/
def ifM (c : CvM) (ea eb : EvM) : EvM := fun γ S => match c γ S with
  | some (true, S') => ea γ S'
  | some (false, S') => eb γ S'
  | none => none
theorem me_if (hc : MT tb X c ca) (ha : ME tb X a ea) (hb : ME tb X b eb) : ME tb X (.IfExp c a b pos) (ifM ca ea eb) := by
  refine PE.imp (pe_ifExp hc ha hb) fun σ H Q h => ?_
  obtain ⟨m, S, γ, d, S', hS, hγ, e1, q⟩ := h
  unfold ifM at e1
  split at e1
  · rename_i S1 h1
    refine ⟨m, S, γ, true, _, hS, hγ, h1, fun H1 m1 x1 hS1 => ?_⟩
    refine iteT ?_
    exact ⟨m1, _, γ, d, S', hS1, hγ.mono x1, e1, fun w H2 m2 x2 => q w H2 m2 (x1.trans x2)⟩
  · rename_i S1 h1
    refine ⟨m, S, γ, false, _, hS, hγ, h1, fun H1 m1 x1 hS1 => ?_⟩
    refine iteF ?_
    exact ⟨m1, _, γ, d, S', hS1, hγ.mono x1, e1, fun w H2 m2 x2 => q w H2 m2 (x1.trans x2)⟩
  · cases e1
/-! ### calls of built-ins -/
def FOkN (K : Kx) (F : List D → Sto → Option (D × Sto)) (r : List V → Hp → VK → Prop) : Prop :=
  ∀ xs S d S', F xs S = some (d, S') → ∀ H m vs Q, SR K H m S → Rps K H m xs vs → Fin K H m S' d Q → r vs H Q
def appM (F : List D → Sto → Option (D × Sto)) (r : AvM) : EvM := fun γ S => match r γ S with
  | some (xs, S') => F xs S'
  | none => none
theorem app_core {F : List D → Sto → Option (D × Sto)} {r : List V → Hp → VK → Prop} {ra : AvM} (hF : FOkN K F r) {σ : L2.St} {H : Hp} {Q : VK} (h : tM K (appM F ra) σ H Q) : tAM K ra σ H fun vs H1 => r vs H1 Q := by
  obtain ⟨m, S, γ, d, S', hS, hγ, e1, q⟩ := h
  unfold appM at e1
  split at e1
  · rename_i xs S1 h1
    exact ⟨m, S, γ, xs, S1, hS, hγ, h1, fun vs H1 m1 x1 hS1 hv => hF xs S1 d S' e1 H1 m1 vs Q hS1 hv fun w H2 m2 x2 => q w H2 m2 (x1.trans x2)⟩
  · cases e1
variable {x : Str} {p : Pos} {ra : AvM} {F : List D → Sto → Option (D × Sto)} {r : List V → Hp → VK → Prop}
theorem me_callB {id : String} (hc : CallR X (.builtin id) r) (hF : FOkN (kx tb X) F r) (hg : Gl X x) (hm : X.mg x = none) (hv : bootBuiltins x = some (.builtin id)) (ha : MA tb X (e :: es) ra) (hn : x ≠ "__name__" := by decide) (hdb : (x == ("__debug__" : Str)) = false := by decide)
    (he : starEach (e :: es) X.env = (false, eval e X.env) :: starEach es X.env := by rfl) (hpl : (backTo pos (starEach es X.env)).any (·.1) = false := by rfl) : ME tb X (.Call (.Name x p) (e :: es) [] pos) (appM F ra) :=
  PE.imp (pe_callB hc hg hm hv ha hn hdb he hpl) fun _ _ _ h => app_core hF h
theorem me_callTy {T : String} (hc : CallR X (.type T) r) (hF : FOkN (kx tb X) F r) (hg : Gl X x) (hm : X.mg x = none) (hv : bootBuiltins x = some (.type T)) (ha : MA tb X (e :: es) ra) (hn : x ≠ "__name__" := by decide) (hdb : (x == ("__debug__" : Str)) = false := by decide)
    (he : starEach (e :: es) X.env = (false, eval e X.env) :: starEach es X.env := by rfl) (hpl : (backTo pos (starEach es X.env)).any (·.1) = false := by rfl) : ME tb X (.Call (.Name x p) (e :: es) [] pos) (appM F ra) :=
  PE.imp (pe_callTy hc hg hm hv ha hn hdb he hpl) fun _ _ _ h => app_core hF h
end
end Ml
namespace Ml
open L2 PyProof.Rows PySem PySem.Spec
section
variable {tb : List NdefX.NTab} {X : Cx} {K : Kx} {a b c e : Expr} {es : List Expr} {ea eb ec : EvM} {pos : Pos}
/-! ### built-ins -/
def lenF : List D → Sto → Option (D × Sto)
  | [.str z], S => if z.length ≤ sizeLine then some (.int z.length, S) else none
  | [.tup xs], S => some (.int xs.length, S)
  | [.rl xs], S => some (.int xs.length, S)
  | [.ref n], S => match S[n]? with
    | some (.lst xs) => some (.int xs.length, S)
    | _ => none
  | _, _ => none
theorem Rps.one_iff {H m} {x : D} {vs : List V} (h : Rps K H m [x] vs) : ∃ v, vs = [v] ∧ Rp K H m x v := by
  simp only [Rps] at h
  obtain ⟨v, r, rfl, h1, rfl⟩ := h
  exact ⟨v, rfl, h1⟩
theorem Rps.two_iff {H m} {x y : D} {vs : List V} (h : Rps K H m [x, y] vs) : ∃ v w, vs = [v, w] ∧ Rp K H m x v ∧ Rp K H m y w := by
  simp only [Rps] at h
  obtain ⟨v, r, rfl, h1, w, r', rfl, h2, rfl⟩ := h
  exact ⟨v, w, rfl, h1, h2⟩
theorem lenF_ok : FOkN K lenF (fun xs H Q => ∃ x n, xs = [x] ∧ LenV K.f x H n ∧ Q (.int n) H) := by
  intro xs S d S' e H m vs Q hS hx q
  unfold lenF at e
  split at e
  · split at e
    · rename_i z hz
      cases e
      obtain ⟨v, rfl, h1⟩ := hx.one_iff
      rw [Rp] at h1; subst h1
      exact ⟨_, z.length, rfl, ⟨hz, rfl⟩, fin_int hS q⟩
    · cases e
  · rename_i xs
    cases e
    obtain ⟨v, rfl, h1⟩ := hx.one_iff
    rw [Rp] at h1
    obtain ⟨a, ws, rfl, ha, hv⟩ := h1
    exact ⟨_, xs.length, rfl, .inr ⟨ws, ha, hv.length.symm⟩, fin_int hS q⟩
  · rename_i xs
    cases e
    obtain ⟨v, rfl, h1⟩ := hx.one_iff
    rw [Rp] at h1
    obtain ⟨a, ws, rfl, ha, hv⟩ := h1
    exact ⟨_, xs.length, rfl, .inl ⟨ws, ha.sq, hv.length.symm⟩, fin_int hS q⟩
  · rename_i n
    split at e
    · rename_i xs h2
      cases e
      obtain ⟨v, rfl, h1⟩ := hx.one_iff
      rw [Rp] at h1
      obtain ⟨a, ea, rfl⟩ := h1
      obtain ⟨a', ws, m1, k1, r1⟩ := hS.lst h2
      rw [ea] at m1; cases m1
      exact ⟨_, xs.length, rfl, .inl ⟨ws, SqL.of k1, r1.length.symm⟩, fin_int hS q⟩
    · cases e
  · cases e
def intF : List D → Sto → Option (D × Sto)
  | [.int i], S => some (.int i, S)
  | [.bl k], S => some (.int (if k then 1 else 0), S)
  | _, _ => none
theorem intF_ok : FOkN K intF (fun xs H Q => (∃ i, xs = [.int i] ∧ Q (.int i) H) ∨ ∃ k, xs = [.bl k] ∧ Q (.int (if k then 1 else 0)) H) := by
  intro xs S d S' e H m vs Q hS hx q
  unfold intF at e
  split at e
  · cases e
    obtain ⟨v, rfl, h1⟩ := hx.one_iff
    rw [Rp] at h1; subst h1
    exact .inl ⟨_, rfl, fin_int hS q⟩
  · cases e
    obtain ⟨v, rfl, h1⟩ := hx.one_iff
    rw [Rp] at h1; subst h1
    exact .inr ⟨_, rfl, fin_int hS q⟩
  · cases e
def absF : List D → Sto → Option (D × Sto)
  | [.int i], S => some (.int (if i < 0 then -i else i), S)
  | _, _ => none
theorem absF_ok : FOkN K absF (fun xs H Q => ∃ i, xs = [.int i] ∧ Q (.int (if i < 0 then -i else i)) H) := by
  intro xs S d S' e H m vs Q hS hx q
  unfold absF at e
  split at e
  · cases e
    obtain ⟨v, rfl, h1⟩ := hx.one_iff
    rw [Rp] at h1; subst h1
    exact ⟨_, rfl, fin_int hS q⟩
  · cases e
def maxF : List D → Sto → Option (D × Sto)
  | [.int i, .int j], S => some (.int (if j > i then j else i), S)
  | _, _ => none
def minF : List D → Sto → Option (D × Sto)
  | [.int i, .int j], S => some (.int (if j < i then j else i), S)
  | _, _ => none
theorem maxF_ok : FOkN K maxF (fun xs H Q => ∃ i j, xs = [.int i, .int j] ∧ Q (.int (if j > i then j else i)) H) := by
  intro xs S d S' e H m vs Q hS hx q
  unfold maxF at e
  split at e
  · cases e
    obtain ⟨v, w, rfl, h1, h2⟩ := hx.two_iff
    simp only [Rp] at h1 h2; subst h1; subst h2
    exact ⟨_, _, rfl, fin_int hS q⟩
  · cases e
theorem minF_ok : FOkN K minF (fun xs H Q => ∃ i j, xs = [.int i, .int j] ∧ Q (.int (if j < i then j else i)) H) := by
  intro xs S d S' e H m vs Q hS hx q
  unfold minF at e
  split at e
  · cases e
    obtain ⟨v, w, rfl, h1, h2⟩ := hx.two_iff
    simp only [Rp] at h1 h2; subst h1; subst h2
    exact ⟨_, _, rfl, fin_int hS q⟩
  · cases e
def strF : List D → Sto → Option (D × Sto)
  | [.int i], S => if i.natAbs.log2 < 1920 then some (.str (toString i), S) else none
  | _, _ => none
theorem strF_ok : FOkN K strF (fun xs H Q => ∃ i, xs = [.int i] ∧ i.natAbs.log2 < 1920 ∧ Q (.str (toString i)) H) := by
  intro xs S d S' e H m vs Q hS hx q
  unfold strF at e
  split at e
  · split at e
    · rename_i i hz
      cases e
      obtain ⟨v, rfl, h1⟩ := hx.one_iff
      rw [Rp] at h1; subst h1
      exact ⟨_, rfl, hz, fin_str hS q⟩
    · cases e
  · cases e
def listF : List D → Sto → Option (D × Sto)
  | [.tup xs], S => some (.ref S.length, S ++ [.lst xs])
  | [.ref n], S => match S[n]? with
    | some (.lst xs) => some (.ref S.length, S ++ [.lst xs])
    | _ => none
  | _, _ => none
theorem listF_ok : FOkN K listF (fun xs H Q => ∃ p ys, xs = [.ref p] ∧ (SqL K.f H p ys ∨ SqT K.f H p ys) ∧ ∀ l, H l = none → Q (.ref l) (upd H l (.lst ys))) := by
  intro xs S d S' e H m vs Q hS hx q
  unfold listF at e
  split at e
  · cases e
    obtain ⟨v, rfl, h1⟩ := hx.one_iff
    rw [Rp] at h1
    obtain ⟨a, ws, rfl, ha, hv⟩ := h1
    exact ⟨a, ws, rfl, .inr ha, fin_lst hS hv q⟩
  · rename_i n
    split at e
    · rename_i xs h2
      cases e
      obtain ⟨v, rfl, h1⟩ := hx.one_iff
      rw [Rp] at h1
      obtain ⟨a, ea, rfl⟩ := h1
      obtain ⟨a', ws, m1, k1, r1⟩ := hS.lst h2
      rw [ea] at m1; cases m1
      exact ⟨a, ws, rfl, .inl (SqL.of k1), fin_lst hS r1 q⟩
    · cases e
  · cases e
def tupleF : List D → Sto → Option (D × Sto)
  | [.tup xs], S => some (.tup xs, S)
  | [.ref n], S => match S[n]? with
    | some (.lst xs) => some (.tup xs, S)
    | _ => none
  | _, _ => none
theorem tupleF_ok : FOkN K tupleF (fun xs H Q => ∃ p ys, xs = [.ref p] ∧ ((SqL K.f H p ys ∧ ∀ l, H l = none → Q (.ref l) (upd H l (.tup ys))) ∨ (SqT K.f H p ys ∧ Q (.ref p) H))) := by
  intro xs S d S' e H m vs Q hS hx q
  unfold tupleF at e
  split at e
  · cases e
    obtain ⟨v, rfl, h1⟩ := hx.one_iff
    rw [Rp] at h1
    obtain ⟨a, ws, rfl, ha, hv⟩ := h1
    exact ⟨a, ws, rfl, .inr ⟨ha, q _ H m .refl hS (by rw [Rp]; exact ⟨a, ws, rfl, ha, hv⟩)⟩⟩
  · rename_i n
    split at e
    · rename_i xs h2
      cases e
      obtain ⟨v, rfl, h1⟩ := hx.one_iff
      rw [Rp] at h1
      obtain ⟨a, ea, rfl⟩ := h1
      obtain ⟨a', ws, m1, k1, r1⟩ := hS.lst h2
      rw [ea] at m1; cases m1
      exact ⟨a, ws, rfl, .inl ⟨SqL.of k1, fin_tup hS r1 q⟩⟩
    · cases e
  · cases e
/-- the truths of a list of bools -/
def blsD : List D → Option (List Bool)
  | [] => some []
  | .bl b :: r => match blsD r with
    | some bs => some (b :: bs)
    | none => none
  | _ :: _ => none
theorem blsD_ok {H m} : ∀ {xs : List D} {vs : List V} {bs : List Bool}, Rps K H m xs vs → blsD xs = some bs → vs = bs.map V.bl
  | [], vs, bs, h, e => by rw [Rps] at h; cases e; subst h; rfl
  | x :: xs, vs, bs, h, e => by
    rw [Rps] at h
    obtain ⟨w, r, rfl, h1, h2⟩ := h
    cases x <;> simp only [blsD, reduceCtorEq] at e
    split at e
    · rename_i bs' h3
      cases e
      rw [Rp] at h1; subst h1
      rw [blsD_ok h2 h3]; rfl
    · cases e
def allF : List D → Sto → Option (D × Sto)
  | [.ref n], S => match S[n]? with
    | some (.lst xs) => match blsD xs with
      | some bs => some (.bl (bs.all id), S)
      | none => none
    | _ => none
  | _, _ => none
def anyF : List D → Sto → Option (D × Sto)
  | [.ref n], S => match S[n]? with
    | some (.lst xs) => match blsD xs with
      | some bs => some (.bl (bs.any id), S)
      | none => none
    | _ => none
  | _, _ => none
theorem allF_ok : FOkN K allF (rAll K.f) := by
  intro xs S d S' e H m vs Q hS hx q
  unfold allF at e
  split at e
  · rename_i n
    split at e
    · rename_i xs h2
      split at e
      · rename_i bs h3
        cases e
        obtain ⟨v, rfl, h1⟩ := hx.one_iff
        rw [Rp] at h1
        obtain ⟨a, ea, rfl⟩ := h1
        obtain ⟨a', ws, m1, k1, r1⟩ := hS.lst h2
        rw [ea] at m1; cases m1
        exact ⟨a, bs, rfl, by rw [← blsD_ok r1 h3]; exact SqL.of k1, fin_bl hS q⟩
      · cases e
    · cases e
  · cases e
theorem anyF_ok : FOkN K anyF (rAny K.f) := by
  intro xs S d S' e H m vs Q hS hx q
  unfold anyF at e
  split at e
  · rename_i n
    split at e
    · rename_i xs h2
      split at e
      · rename_i bs h3
        cases e
        obtain ⟨v, rfl, h1⟩ := hx.one_iff
        rw [Rp] at h1
        obtain ⟨a, ea, rfl⟩ := h1
        obtain ⟨a', ws, m1, k1, r1⟩ := hS.lst h2
        rw [ea] at m1; cases m1
        exact ⟨a, bs, rfl, by rw [← blsD_ok r1 h3]; exact SqL.of k1, fin_bl hS q⟩
      · cases e
    · cases e
  · cases e
/-! ### isinstance -/
/-- the name of a value's type -/
def tyN (S : Sto) : D → Option String
  | .non => some "NoneType"
  | .bl _ => some "bool"
  | .int _ => some "int"
  | .str _ => some "str"
  | .tup _ => some "tuple"
  | .rl _ => none
  | .gl _ => none
  | .ref n => match S[n]? with
    | some (O.lst _) => some "list"
    | some (.dk _) => some "dict"
    | _ => none
theorem tyN_ok {H m S d t v} (hS : SR K H m S) (h : Rp K H m d v) (e : tyN S d = some t) : TyX K.f H v (.type t) := by
  unfold tyN at e
  split at e
  · cases e; rw [Rp] at h; subst h; exact .base .non
  · cases e; rw [Rp] at h; subst h; exact .base (.bl _)
  · cases e; rw [Rp] at h; subst h; exact .base (.int _)
  · cases e; rw [Rp] at h; subst h; exact .base (.str _)
  · cases e
    rw [Rp] at h
    obtain ⟨a, vs, rfl, ha, _⟩ := h
    rcases ha with (ha | ⟨o, ha⟩) | ⟨o, its, n, h1, h2, _⟩
    · exact .base (.tup ha)
    · exact .fTuple ha
    · exact .kTuple h1 h2
  · cases e
  · cases e
  · rw [Rp] at h
    obtain ⟨a, ea, rfl⟩ := h
    split at e
    · rename_i xs h1
      cases e
      obtain ⟨a', vs, m1, k1, r1⟩ := hS.lst h1
      rw [ea] at m1; cases m1
      exact .base (.lst k1)
    · rename_i kvs h1
      cases e
      obtain ⟨a', m1, ws, k1, r1⟩ := hS.addr h1
      rw [ea] at m1; cases m1
      exact .base (.dK k1)
    · cases e
def isiM (T : String) (ea : EvM) : EvM := fun γ S => match ea γ S with
  | none => none
  | some (d, S') => match tyN S' d with
    | some t => match kitB t T with
      | some b => some (.bl b, S')
      | none => none
    | none => none
theorem me_isi {x : Str} {p p2 : Pos} {T : String} {y : Str} (hg : Gl X x) (hm : X.mg x = none) (hv : bootBuiltins x = some (.builtin "isinstance")) (ha : ME tb X a ea) (ht : PE X (.Name y p2) (tC (.ty T))) (hn : x ≠ "__name__" := by decide) (hdb : (x == ("__debug__" : Str)) = false := by decide)
    (hs : starEach [a, .Name y p2] X.env = (false, eval a X.env) :: starEach [.Name y p2] X.env := by rfl) (hpl : (backTo pos (starEach [.Name y p2] X.env)).any (·.1) = false := by rfl) (hs2 : starEach [.Name y p2] X.env = (false, eval (.Name y p2) X.env) :: starEach [] X.env := by rfl) :
    ME tb X (.Call (.Name x p) [a, .Name y p2] [] pos) (isiM T ea) := by
  refine PE.imp (pe_callB call_isi hg hm hv (pa_cons ha (pa_cons ht pa_nil hs2) hs) hn hdb hs hpl) fun σ H Q h => ?_
  obtain ⟨m, S, γ, d, S', hS, hγ, e1, q⟩ := h
  unfold isiM at e1
  split at e1
  · cases e1
  · rename_i d' S1 h1
    split at e1
    · rename_i t h2
      split at e1
      · rename_i b h3
        cases e1
        refine ⟨m, S, γ, d', _, hS, hγ, h1, fun w H1 m1 x1 hS1 hw => ?_⟩
        exact ⟨w, .ty T, .type t, .type T, b, rfl, .ty T, tyN_ok hS1 hw h2, kit_ty h3, q _ H1 m1 x1 hS1 (by rw [Rp])⟩
      · cases e1
    · cases e1
/-! ### methods -/
def FOkM (K : Kx) (F : D → List D → Sto → Option (D × Sto)) (r : V → List V → Hp → VK → Prop) : Prop :=
  ∀ x xs S d S', F x xs S = some (d, S') → ∀ H m vx vs Q, SR K H m S → Rp K H m x vx → Rps K H m xs vs → Fin K H m S' d Q → r vx vs H Q
def tyB (T : String) (S : Sto) : D → Bool
  | .str _ => T == "str"
  | .ref n => match S[n]? with
    | some (.lst _) => T == "list"
    | some (.dk _) => T == "dict"
    | _ => false
  | _ => false
theorem tyB_ok {H m S T d v} (hS : SR K H m S) (h : Rp K H m d v) (e : tyB T S d = true) : tyV K.f T v H := by
  unfold tyB at e
  split at e
  · rw [Rp] at h; subst h
    exact (beq_iff_eq.mp e)
  · rw [Rp] at h
    obtain ⟨a, ea, rfl⟩ := h
    split at e
    · rename_i xs h1
      obtain ⟨a', vs, m1, k1, r1⟩ := hS.lst h1
      rw [ea] at m1; cases m1
      exact .inl ⟨beq_iff_eq.mp e, vs, SqL.of k1⟩
    · rename_i kvs h1
      obtain ⟨a', m1, ws, k1, r1⟩ := hS.addr h1
      rw [ea] at m1; cases m1
      exact .inr (.inr (.inl ⟨beq_iff_eq.mp e, .inl ⟨ws, k1⟩⟩))
    · cases e
  · cases e
def metM (T : String) (F : D → List D → Sto → Option (D × Sto)) (eo : EvM) (ra : AvM) : EvM := fun γ S => match eo γ S with
  | none => none
  | some (x, S1) => if tyB T S1 x = true then match ra γ S1 with
      | none => none
      | some (xs, S2) => F x xs S2
    else none
variable {o : Expr} {eo : EvM} {ra : AvM} {F : D → List D → Sto → Option (D × Sto)} {r : V → List V → Hp → VK → Prop} {name : Str} {apos cpos : Pos} {T id : String}
theorem me_bm (pa : PlainAttrs T) (slot : Slot T name id) (hty : typeOf (.builtin id) = pure (.type "method_descriptor")) (hm : MtR X id r) (hF : FOkM (kx tb X) F r) (ho : ME tb X o eo) (ha : MA tb X (e :: es) ra)
    (hbase : attributeBase o name X.env (eval o X.env) = eval o X.env := by rfl) (hfew : ((backTo cpos (starEach (e :: es) X.env)).all (fun x => !x.1) && (backToKw cpos (keywordEach [] X.env)).all (fun x => x.1.isSome) && decide ((e :: es).length + ([] : List Keyword).length + (if ([] : List Keyword).isEmpty then 0 else 1) < 30)) = true := by rfl) (hline : (apos.endLine == cpos.line) = true := by rfl) (hs : starEach (e :: es) X.env = (false, eval e X.env) :: starEach es X.env := by rfl) (hplain : (backTo cpos (starEach es X.env)).any (·.1) = false := by rfl) :
    ME tb X (.Call (.Attribute o name apos) (e :: es) [] cpos) (metM T F eo ra) := by
  refine PE.imp (pe_bm pa slot hty hm ho ha hbase hfew hline hs hplain) fun σ H Q h => ?_
  obtain ⟨m, S, γ, d, S', hS, hγ, e1, q⟩ := h
  unfold metM at e1
  split at e1
  · cases e1
  · rename_i x S1 h1
    split at e1
    · rename_i ht
      split at e1
      · cases e1
      · rename_i xs S2 h2
        refine ⟨m, S, γ, x, S1, hS, hγ, h1, fun w H1 m1 x1 hS1 hw => ⟨tyB_ok hS1 hw ht, ?_⟩⟩
        refine ⟨m1, S1, γ, xs, S2, hS1, hγ.mono x1, h2, fun ws H2 m2 x2 hS2 hws => ?_⟩
        exact hF x xs S2 d S' e1 H2 m2 w ws Q hS2 (hw.mono x2) hws fun y H3 m3 x3 => q y H3 m3 (x1.trans (x2.trans x3))
    · cases e1
theorem me_bm0 (pa : PlainAttrs T) (slot : Slot T name id) (hty : typeOf (.builtin id) = pure (.type "method_descriptor")) (hm : MtR X id r) (hF : FOkM (kx tb X) F r) (ho : ME tb X o eo)
    (hbase : attributeBase o name X.env (eval o X.env) = eval o X.env := by rfl) (hline : (apos.endLine == cpos.line) = true := by rfl) : ME tb X (.Call (.Attribute o name apos) [] [] cpos) (metM T F eo nilA) := by
  refine PE.imp (pe_bm0 pa slot hty hm ho hbase hline) fun σ H Q h => ?_
  obtain ⟨m, S, γ, d, S', hS, hγ, e1, q⟩ := h
  unfold metM nilA at e1
  split at e1
  · cases e1
  · rename_i x S1 h1
    split at e1
    · rename_i ht
      dsimp only at e1
      refine ⟨m, S, γ, x, S1, hS, hγ, h1, fun w H1 m1 x1 hS1 hw => ⟨tyB_ok hS1 hw ht, ?_⟩⟩
      exact hF x [] S1 d S' e1 H1 m1 w [] Q hS1 hw Rps.nil fun y H3 m3 x3 => q y H3 m3 (x1.trans x3)
    · cases e1
def appendF : D → List D → Sto → Option (D × Sto)
  | .ref n, [y], S => match S[n]? with
    | some (.lst xs) => if xs.length < sizeLine then some (.non, S.set n (.lst (xs ++ [y]))) else none
    | _ => none
  | _, _, _ => none
theorem appendF_ok : FOkM K appendF rAppend := by
  intro x xs S d S' e H m vx vs Q hS hx hxs q
  unfold appendF at e
  split at e
  · rename_i n y
    split at e
    · rename_i zs h1
      split at e
      · rename_i hz
        cases e
        simp only [Rp] at hx
        obtain ⟨a, ea, rfl⟩ := hx
        obtain ⟨v, rfl, hy⟩ := hxs.one_iff
        obtain ⟨a', ws, m1, k1, r1⟩ := hS.lst h1
        rw [ea] at m1; cases m1
        exact ⟨a, ws, v, rfl, rfl, k1, by rw [r1.length]; exact hz, fin_set hS ea k1 (lt_of h1) (r1.append (Rps.one hy)) (by rw [Rp]) q⟩
      · cases e
    · cases e
  · cases e
def popF : D → List D → Sto → Option (D × Sto)
  | .ref n, [], S => match S[n]? with
    | some (.lst xs) => match xs[xs.length - 1]? with
      | some y => some (y, S.set n (.lst xs.dropLast))
      | none => none
    | _ => none
  | _, _, _ => none
theorem Rps.dropLast {H m} {xs : List D} {vs : List V} (h : Rps K H m xs vs) : Rps K H m xs.dropLast vs.dropLast := by
  rw [List.dropLast_eq_take, List.dropLast_eq_take, h.length]
  exact h.take _
theorem popF_ok : FOkM K popF rPop := by
  intro x xs S d S' e H m vx vs Q hS hx hxs q
  unfold popF at e
  split at e
  · rename_i n
    split at e
    · rename_i zs h1
      split at e
      · rename_i y hy
        cases e
        simp only [Rp] at hx
        obtain ⟨a, ea, rfl⟩ := hx
        rw [Rps] at hxs; subst hxs
        obtain ⟨a', ws, m1, k1, r1⟩ := hS.lst h1
        rw [ea] at m1; cases m1
        obtain ⟨v, h2, h3⟩ := r1.get hy
        exact ⟨a, ws, v, rfl, rfl, k1, by rw [r1.length]; exact h2, fin_set hS ea k1 (lt_of h1) r1.dropLast h3 q⟩
      · cases e
    · cases e
  · cases e
def reverseF : D → List D → Sto → Option (D × Sto)
  | .ref n, [], S => match S[n]? with
    | some (.lst xs) => some (.non, S.set n (.lst xs.reverse))
    | _ => none
  | _, _, _ => none
theorem reverseF_ok : FOkM K reverseF rReverse := by
  intro x xs S d S' e H m vx vs Q hS hx hxs q
  unfold reverseF at e
  split at e
  · rename_i n
    split at e
    · rename_i zs h1
      cases e
      simp only [Rp] at hx
      obtain ⟨a, ea, rfl⟩ := hx
      rw [Rps] at hxs; subst hxs
      obtain ⟨a', ws, m1, k1, r1⟩ := hS.lst h1
      rw [ea] at m1; cases m1
      exact ⟨a, ws, rfl, rfl, k1, fin_set hS ea k1 (lt_of h1) r1.reverse (by rw [Rp]) q⟩
    · cases e
  · cases e
def extendF : D → List D → Sto → Option (D × Sto)
  | .ref n, [.ref k], S => match S[n]?, S[k]? with
    | some (.lst xs), some (.lst ys) => if xs.length + ys.length ≤ sizeLine then some (.non, S.set n (.lst (xs ++ ys))) else none
    | _, _ => none
  | .ref n, [.tup ys], S => match S[n]? with
    | some (.lst xs) => if xs.length + ys.length ≤ sizeLine then some (.non, S.set n (.lst (xs ++ ys))) else none
    | _ => none
  | _, _, _ => none
def rExtendT (K : PySem.W.Frag) : V → List V → Hp → VK → Prop := fun x vs H Q => ∃ l b xs zs, x = .ref l ∧ vs = [.ref b] ∧ H l = some (.lst xs) ∧ SqT K H b zs ∧ xs.length + zs.length ≤ sizeLine ∧ Q .non (upd H l (.lst (xs ++ zs)))
open AutoSeq1 in
/-- xs.extend(t) by objects -/
theorem ext_tup (l b : Addr) (xs ys : Array Value) (n k : Nat) (dd : Option Addr) (sl : Array (Option Value))
    (h0 : ¬(!xs.isEmpty && Builtin.List.listTooLong (xs.size + ys.size)) = true) (h1 : xs.size ≤ sizeLine) (h2 : xs.size + ys.size ≤ sizeLine + 1) :
    Meets (Builtin.«list.extend» ⟨[.ref l, .ref b], []⟩) (fun _ R s => s.heap.get? l = some { cls := .type "list", dict := none, data := .seq xs n, slots := #[] } ∧
      s.heap.get? b = some { cls := .type "tuple", dict := dd, data := .seq ys k, slots := sl } ∧ R (.ok (.ret Value.none)) { s with heap := s.heap.update l (Obj.mapSeq fun x => x ++ ys), toks := s.toks }) :=
  .of_wp fun prog w A R s hq => by
    obtain ⟨hp, g, d, tk, os0⟩ := s
    obtain ⟨hl, hb, h⟩ := hq
    have f1 := AutoSeq1.sub_tuple_tuple
    have f2 := AutoSeq1.sub_list_list
    have f3 := AutoSeq1.sub_tuple_list
    have f4 := AutoSeq1.sub_list_tuple
    have hz : (xs ++ ys).size ≤ sizeLine + 1 := by rw [Array.size_append]; exact h2
    wp_walk using (wpAny_updateSeq hl rfl (hz := h1) (_hz' := hz)), AutoSeq1.wpAny_loadPart' hl, AutoSeq1.wpAny_loadPart' hb
    exact ⟨_, rfl, h⟩
theorem mt_extendT : MtR X "list.extend" (rExtendT X.K) := by
  intro pins s σ H x vs v us Q I rx rv hq
  obtain ⟨l, b, xs, zs, rfl, rfl, hH, hB, hz, q⟩ := hq
  cases rx
  obtain ⟨u, rfl, ru⟩ := Vals.one rv
  cases ru
  obtain ⟨z1, its, n, r, hl, e⟩ := I.lstM hH
  obtain ⟨its2, r2, ⟨ob, e2, c2, n2, d2⟩, z2⟩ := I.tuple hB
  have hl2 := r2.length
  have hs0 : its.toArray.size + its2.toArray.size ≤ sizeLine := by rw [List.size_toArray, List.size_toArray]; omega
  have hlong : ¬ (!its.toArray.isEmpty && Builtin.List.listTooLong (its.toArray.size + its2.toArray.size)) = true := by rw [notLongL hs0, Bool.and_false]; exact Bool.false_ne_true
  obtain ⟨cb, db, dtb, slb⟩ := ob
  dsimp only at c2 d2
  subst c2 d2
  refine call_meets F.slot_list_extend ⟨_, e, rfl⟩ F.entry_list_extend (F.args_list_extend_2 _ _) (ext_tup l b its.toArray its2.toArray n n2 db slb hlong (by rw [List.size_toArray]; omega) (by omega)) ⟨e, e2, ?_⟩
  refine ⟨.non, _, I.lset (its' := its ++ its2) hH e (by simp) (Vals.append r r2) ?_, rfl, q⟩
  rw [List.length_append]
  omega
theorem mt_extendA : MtR X "list.extend" (fun x vs H Q => rExtend x vs H Q ∨ rExtendT X.K x vs H Q) := MtR.or mt_extend mt_extendT
theorem extendF_ok : FOkM K extendF (fun x vs H Q => rExtend x vs H Q ∨ rExtendT K.f x vs H Q) := by
  intro x xs S d S' e H m vx vs Q hS hx hxs q
  unfold extendF at e
  split at e
  · rename_i n k
    split at e
    · rename_i zs ys h1 h2
      split at e
      · rename_i hz
        cases e
        simp only [Rp] at hx
        obtain ⟨a, ea, rfl⟩ := hx
        obtain ⟨v, rfl, hy⟩ := hxs.one_iff
        simp only [Rp] at hy
        obtain ⟨b, eb, rfl⟩ := hy
        obtain ⟨a', ws, m1, k1, r1⟩ := hS.lst h1
        rw [ea] at m1; cases m1
        obtain ⟨b', us, m2, k2, r2⟩ := hS.lst h2
        rw [eb] at m2; cases m2
        exact .inl ⟨a, b, ws, us, rfl, rfl, k1, k2, by rw [r1.length, r2.length]; exact hz, fin_set hS ea k1 (lt_of h1) (r1.append r2) (by rw [Rp]) q⟩
      · cases e
    · cases e
  · rename_i n ys
    split at e
    · rename_i zs h1
      split at e
      · rename_i hz
        cases e
        simp only [Rp] at hx
        obtain ⟨a, ea, rfl⟩ := hx
        obtain ⟨v, rfl, hy⟩ := hxs.one_iff
        simp only [Rp] at hy
        obtain ⟨b, us, rfl, hb, r2⟩ := hy
        obtain ⟨a', ws, m1, k1, r1⟩ := hS.lst h1
        rw [ea] at m1; cases m1
        exact .inr ⟨a, b, ws, us, rfl, rfl, k1, hb, by rw [r1.length, r2.length]; exact hz, fin_set hS ea k1 (lt_of h1) (r1.append r2) (by rw [Rp]) q⟩
      · cases e
    · cases e
  · cases e
/-! ### calls of own defs -/
/-- a def's promise: what F tells of its n arguments -/
def spM (K : Kx) (n : Nat) (F : List D → Sto → Option (D × Sto)) : Sp := fun vs H Q _ => ∃ m S xs d S', xs.length = n ∧ SR K H m S ∧ Rps K H m xs vs ∧ F xs S = some (d, S') ∧ Fin K H m S' d Q
def callM (n : Nat) (F : List D → Sto → Option (D × Sto)) (ra : AvM) : EvM := fun γ S => match ra γ S with
  | some (xs, S') => if xs.length = n then F xs S' else none
  | none => none
section
variable {k : Nat} {f : Addr} {fd : FuncData} {ps : List Str} {n : Nat} {G : List D → Sto → Option (D × Sto)} {x : Str} {p : Pos}
theorem call_core {σ : L2.St} {H : Hp} {Q : VK} {E : XK} (h : tM K (callM n G ra) σ H Q) : tCall (spM K n G) [] E (tAM K ra) σ H Q := by
  obtain ⟨m, S, γ, d, S', hS, hγ, e1, q⟩ := h
  unfold callM at e1
  split at e1
  · rename_i xs S1 h1
    split at e1
    · rename_i hn
      refine ⟨m, S, γ, xs, S1, hS, hγ, h1, fun vs H1 m1 x1 hS1 hv => ?_⟩
      show spM K n G (vs ++ []) H1 Q E
      rw [List.append_nil]
      exact ⟨m1, S1, xs, d, S', hn, hS1, hv, e1, fun w H2 m2 x2 => q w H2 m2 (x1.trans x2)⟩
    · cases e1
  · cases e1
theorem me_call (F : FnOk X.prog X.w X.K X.mg X.base CX0 k f fd ps (spM (kx tb X) n G)) (hr : Room k X.A) (hg : Gl X x) (hm : X.mg x = some (.ref f)) (hk : PySem.W.keepIn X.K (.ref f) = true) (hb : Binds X.K fd ps [])
    (ha : MA tb X (e :: es) ra) (hdb : (x == ("__debug__" : Str)) = false := by decide) (he : starEach (e :: es) X.env = (false, eval e X.env) :: starEach es X.env := by rfl) (hpl : (backTo pos (starEach es X.env)).any (·.1) = false := by rfl) :
    ME tb X (.Call (.Name x p) (e :: es) [] pos) (callM n G ra) :=
  PE.imp (pe_call F hr hg hm hk hb .nil pass0 ha hdb he hpl) fun _ _ _ h => call_core h
theorem me_call0 (F : FnOk X.prog X.w X.K X.mg X.base CX0 k f fd ps (spM (kx tb X) n G)) (hr : Room k X.A) (hg : Gl X x) (hm : X.mg x = some (.ref f)) (hk : PySem.W.keepIn X.K (.ref f) = true) (hb : Binds X.K fd ps [])
    (hdb : (x == ("__debug__" : Str)) = false := by decide) : ME tb X (.Call (.Name x p) [] [] pos) (callM n G nilA) :=
  PE.imp (pe_call0 F hr hg hm hk hb .nil pass0 hdb) fun σ H Q h => by
    obtain ⟨m, S, γ, ds, S', hS, hγ, h1, q⟩ := call_core (K := kx tb X) (E := E0) h
    cases h1
    exact q [] H m .refl hS Rps.nil
end
end
end Ml
namespace Ml
open L2 PyProof.Rows PySem PySem.Spec
open Classical in
/-- how a piece of code ends -/
inductive Fl where
  | nx | rt (d : D) | bk | ct
abbrev SvM := Sl → Sto → Option (Fl × Sl × Sto)
/-- what is wanted behind -/
def EndM (K : Kx) (H : Hp) (m : List Addr) (S' : Sto) (γ' : Sl) (Dn : Ends) : Fl → Prop
  | .nx => ∀ σ' H' m', Ext K H m H' m' → SR K H' m' S' → SLR K H' m' γ' σ' → Dn.nx σ' H'
  | .bk => ∀ σ' H' m', Ext K H m H' m' → SR K H' m' S' → SLR K H' m' γ' σ' → Dn.bk σ' H'
  | .ct => ∀ σ' H' m', Ext K H m H' m' → SR K H' m' S' → SLR K H' m' γ' σ' → Dn.ct σ' H'
  | .rt d => Fin K H m S' d Dn.rt
theorem EndM.mono {K H m H1 m1 S' γ' Dn f} (e : Ext K H m H1 m1) (h : EndM K H m S' γ' Dn f) : EndM K H1 m1 S' γ' Dn f := by
  cases f with
  | nx => exact fun σ' H' m' x => h σ' H' m' (e.trans x)
  | bk => exact fun σ' H' m' x => h σ' H' m' (e.trans x)
  | ct => exact fun σ' H' m' x => h σ' H' m' (e.trans x)
  | rt d => exact fun w H' m' x => h w H' m' (e.trans x)
def tSM (K : Kx) (s : SvM) : TS := fun Dn σ H => ∃ m S γ f γ' S', SR K H m S ∧ SLR K H m γ σ ∧ s γ S = some (f, γ', S') ∧ EndM K H m S' γ' Dn f
abbrev MS (tb : List NdefX.NTab) (X : Cx) (e : Stmt) (s : SvM) : Prop := PS X e (tSM (kx tb X) s)
abbrev MSs (tb : List NdefX.NTab) (X : Cx) (e : List Stmt) (s : SvM) : Prop := PSs X e (tSM (kx tb X) s)
section
variable {tb : List NdefX.NTab} {X : Cx} {K : Kx} {a b c e : Expr} {es : List Expr} {ea eb ec : EvM} {pos : Pos} {st : Stmt} {rest : List Stmt} {s t : SvM} {ca : CvM}
def nxM : SvM := fun γ S => some (.nx, γ, S)
def seqM (s t : SvM) : SvM := fun γ S => match s γ S with
  | some (.nx, γ', S') => t γ' S'
  | r => r
theorem mss_nil : MSs tb X [] nxM := PSs.imp pss_nil fun Dn σ H h => by
  obtain ⟨m, S, γ, f, γ', S', hS, hγ, e, q⟩ := h
  cases e
  exact q σ H m .refl hS hγ
theorem mss_one (h : MS tb X st s) : MSs tb X [st] s := pss_one h
theorem mss_cons (h1 : MS tb X st s) (h2 : MSs tb X rest t) : MSs tb X (st :: rest) (seqM s t) := PSs.imp (pss_cons h1 h2) fun Dn σ H h => by
  obtain ⟨m, S, γ, f, γ', S', hS, hγ, e, q⟩ := h
  unfold seqM at e
  split at e
  · rename_i γ1 S1 h1
    refine ⟨m, S, γ, .nx, γ1, S1, hS, hγ, h1, fun σ1 H1 m1 x1 hS1 hγ1 => ?_⟩
    exact ⟨m1, S1, γ1, f, γ', S', hS1, hγ1, e, q.mono x1⟩
  · rename_i hn
    refine ⟨m, S, γ, f, γ', S', hS, hγ, e, ?_⟩
    cases f with
    | nx => exact (hn γ' S' e).elim
    | bk => exact q
    | ct => exact q
    | rt d => exact q
theorem ms_pass : MS tb X (.Pass pos) nxM := PS.imp ps_pass fun Dn σ H h => by
  obtain ⟨m, S, γ, f, γ', S', hS, hγ, e, q⟩ := h
  cases e
  exact q σ H m .refl hS hγ
def bkM : SvM := fun γ S => some (.bk, γ, S)
def ctM : SvM := fun γ S => some (.ct, γ, S)
theorem ms_break : MS tb X (.Break pos) bkM := PS.imp ps_break fun Dn σ H h => by
  obtain ⟨m, S, γ, f, γ', S', hS, hγ, e, q⟩ := h
  cases e
  exact q σ H m .refl hS hγ
theorem ms_continue : MS tb X (.Continue pos) ctM := PS.imp ps_continue fun Dn σ H h => by
  obtain ⟨m, S, γ, f, γ', S', hS, hγ, e, q⟩ := h
  cases e
  exact q σ H m .refl hS hγ
def exM (e : EvM) : SvM := fun γ S => match e γ S with
  | some (_, S') => some (.nx, γ, S')
  | none => none
theorem ms_expr (he : ME tb X e ea) (hs : swapsWith e none pos.line X.env = pure false := by rfl) : MS tb X (.Expr e pos) (exM ea) := PS.imp (ps_expr he hs) fun Dn σ H h => by
  obtain ⟨m, S, γ, f, γ', S', hS, hγ, e, q⟩ := h
  unfold exM at e
  split at e
  · rename_i d S1 h1
    cases e
    exact ⟨m, S, γ, d, _, hS, hγ, h1, fun w H1 m1 x1 hS1 _ => q σ H1 m1 x1 hS1 (hγ.mono x1)⟩
  · cases e
def rtM (e : EvM) : SvM := fun γ S => match e γ S with
  | some (d, S') => some (.rt d, γ, S')
  | none => none
theorem ms_ret (he : ME tb X e ea) : MS tb X (.Return (some e) pos) (rtM ea) := PS.imp (ps_ret he) fun Dn σ H h => by
  obtain ⟨m, S, γ, f, γ', S', hS, hγ, e, q⟩ := h
  unfold rtM at e
  split at e
  · rename_i d S1 h1
    cases e
    exact ⟨m, S, γ, d, _, hS, hγ, h1, q⟩
  · cases e
def rtN : SvM := fun γ S => some (.rt .non, γ, S)
theorem ms_retN : MS tb X (.Return none pos) rtN := PS.imp ps_retN fun Dn σ H h => by
  obtain ⟨m, S, γ, f, γ', S', hS, hγ, e, q⟩ := h
  cases e
  exact q _ H m .refl hS (by rw [Rp])
def ifS (c : CvM) (s t : SvM) : SvM := fun γ S => match c γ S with
  | some (true, S') => s γ S'
  | some (false, S') => t γ S'
  | none => none
theorem ms_if {x y : List Stmt} (hc : MT tb X c ca) (ha : MSs tb X x s) (hb : MSs tb X y t) : MS tb X (.If c x y pos) (ifS ca s t) := PS.imp (ps_if hc ha hb) fun Dn σ H h => by
  obtain ⟨m, S, γ, f, γ', S', hS, hγ, e, q⟩ := h
  unfold ifS at e
  split at e
  · rename_i S1 h1
    exact ⟨m, S, γ, true, S1, hS, hγ, h1, fun H1 m1 x1 hS1 => iteT ⟨m1, S1, γ, f, γ', S', hS1, hγ.mono x1, e, q.mono x1⟩⟩
  · rename_i S1 h1
    exact ⟨m, S, γ, false, S1, hS, hγ, h1, fun H1 m1 x1 hS1 => iteF ⟨m1, S1, γ, f, γ', S', hS1, hγ.mono x1, e, q.mono x1⟩⟩
  · cases e
/-! ### targets -/
abbrev TvM := D → Sl → Sto → Option (Sl × Sto)
def tGM (K : Kx) (g : TvM) : TG := fun v σ H Q => ∃ m S γ d γ' S', SR K H m S ∧ SLR K H m γ σ ∧ Rp K H m d v ∧ g d γ S = some (γ', S') ∧ ∀ σ' H' m', Ext K H m H' m' → SR K H' m' S' → SLR K H' m' γ' σ' → Q σ' H'
theorem PG.imp {e : Expr} {t t' : TG} (h : PG X e t) (hi : ∀ v σ H Q, t' v σ H Q → t v σ H Q) : PG X e t' := ⟨fun pins s σ H v u Q I r q => h.run pins s σ H v u Q I r (hi v σ H Q q)⟩
abbrev MG (tb : List NdefX.NTab) (X : Cx) (e : Expr) (g : TvM) : Prop := PG X e (tGM (kx tb X) g)
def nameG (i : Nat) : TvM := fun d γ S => some (γ.set i (some d), S)
theorem mg_name (i : Nat) {x : Str} (hN : X.N.Nodup) (hi : X.N[i]? = some x) (hx : Loc X.env.scope x) (hf : X.fn x = true ∨ X.env.scope.names.lookup x = some .local := by first | exact .inl rfl | exact .inr rfl | assumption) : MG tb X (.Name x pos) (nameG i) :=
  PG.imp (pg_name hN hi hx hf) fun v σ H Q h => by
    obtain ⟨m, S, γ, d, γ', S', hS, hγ, hd, e, q⟩ := h
    cases e
    exact q _ H m .refl hS (hγ.set hd)
/-- several targets -/
def tGsM (K : Kx) (g : List D → Sl → Sto → Option (Sl × Sto)) : TGs := fun v σ H Q => ∃ m S γ d γ' S', SR K H m S ∧ SLR K H m γ σ ∧ Rps K H m d v ∧ g d γ S = some (γ', S') ∧ ∀ σ' H' m', Ext K H m H' m' → SR K H' m' S' → SLR K H' m' γ' σ' → Q σ' H'
theorem PGs.imp {e : List Expr} {t t' : TGs} (h : PGs X e t) (hi : ∀ v σ H Q, t' v σ H Q → t v σ H Q) : PGs X e t' := ⟨fun pins s σ H v u Q I r q => h.run pins s σ H v u Q I r (hi v σ H Q q)⟩
abbrev MGs (tb : List NdefX.NTab) (X : Cx) (e : List Expr) (g : List D → Sl → Sto → Option (Sl × Sto)) : Prop := PGs X e (tGsM (kx tb X) g)
def nilG : List D → Sl → Sto → Option (Sl × Sto)
  | [], γ, S => some (γ, S)
  | _ :: _, _, _ => none
def consG (g : TvM) (r : List D → Sl → Sto → Option (Sl × Sto)) : List D → Sl → Sto → Option (Sl × Sto)
  | [], _, _ => none
  | d :: ds, γ, S => match g d γ S with
    | some (γ', S') => r ds γ' S'
    | none => none
theorem mgs_nil : MGs tb X [] nilG := PGs.imp pgs_nil fun v σ H Q h => by
  obtain ⟨m, S, γ, d, γ', S', hS, hγ, hd, e, q⟩ := h
  cases d with
  | nil => cases e; rw [Rps] at hd; exact ⟨hd, q σ H m .refl hS hγ⟩
  | cons x xs => cases e
theorem mgs_cons {g : TvM} {r : List D → Sl → Sto → Option (Sl × Sto)} (h1 : MG tb X e g) (h2 : MGs tb X es r) (hs : (assignEach (e :: es) X.env).map (·.2) = assign e X.env :: (assignEach es X.env).map (·.2) := by rfl) : MGs tb X (e :: es) (consG g r) :=
  PGs.imp (pgs_cons h1 h2 hs) fun v σ H Q h => by
    obtain ⟨m, S, γ, d, γ', S', hS, hγ, hd, e, q⟩ := h
    cases d with
    | nil => cases e
    | cons x xs =>
      rw [Rps] at hd
      obtain ⟨w, vs, rfl, h3, h4⟩ := hd
      replace e : (match g x γ S with | some (γ', S') => r xs γ' S' | none => none) = some (γ', S') := e
      split at e
      · rename_i γ1 S1 h5
        refine ⟨w, vs, rfl, m, S, γ, x, γ1, S1, hS, hγ, h3, h5, fun σ1 H1 m1 x1 hS1 hγ1 => ?_⟩
        exact ⟨m1, S1, γ1, xs, γ', S', hS1, hγ1, h4.mono x1, e, fun σ2 H2 m2 x2 => q σ2 H2 m2 (x1.trans x2)⟩
      · cases e
def tupG (n : Nat) (g : List D → Sl → Sto → Option (Sl × Sto)) : TvM := fun d γ S => match d with
  | .tup xs => if xs.length = n then g xs γ S else none
  | _ => none
theorem mg_tup {k n : Nat} {g : List D → Sl → Sto → Option (Sl × Sto)} (hc : X.calm = true) (h : MGs tb X es g) (hn : (assignEach es X.env).length = n := by rfl) (hst : (assignEach es X.env).findIdx? (·.1) = none := by rfl) : MG tb X (.Tuple es k pos) (tupG n g) :=
  PG.imp (pg_tup hc h hn hst) fun v σ H Q hw => by
    obtain ⟨m, S, γ, d, γ', S', hS, hγ, hd, e, q⟩ := hw
    unfold tupG at e
    split at e
    · rename_i xs
      split at e
      · rename_i hl
        rw [Rp] at hd
        obtain ⟨a, vs, rfl, ha, hv⟩ := hd
        exact ⟨a, vs, rfl, ha, by rw [hv.length]; exact hl, m, S, γ, xs, γ', S', hS, hγ, hv, e, q⟩
      · cases e
    · cases e
/-- xs[i] = .. of a list -/
def subL (eo ei : EvM) : TvM := fun d γ S => match eo γ S with
  | none => none
  | some (x, S1) => match ei γ S1 with
    | none => none
    | some (y, S2) => match x, y with
      | .ref n, .int k => match S2[n]? with
        | some (.lst xs) => match ixN xs.length k with
          | some j => some (γ, S2.set n (.lst (xs.set j d)))
          | none => none
        | _ => none
      | _, _ => none
theorem mg_subL {o i : Expr} {eo ei : EvM} (ho : ME tb X o eo) (hi : ME tb X i ei) (ha : ∀ v, assign (.Subscript o i pos) X.env v = (do
      let ow ← holding [v] (eval o X.env); let iw ← holding [v, ow] (eval i X.env); standAt pos; holding [v, ow, iw] (setItem ow iw v); release [v, ow, iw] []) := by intro _; rfl) : MG tb X (.Subscript o i pos) (subL eo ei) :=
  PG.imp (pg_sub ho hi set_list ha) fun v σ H Q h => by
    obtain ⟨m, S, γ, d, γ', S', hS, hγ, hd, e, q⟩ := h
    unfold subL at e
    split at e
    · cases e
    · rename_i x S1 h1
      split at e
      · cases e
      · rename_i y S2 h2
        split at e
        · rename_i n k
          split at e
          · rename_i xs h3
            split at e
            · rename_i j h4
              cases e
              refine ⟨m, S, γ, _, S1, hS, hγ, h1, fun w H1 m1 x1 hS1 hw => ?_⟩
              refine ⟨m1, S1, γ, _, S2, hS1, hγ.mono x1, h2, fun u H2 m2 x2 hS2 hu => ?_⟩
              have hw2 := hw.mono x2
              simp only [Rp] at hw2 hu
              obtain ⟨a, ea, rfl⟩ := hw2
              subst hu
              obtain ⟨a', ws, m3, k1, r1⟩ := hS2.lst h3
              rw [ea] at m3; cases m3
              have x3 : Ext (kx tb X) H2 m2 (upd H2 a (.lst (ws.set j v))) m2 := .upd k1 trivial
              refine ⟨a, ws, k, j, rfl, rfl, k1, by rw [r1.length]; exact h4, q σ _ m2 (x1.trans (x2.trans x3)) ?_ (hγ.mono (x1.trans (x2.trans x3)))⟩
              exact hS2.upd ea (lt_of h3) ⟨_, upd_same, (Rps.set ((hd.mono x1).mono x2) j r1).mono x3⟩
            · cases e
          · cases e
        · cases e
def asgM (ea : EvM) (g : TvM) : SvM := fun γ S => match ea γ S with
  | none => none
  | some (d, S1) => match g d γ S1 with
    | some (γ', S2) => some (.nx, γ', S2)
    | none => none
theorem asg_core {g : TvM} {Dn : Ends} {σ : L2.St} {H : Hp} (h : tSM K (asgM ea g) Dn σ H) : tAsg (tM K ea) (tGM K g) Dn σ H := by
  obtain ⟨m, S, γ, f, γ', S', hS, hγ, e, q⟩ := h
  unfold asgM at e
  split at e
  · cases e
  · rename_i d S1 h1
    split at e
    · rename_i γ1 S2 h2
      cases e
      refine ⟨m, S, γ, d, S1, hS, hγ, h1, fun w H1 m1 x1 hS1 hw => ?_⟩
      exact ⟨m1, S1, γ, d, _, _, hS1, hγ.mono x1, hw, h2, fun σ2 H2 m2 x2 => q σ2 H2 m2 (x1.trans x2)⟩
    · cases e
theorem ms_asg {tg : Expr} {g : TvM} (he : ME tb X e ea) (hg : MG tb X tg g) (hs : swapsWithSole [tg] e pos.line X.env = pure false := by rfl) (hw : swappedStores [tg] e X.env = pure none := by rfl)
    (h1 : (assignEach [tg] X.env).map (·.2) = [assign tg X.env] := by rfl) : MS tb X (.Assign [tg] e pos) (asgM ea g) := PS.imp (ps_asg he hg hs hw h1) fun _ _ _ h => asg_core h
theorem ms_set (i : Nat) {x : Str} {p : Pos} (hN : X.N.Nodup) (hi : X.N[i]? = some x) (hx : Loc X.env.scope x) (he : ME tb X e ea) (hs : swapsWith e (some (.Name x p)) pos.line X.env = pure false := by rfl) (hf : X.fn x = true ∨ X.env.scope.names.lookup x = some .local := by first | exact .inl rfl | exact .inr rfl | assumption) :
    MS tb X (.Assign [.Name x p] e pos) (asgM ea (nameG i)) := PS.imp (ps_set hN hi hx he hs hf) fun Dn σ H h => by
  obtain ⟨m, S, γ, f, γ', S', hS, hγ, e, q⟩ := h
  unfold asgM nameG at e
  split at e
  · cases e
  · rename_i d S1 h1
    cases e
    exact ⟨m, S, γ, d, _, hS, hγ, h1, fun w H1 m1 x1 hS1 hw => q _ H1 m1 x1 hS1 ((hγ.mono x1).set hw)⟩
/-- x += e, by a rule for two values -/
def augM (i : Nat) (F : D → D → Sto → Option (D × Sto)) (ea : EvM) : SvM := fun γ S => match γ[i]? with
  | some (some x) => match ea γ S with
    | some (y, S1) => match F x y S1 with
      | some (d, S2) => some (.nx, γ.set i (some d), S2)
      | none => none
    | none => none
  | _ => none
theorem ms_aug (i : Nat) {x : Str} {p : Pos} {op : Operator} {ti : TIp} {F : D → D → Sto → Option (D × Sto)} (hN : X.N.Nodup) (hi : X.N[i]? = some x) (hx : Loc X.env.scope x) (he : ME tb X e ea) (ho : PIp X op ti) (hF : FOk2 (kx tb X) F ti) (hf : X.fn x = true ∨ X.env.scope.names.lookup x = some .local := by first | exact .inl rfl | exact .inr rfl | assumption) :
    MS tb X (.AugAssign (.Name x p) op e pos) (augM i F ea) := PS.imp (ps_aug hN hi hx he ho hf) fun Dn σ H h => by
  obtain ⟨m, S, γ, f, γ', S', hS, hγ, e, q⟩ := h
  unfold augM at e
  split at e
  · rename_i x h1
    split at e
    · rename_i y S1 h2
      split at e
      · rename_i d S2 h3
        cases e
        obtain ⟨v, e1, r1⟩ := hγ.at_ i x h1
        refine ⟨v, e1, m, S, γ, y, S1, hS, hγ, h2, fun w H1 m1 x1 hS1 hw => ?_⟩
        exact hF x y S1 d _ h3 H1 m1 v w _ hS1 (r1.mono x1) hw fun u H2 m2 x2 hS2 hu => q _ H2 m2 (x1.trans x2) hS2 ((hγ.mono (x1.trans x2)).set hu)
      · cases e
    · cases e
  · cases e
def iaddF : D → D → Sto → Option (D × Sto) := opI (fun _ _ => true) (fun i j => .int (i + j))
theorem iaddF_ok : FOk2 K iaddF (ipI fun i j => i + j) := opI0_ok (gV := fun i j => .int (i + j)) fun _ _ _ _ => by rw [Rp]
def isubF : D → D → Sto → Option (D × Sto) := opI (fun _ _ => true) (fun i j => .int (i - j))
theorem isubF_ok : FOk2 K isubF (ipI fun i j => i - j) := opI0_ok (gV := fun i j => .int (i - j)) fun _ _ _ _ => by rw [Rp]
/-! ### while -/
def whileN (c : CvM) (b : SvM) : Nat → Sl → Sto → Option (Fl × Sl × Sto)
  | 0, _, _ => none
  | n + 1, γ, S => match c γ S with
    | none => none
    | some (false, S1) => some (.nx, γ, S1)
    | some (true, S1) => match b γ S1 with
      | none => none
      | some (.nx, γ2, S2) => whileN c b n γ2 S2
      | some (.ct, γ2, S2) => whileN c b n γ2 S2
      | some (.bk, γ2, S2) => some (.nx, γ2, S2)
      | some (.rt d, γ2, S2) => some (.rt d, γ2, S2)
/-- how many turns a while has at most -/
def turns : Nat := 100000000
def whileM (c : CvM) (b : SvM) : SvM := whileN c b turns
theorem ms_while {body : List Stmt} {cb : SvM} (hp : PassesOwn (model X.prog X.w) X.A X.env X.xe) (hc : MT tb X c ca) (hb : MSs tb X body cb) : MS tb X (.While c body [] pos) (whileM ca cb) := PS.imp (ps_while hp hc hb) fun Dn σ H h => by
  obtain ⟨m, S, γ, f, γ', S', hS, hγ, e, q⟩ := h
  refine ⟨fun n σ H => ∃ m S γ f γ' S', SR (kx tb X) H m S ∧ SLR (kx tb X) H m γ σ ∧ whileN ca cb n γ S = some (f, γ', S') ∧ EndM (kx tb X) H m S' γ' Dn f, ⟨turns, m, S, γ, f, γ', S', hS, hγ, e, q⟩, ?_⟩
  rintro n σ H ⟨m, S, γ, f, γ', S', hS, hγ, e, q⟩
  cases n with
  | zero => cases e
  | succ n =>
    unfold whileN at e
    split at e
    · cases e
    · rename_i S1 h1
      cases e
      refine ⟨m, S, γ, false, _, hS, hγ, h1, fun H1 m1 x1 hS1 => iteF ?_⟩
      exact q σ H1 m1 x1 hS1 (hγ.mono x1)
    · rename_i S1 h1
      refine ⟨m, S, γ, true, S1, hS, hγ, h1, fun H1 m1 x1 hS1 => iteT ?_⟩
      refine ⟨fun σ H => ∃ m S γ f γ' S', SR (kx tb X) H m S ∧ SLR (kx tb X) H m γ σ ∧ whileN ca cb n γ S = some (f, γ', S') ∧ EndM (kx tb X) H m S' γ' Dn f, fun σ' H' w => ⟨n, Nat.lt_succ_self n, w⟩, ?_⟩
      split at e
      · cases e
      · rename_i γ2 S2 h2
        refine ⟨m1, S1, γ, .nx, γ2, S2, hS1, hγ.mono x1, h2, fun σ2 H2 m2 x2 hS2 hγ2 => ?_⟩
        exact ⟨m2, S2, γ2, f, γ', S', hS2, hγ2, e, q.mono (x1.trans x2)⟩
      · rename_i γ2 S2 h2
        refine ⟨m1, S1, γ, .ct, γ2, S2, hS1, hγ.mono x1, h2, fun σ2 H2 m2 x2 hS2 hγ2 => ?_⟩
        exact ⟨m2, S2, γ2, f, γ', S', hS2, hγ2, e, q.mono (x1.trans x2)⟩
      · rename_i γ2 S2 h2
        cases e
        exact ⟨m1, S1, γ, .bk, _, _, hS1, hγ.mono x1, h2, fun σ2 H2 m2 x2 hS2 hγ2 => q σ2 H2 m2 (x1.trans x2) hS2 hγ2⟩
      · rename_i d γ2 S2 h2
        cases e
        exact ⟨m1, S1, γ, .rt d, _, _, hS1, hγ.mono x1, h2, fun w H2 m2 x2 hS2 hw => q w H2 m2 (x1.trans x2) hS2 hw⟩
end
end Ml
namespace Ml
open L2 PyProof.Rows PySem PySem.Spec
open Classical
/-- what is walked still stands: nothing is asked (a tuple, a range), or the list with that number is the same -/
def Chk : Option (Nat × O) → Sto → Prop
  | none, _ => True
  | some (n, o), S => S[n]? = some o
abbrev IvM := Sl → Sto → Option (Option (Nat × O) × List D × Sto)
structure Walks (K : Kx) (J : It) (H0 : Hp) (m0 : List Addr) (ck : Option (Nat × O)) (xs : List D) : Prop where
  go : ∀ H m S i, Ext K H0 m0 H m → SR K H m S → Chk ck S → i < xs.length → J.go i H ∧ ∀ x H', J.yld i H x H' → ∃ d, xs[i]? = some d ∧ Ext K H m H' m ∧ SR K H' m S ∧ Rp K H' m d x
  stop : ∀ H m S, Ext K H0 m0 H m → SR K H m S → Chk ck S → J.stop xs.length H
def tIM (K : Kx) (iv : IvM) : TI := fun σ H R => ∃ m S γ ck xs S', SR K H m S ∧ SLR K H m γ σ ∧ iv γ S = some (ck, xs, S') ∧
  ∀ J H' m', Ext K H m H' m' → SR K H' m' S' → Walks K J H' m' ck xs → R J H'
abbrev MI (tb : List NdefX.NTab) (X : Cx) (tg iter : Expr) (iv : IvM) : Prop := PI X tg iter (tIM (kx tb X) iv)
section
variable {tb : List NdefX.NTab} {X : Cx} {K : Kx} {a b c e tg iter : Expr} {es : List Expr} {ea eb ec : EvM} {pos : Pos} {st : Stmt} {rest body : List Stmt} {s t : SvM} {ca : CvM}
theorem walks_list {H0 m0 S0 n xs a} (hS : SR K H0 m0 S0) (hm : m0[n]? = some a) : Walks K (Itl K.f a) H0 m0 (some (n, .lst xs)) xs where
  go := fun H m S i x hS hc hi => by
    obtain ⟨a', vs, m1, k1, r1⟩ := hS.lst hc
    rw [x.get hm] at m1; cases m1
    obtain ⟨v, h1, h2⟩ := r1.get (List.getElem?_eq_getElem hi)
    refine ⟨⟨vs, v, SqL.of k1, h1⟩, fun y H' q => ?_⟩
    obtain ⟨rfl, q⟩ := q
    have e := q vs (SqL.of k1)
    rw [h1] at e; cases e
    exact ⟨_, List.getElem?_eq_getElem hi, .refl, hS, h2⟩
  stop := fun H m S x hS hc => by
    obtain ⟨a', vs, m1, k1, r1⟩ := hS.lst hc
    rw [x.get hm] at m1; cases m1
    exact ⟨vs, SqL.of k1, by rw [r1.length]; exact Nat.le_refl _⟩
theorem walks_tup {H0 m0 xs a vs} (ha : SqT K.f H0 a vs) (hv : Rps K H0 m0 xs vs) : Walks K (Itt K.f a) H0 m0 none xs where
  go := fun H m S i x hS _ hi => by
    obtain ⟨v, h1, h2⟩ := hv.get (List.getElem?_eq_getElem hi)
    refine ⟨⟨vs, v, x.tup _ _ ha, h1⟩, fun y H' q => ?_⟩
    obtain ⟨rfl, q⟩ := q
    have e := q vs (x.tup _ _ ha)
    rw [h1] at e; cases e
    exact ⟨_, List.getElem?_eq_getElem hi, .refl, hS, h2.mono x⟩
  stop := fun H m S x hS _ => ⟨vs, x.tup _ _ ha, by rw [hv.length]; exact Nat.le_refl _⟩
/-- the numbers lo, lo + 1, .. -/
def rngD (lo : Int) (n : Nat) : List D := (List.range n).map fun (i : Nat) => D.int (lo + i)
theorem rngD_length {lo n} : (rngD lo n).length = n := by simp [rngD]
theorem rngD_get {lo : Int} {n i : Nat} (h : i < n) : (rngD lo n)[i]? = some (.int (lo + i)) := by simp [rngD, h]
theorem walks_rng {H0 m0 lo n} : Walks K (Itr lo n) H0 m0 none (rngD lo n) where
  go := fun H m S i x hS _ hi => by
    rw [rngD_length] at hi
    refine ⟨hi, fun y H' q => ?_⟩
    obtain ⟨rfl, rfl⟩ := q
    exact ⟨_, rngD_get hi, .refl, hS, by rw [Rp]⟩
  stop := fun H m S x hS _ => by rw [rngD_length]; exact Nat.le_refl _
/-- a list or a tuple -/
def seqI (e : EvM) : IvM := fun γ S => match e γ S with
  | some (.tup xs, S') => some (none, xs, S')
  | some (.ref n, S') => match S'[n]? with
    | some (.lst xs) => some (some (n, .lst xs), xs, S')
    | _ => none
  | _ => none
theorem mi_seq (he : ME tb X iter ea) : MI tb X tg iter (seqI ea) := by
  refine ⟨fun pins s σ H R I hq => ?_⟩
  obtain ⟨m, S, γ, ck, xs, S', hS, hγ, e1, q⟩ := hq
  unfold seqI at e1
  split at e1
  · rename_i ys S1 h1
    cases e1
    refine (pi_tup he).run pins s σ H R I ⟨m, S, γ, _, _, hS, hγ, h1, fun w H1 m1 x1 hS1 hw => ?_⟩
    rw [Rp] at hw
    obtain ⟨a, vs, rfl, ha, hv⟩ := hw
    exact ⟨a, rfl, ⟨vs, ha⟩, q _ H1 m1 x1 hS1 (walks_tup ha hv)⟩
  · rename_i n S1 h1
    split at e1
    · rename_i ys h2
      cases e1
      refine (pi_list he).run pins s σ H R I ⟨m, S, γ, _, _, hS, hγ, h1, fun w H1 m1 x1 hS1 hw => ?_⟩
      rw [Rp] at hw
      obtain ⟨a, ea, rfl⟩ := hw
      obtain ⟨a', vs, m2, k1, r1⟩ := hS1.lst h2
      rw [ea] at m2; cases m2
      exact ⟨a, rfl, ⟨vs, SqL.of k1⟩, q _ H1 m1 x1 hS1 (walks_list hS1 ea)⟩
    · cases e1
  · cases e1
def rng1I (ra : AvM) : IvM := fun γ S => match ra γ S with
  | some ([.int j], S') => if -(2 ^ 62) ≤ j ∧ j < 2 ^ 62 then some (none, rngD 0 j.toNat, S') else none
  | _ => none
def rng2I (ra : AvM) : IvM := fun γ S => match ra γ S with
  | some ([.int i, .int j], S') => if -(2 ^ 62) ≤ i ∧ i < 2 ^ 62 ∧ -(2 ^ 62) ≤ j ∧ j < 2 ^ 62 then some (none, rngD i (j - i).toNat, S') else none
  | _ => none
theorem PI.imp {t t' : TI} (h : PI X tg iter t) (hi : ∀ σ H R, t' σ H R → t σ H R) : PI X tg iter t' := ⟨fun pins s σ H R I q => h.run pins s σ H R I (hi σ H R q)⟩
theorem mi_rng1 {p : Pos} {ra : AvM} (hg : Gl X "range") (hm : X.mg "range" = none) (ha : MA tb X [a] ra) (hs : starEach [a] X.env = [(false, eval a X.env)] := by rfl) : MI tb X tg (.Call (.Name "range" p) [a] [] pos) (rng1I ra) :=
  PI.imp (pi_range1 hg hm ha hs) fun σ H R h => by
    obtain ⟨m, S, γ, ck, xs, S', hS, hγ, e1, q⟩ := h
    unfold rng1I at e1
    split at e1
    · rename_i j S1 h1
      split at e1
      · rename_i hj
        cases e1
        refine ⟨m, S, γ, _, _, hS, hγ, h1, fun vs H1 m1 x1 hS1 hv => ?_⟩
        obtain ⟨v, rfl, hv1⟩ := hv.one_iff
        simp only [Rp] at hv1; subst hv1
        exact ⟨_, rfl, hj.1, hj.2, q _ H1 m1 x1 hS1 walks_rng⟩
      · cases e1
    · cases e1
theorem mi_rng2 {p : Pos} {ra : AvM} (hg : Gl X "range") (hm : X.mg "range" = none) (ha : MA tb X [a, b] ra) (hs : starEach [a, b] X.env = [(false, eval a X.env), (false, eval b X.env)] := by rfl) (hs2 : starEach [b] X.env = [(false, eval b X.env)] := by rfl) :
    MI tb X tg (.Call (.Name "range" p) [a, b] [] pos) (rng2I ra) :=
  PI.imp (pi_range2 hg hm ha hs hs2) fun σ H R h => by
    obtain ⟨m, S, γ, ck, xs, S', hS, hγ, e1, q⟩ := h
    unfold rng2I at e1
    split at e1
    · rename_i i j S1 h1
      split at e1
      · rename_i hj
        cases e1
        refine ⟨m, S, γ, _, _, hS, hγ, h1, fun vs H1 m1 x1 hS1 hv => ?_⟩
        obtain ⟨v, w, rfl, hv1, hw1⟩ := hv.two_iff
        simp only [Rp] at hv1 hw1; subst hv1; subst hw1
        exact ⟨_, _, rfl, hj, q _ H1 m1 x1 hS1 walks_rng⟩
      · cases e1
    · cases e1
/-! ### for -/
noncomputable def forI (ck : Option (Nat × O)) (g : TvM) (b : SvM) : List D → Sl → Sto → Option (Fl × Sl × Sto)
  | [], γ, S => if Chk ck S then some (.nx, γ, S) else none
  | x :: r, γ, S => if Chk ck S then match g x γ S with
      | none => none
      | some (γ1, S1) => match b γ1 S1 with
        | none => none
        | some (.nx, γ2, S2) => forI ck g b r γ2 S2
        | some (.ct, γ2, S2) => forI ck g b r γ2 S2
        | some (.bk, γ2, S2) => some (.nx, γ2, S2)
        | some (.rt d, γ2, S2) => some (.rt d, γ2, S2)
    else none
noncomputable def forM (iv : IvM) (g : TvM) (b : SvM) : SvM := fun γ S => match iv γ S with
  | none => none
  | some (ck, xs, S1) => forI ck g b xs γ S1
theorem drop_cons {α : Type} {xs : List α} {i : Nat} {d : α} (h : xs[i]? = some d) : xs.drop i = d :: xs.drop (i + 1) := by
  obtain ⟨hl, e0⟩ := List.getElem?_eq_some_iff.mp h
  rw [List.drop_eq_getElem_cons hl]; rw [e0]
theorem ms_for {iv : IvM} {g : TvM} {cb : SvM} (hp : PassesOwn (model X.prog X.w) X.A X.env X.xe) (hc : X.calm = true) (hi : MI tb X tg iter iv) (hg : MG tb X tg g) (hb : MSs tb X body cb)
    (hs : ∀ x, foldedSetIterable iter X.env x = pure x := by intro _; rfl) : MS tb X (.For tg iter body [] pos) (forM iv g cb) := PS.imp (ps_for hp hc hi hg hb hs) fun Dn σ H h => by
  obtain ⟨m, S, γ, f, γ', S', hS, hγ, e, q⟩ := h
  unfold forM at e
  split at e
  · cases e
  · rename_i ck xs S1 h1
    refine ⟨m, S, γ, ck, xs, S1, hS, hγ, h1, fun J H1 m1 x1 hS1 wk => ?_⟩
    refine ⟨fun i k σ H => i ≤ xs.length ∧ k = xs.length - i ∧ ∃ m S γ f γ' S', Ext (kx tb X) H1 m1 H m ∧ SR (kx tb X) H m S ∧ SLR (kx tb X) H m γ σ ∧ forI ck g cb (xs.drop i) γ S = some (f, γ', S') ∧ EndM (kx tb X) H m S' γ' Dn f,
      ⟨xs.length, Nat.zero_le _, rfl, m1, S1, γ, f, γ', S', .refl, hS1, hγ.mono x1, e, q.mono x1⟩, ?_⟩
    rintro i k σ H ⟨hi, rfl, m, S, γ, f, γ', S', x2, hS, hγ, e, q⟩
    by_cases hlt : i < xs.length
    · rw [drop_cons (List.getElem?_eq_getElem hlt)] at e
      unfold forI at e
      split at e
      · rename_i hk
        obtain ⟨hgo, hy⟩ := wk.go H m S i x2 hS hk hlt
        refine .inr ⟨hgo, fun σ H => ∃ m S γ f γ' S', Ext (kx tb X) H1 m1 H m ∧ SR (kx tb X) H m S ∧ SLR (kx tb X) H m γ σ ∧ forI ck g cb (xs.drop (i + 1)) γ S = some (f, γ', S') ∧ EndM (kx tb X) H m S' γ' Dn f,
          fun σ' H' w => ⟨xs.length - (i + 1), by omega, hlt, rfl, w⟩, fun v H2 yl => ?_⟩
        obtain ⟨d, hd, x3, hS2, hv⟩ := hy v H2 yl
        rw [List.getElem?_eq_getElem hlt] at hd
        cases hd
        split at e
        · cases e
        · rename_i γ1 S2 h2
          refine ⟨m, S, γ, _, γ1, S2, hS2, hγ.mono x3, hv, h2, fun σ3 H3 m3 x4 hS3 hγ3 => ?_⟩
          have x5 := x2.trans (x3.trans x4)
          have x6 := x3.trans x4
          split at e
          · cases e
          · rename_i γ2 S4 h3
            refine ⟨m3, S2, γ1, .nx, γ2, S4, hS3, hγ3, h3, fun σ4 H4 m4 x7 hS4 hγ4 => ?_⟩
            exact ⟨m4, S4, γ2, f, γ', S', x5.trans x7, hS4, hγ4, e, q.mono (x6.trans x7)⟩
          · rename_i γ2 S4 h3
            refine ⟨m3, S2, γ1, .ct, γ2, S4, hS3, hγ3, h3, fun σ4 H4 m4 x7 hS4 hγ4 => ?_⟩
            exact ⟨m4, S4, γ2, f, γ', S', x5.trans x7, hS4, hγ4, e, q.mono (x6.trans x7)⟩
          · rename_i γ2 S4 h3
            cases e
            exact ⟨m3, S2, γ1, .bk, _, _, hS3, hγ3, h3, fun σ4 H4 m4 x7 hS4 hγ4 => q σ4 H4 m4 (x6.trans x7) hS4 hγ4⟩
          · rename_i d γ2 S4 h3
            cases e
            exact ⟨m3, S2, γ1, .rt d, _, _, hS3, hγ3, h3, fun w H4 m4 x7 hS4 hw => q w H4 m4 (x6.trans x7) hS4 hw⟩
      · cases e
    · have hi2 : i = xs.length := by omega
      subst hi2
      rw [List.drop_length] at e
      unfold forI at e
      split at e
      · rename_i hk
        cases e
        exact .inl ⟨wk.stop H m S x2 hS hk, q σ H m .refl hS hγ⟩
      · cases e
/-! ### comprehensions -/
/-- a comprehension's target: a name, or several in brackets -/
inductive Tgt where
  | one (i : Nat) | many (is : List Nat)
def setAll (γ : Sl) : List Nat → List D → Sl
  | i :: is, d :: ds => setAll (γ.set i (some d)) is ds
  | _, _ => γ
def bindT : Tgt → D → Sl → Option Sl
  | .one i, d, γ => some (γ.set i (some d))
  | .many is, .tup xs, γ => if xs.length = is.length then some (setAll γ is xs) else none
  | .many _, _, _ => none
def gNames : List Nat → TGs
  | [] => gNil
  | i :: is => gCons (gName i) (gNames is)
def gTgt (K : PySem.W.Frag) : Tgt → TG
  | .one i => gName i
  | .many is => gTup K is.length (gNames is)
def inTgt : Tgt → List Nat → Bool
  | .one i, vs => vs.contains i
  | .many is, vs => is.all vs.contains
def wipeD (γ : Sl) : List Nat → Sl
  | [] => γ
  | v :: vs => (wipeD γ vs).set v none
theorem SLR.wipe {H m γ σ} (h : SLR K H m γ σ) : ∀ vs : List Nat, SLR K H m (wipeD γ vs) (wipe σ vs)
  | [] => h
  | v :: vs => (SLR.wipe h vs).forget
theorem wipe_at {σ : L2.St} {j : Nat} : ∀ {vs : List Nat}, j ∈ vs → (wipe σ vs)[j]? = if j < σ.length then some none else none
  | v :: vs, h => by
    unfold wipe
    by_cases hv : v = j
    · subst hv
      by_cases hl : v < σ.length
      · rw [List.getElem?_set_self (by rw [wipe_length]; exact hl), if_pos hl]
      · rw [if_neg hl]
        exact List.getElem?_eq_none_iff.mpr (by simp [wipe_length]; omega)
    · rw [List.getElem?_set_ne hv]
      exact wipe_at ((List.mem_cons.mp h).resolve_left fun z => hv z.symm)
/-- σ with names of the block stored: forgotten it is as before -/
theorem wipe_eq {σ σ2 : L2.St} {vs : List Nat} (hl : σ2.length = σ.length) (h : ∀ j, j ∉ vs → σ2[j]? = σ[j]?) : wipe σ2 vs = wipe σ vs := by
  apply List.ext_getElem?
  intro j
  by_cases hj : j ∈ vs
  · rw [wipe_at hj, wipe_at hj, hl]
  · rw [wipe_out hj, wipe_out hj]
    exact h j hj
theorem wipe_wipe {σ : L2.St} {vs : List Nat} : wipe (wipe σ vs) vs = wipe σ vs := wipe_eq (wipe_length σ vs) fun j hj => wipe_out hj
def setAllV (σ : L2.St) : List Nat → List V → L2.St
  | i :: is, d :: ds => setAllV (σ.set i (some d)) is ds
  | _, _ => σ
theorem setAllV_length : ∀ {is : List Nat} {vs : List V} {σ : L2.St}, (setAllV σ is vs).length = σ.length
  | [], _, _ => by simp [setAllV]
  | i :: is, [], σ => by simp [setAllV]
  | i :: is, v :: vs, σ => by simp [setAllV, setAllV_length]
theorem setAllV_out {j : Nat} : ∀ {is : List Nat} {vs : List V} {σ : L2.St}, j ∉ is → (setAllV σ is vs)[j]? = σ[j]?
  | [], _, _, _ => by simp [setAllV]
  | i :: is, [], σ, _ => by simp [setAllV]
  | i :: is, v :: vs, σ, h => by
    simp only [List.mem_cons, not_or] at h
    rw [setAllV, setAllV_out h.2, List.getElem?_set_ne (Ne.symm h.1)]
theorem SLR.setAll {H m} : ∀ {is : List Nat} {xs : List D} {vs : List V} {γ σ}, SLR K H m γ σ → Rps K H m xs vs → SLR K H m (setAll γ is xs) (setAllV σ is vs)
  | [], _, _, _, _, h, _ => by simpa [Ml.setAll, setAllV] using h
  | i :: is, [], vs, _, _, h, r => by rw [Rps] at r; subst r; simpa [Ml.setAll, setAllV] using h
  | i :: is, x :: xs, vs, γ, σ, h, r => by
    rw [Rps] at r
    obtain ⟨v, r', rfl, h1, h2⟩ := r
    simp only [Ml.setAll, setAllV]
    exact SLR.setAll (h.set h1) h2
theorem gNames_ok {H : Hp} {Q : L2.St → Hp → Prop} : ∀ {is : List Nat} {vs : List V} {σ : L2.St}, vs.length = is.length → Q (setAllV σ is vs) H → gNames is vs σ H Q
  | [], [], σ, _, q => ⟨rfl, by simpa [setAllV] using q⟩
  | i :: is, v :: vs, σ, h, q => ⟨v, vs, rfl, gNames_ok (by simpa using h) (by simpa [setAllV] using q)⟩
theorem gTgt_ok {H m γ γ1 σ vs d v} {tgt : Tgt} {Q : L2.St → Hp → Prop} (hγ : SLR K H m γ σ) (hd : Rp K H m d v) (e : bindT tgt d γ = some γ1) (hv : inTgt tgt vs = true) (q : ∀ σ1, SLR K H m γ1 σ1 → wipe σ1 vs = wipe σ vs → Q σ1 H) : gTgt K.f tgt v σ H Q := by
  cases tgt with
  | one i =>
    simp only [bindT, Option.some.injEq] at e
    subst e
    have hi : i ∈ vs := by simpa [inTgt] using hv
    refine q _ (hγ.set hd) (wipe_eq (by simp) fun j hj => ?_)
    exact List.getElem?_set_ne (fun (z : i = j) => hj (by rw [← z]; exact hi))
  | many is =>
    cases d <;> simp only [bindT, reduceCtorEq] at e
    rename_i xs
    split at e
    · rename_i hl
      cases e
      rw [Rp] at hd
      obtain ⟨a, ws, rfl, ha, hw⟩ := hd
      have hin : ∀ i ∈ is, i ∈ vs := by simpa [inTgt] using hv
      refine ⟨a, ws, rfl, ha, by rw [hw.length]; exact hl, gNames_ok (by rw [hw.length]; exact hl) (q _ (hγ.setAll hw) (wipe_eq setAllV_length fun j hj => ?_))⟩
      exact setAllV_out fun z => hj (hin j z)
    · cases e
/-- n: the new list; γ: the slots, without the block's names -/
noncomputable def compI (ck : Option (Nat × O)) (tgt : Tgt) (t : CvM) (e : EvM) (γ : Sl) (n : Nat) : List D → Sto → Option Sto
  | [], S => if Chk ck S then some S else none
  | x :: r, S => if Chk ck S then match bindT tgt x γ with
      | none => none
      | some γ1 => match t γ1 S with
        | none => none
        | some (false, S1) => compI ck tgt t e γ n r S1
        | some (true, S1) => match e γ1 S1 with
          | none => none
          | some (y, S2) => match S2[n]? with
            | some (.lst acc) => if acc.length < sizeLine then compI ck tgt t e γ n r (S2.set n (.lst (acc ++ [y]))) else none
            | _ => none
    else none
noncomputable def compM (iv : IvM) (tgt : Tgt) (t : CvM) (e : EvM) (vs : List Nat) : EvM := fun γ S => match iv γ S with
  | none => none
  | some (ck, xs, S1) => match compI ck tgt t e (wipeD γ vs) S1.length xs (S1 ++ [.lst []]) with
    | some S' => some (.ref S1.length, S')
    | none => none
def yesC : CvM := fun _ S => some (true, S)
theorem lcm_core {iv : IvM} {tgt : Tgt} {vs : List Nat} {σ : L2.St} {H : Hp} {Q : VK} (hv : inTgt tgt vs = true) (h : tM K (compM iv tgt ca ea vs) σ H Q) :
    tLc (tIM K iv) (gTgt K.f tgt) (tTM K ca) (tM K ea) vs σ H Q := by
  obtain ⟨m, S, γ, d, S', hS, hγ, e, q⟩ := h
  unfold compM at e
  split at e
  · cases e
  · rename_i ck xs S1 h1
    split at e
    · rename_i Sf h2
      cases e
      refine ⟨m, S, γ, ck, xs, S1, hS, hγ, h1, fun J H1 m1 x1 hS1 wk D hD => ?_⟩
      have hS2 : SR K (upd H1 D (.lst [])) (m1 ++ [D]) (S1 ++ [.lst []]) := hS1.newM hD ⟨[], upd_same, by rw [Rps]⟩
      have x2 : Ext K H1 m1 (upd H1 D (.lst [])) (m1 ++ [D]) := .newM hD
      have hDm : (m1 ++ [D])[S1.length]? = some D := by rw [← hS1.len]; simp
      refine ⟨fun i k H => i ≤ xs.length ∧ k = xs.length - i ∧ ∃ m S, Ext K (upd H1 D (.lst [])) (m1 ++ [D]) H m ∧ SR K H m S ∧ compI ck tgt ca ea (wipeD γ vs) S1.length (xs.drop i) S = some S',
        ⟨xs.length, Nat.zero_le _, rfl, m1 ++ [D], _, .refl, hS2, h2⟩, ?_⟩
      rintro i k H ⟨hi, rfl, m, S, x3, hS3, e⟩
      by_cases hlt : i < xs.length
      · rw [drop_cons (List.getElem?_eq_getElem hlt)] at e
        unfold compI at e
        split at e
        · rename_i hk
          obtain ⟨hgo, hy⟩ := wk.go H m S i (x2.trans x3) hS3 hk hlt
          refine .inr ⟨hgo, fun H => ∃ m S, Ext K (upd H1 D (.lst [])) (m1 ++ [D]) H m ∧ SR K H m S ∧ compI ck tgt ca ea (wipeD γ vs) S1.length (xs.drop (i + 1)) S = some S',
            fun H' w => ⟨xs.length - (i + 1), by omega, hlt, rfl, w⟩, fun v H2 yl => ?_⟩
          obtain ⟨d, hd, x4, hS4, hv2⟩ := hy v H2 yl
          rw [List.getElem?_eq_getElem hlt] at hd
          cases hd
          split at e
          · cases e
          · rename_i γ1 h3
            have hγ2 : SLR K H2 m (wipeD γ vs) (wipe σ vs) := (hγ.mono (x1.trans (x2.trans (x3.trans x4)))).wipe vs
            refine gTgt_ok hγ2 hv2 h3 hv fun σ1 hγ3 hw => ⟨by rw [hw, wipe_wipe], ?_⟩
            split at e
            · cases e
            · rename_i S5 h4
              refine ⟨m, S, γ1, false, S5, hS4, hγ3, h4, fun H5 m5 x5 hS5 => iteF ?_⟩
              exact ⟨m5, S5, x3.trans (x4.trans x5), hS5, e⟩
            · rename_i S5 h4
              refine ⟨m, S, γ1, true, S5, hS4, hγ3, h4, fun H5 m5 x5 hS5 => iteT ?_⟩
              split at e
              · cases e
              · rename_i y S6 h5
                refine ⟨m5, S5, γ1, y, S6, hS5, hγ3.mono x5, h5, fun w H6 m6 x6 hS6 hw6 => ?_⟩
                split at e
                · rename_i acc h6
                  split at e
                  · rename_i hz
                    have x7 := x3.trans (x4.trans (x5.trans x6))
                    obtain ⟨a', ws, m7, k7, r7⟩ := hS6.lst h6
                    rw [x7.get hDm] at m7; cases m7
                    refine ⟨ws, k7, by rw [r7.length]; exact hz, m6, _, x7.trans (.upd k7 trivial), hS6.upd (u := .lst (acc ++ [y])) (x7.get hDm) (lt_of h6) ⟨_, upd_same, (r7.append (Rps.one hw6)).mono (.upd k7 trivial)⟩, e⟩
                  · cases e
                · cases e
        · cases e
      · have hi2 : i = xs.length := by omega
        subst hi2
        rw [List.drop_length] at e
        unfold compI at e
        split at e
        · rename_i hk
          cases e
          refine .inl ⟨wk.stop H m _ (x2.trans x3) hS3 hk, q _ H m (x1.trans (x2.trans x3)) hS3 ?_⟩
          rw [Rp]
          exact ⟨D, x3.get hDm, rfl⟩
        · cases e
    · cases e
/-- tests of a comprehension -/
abbrev MTs (tb : List NdefX.NTab) (X : Cx) (ifs : List Expr) (c : CvM) : Prop := PTs X ifs (tTM (kx tb X) c)
theorem PTs.imp {ifs : List Expr} {t t' : TT} (h : PTs X ifs t) (hi : ∀ σ H Q, t' σ H Q → t σ H Q) : PTs X ifs t' := ⟨fun pins s σ H Q I q => h.run pins s σ H Q I (hi σ H Q q)⟩
theorem mts_nil : MTs tb X [] yesC := PTs.imp pts_nil fun σ H Q h => by
  obtain ⟨m, S, γ, b, S', hS, hγ, e, q⟩ := h
  cases e
  exact q H m .refl hS
theorem mts_one (h : MT tb X c ca) : MTs tb X [c] ca := pts_one h
/-- a comprehension's names, as a target -/
theorem mgn_nil : PGs X [] (gNames []) := pgs_nil
theorem mgn_cons {i : Nat} {is : List Nat} (h1 : PG X e (gName i)) (h2 : PGs X es (gNames is)) (hs : (assignEach (e :: es) X.env).map (·.2) = assign e X.env :: (assignEach es X.env).map (·.2) := by rfl) : PGs X (e :: es) (gNames (i :: is)) := pgs_cons h1 h2 hs
variable {elt : Expr} {ifs : List Expr} {scope : Scope} {own : List (Str × Nat)} {iv : IvM} {tgt : Tgt}
theorem me_lc (hc : X.calm = true) (hN : X.N.Nodup) (hi : MI tb X tg iter iv) (ok : BlkOk X.N X.env.scope scope own) (hv : inTgt tgt (own.map (·.2)) = true)
    (hg : ∀ (s : Shared) (H : Hp) (C : Addr) (cl : List (Str × Addr)) (fp : List Addr), PG (X.blk s H scope (compEnvC scope cl C X.env) fp) tg (gTgt X.K tgt)) (ht : ∀ (s : Shared) (H : Hp) (C : Addr) (cl : List (Str × Addr)) (fp : List Addr), MTs tb (X.blk s H scope (compEnvC scope cl C X.env) fp) ifs ca)
    (he : ∀ (s : Shared) (H : Hp) (C : Addr) (cl : List (Str × Addr)) (fp : List Addr), ME tb (X.blk s H scope (compEnvC scope cl C X.env) fp) elt ea) (hs : ∀ x, foldedSetIterable iter X.env x = pure x := by intro _; rfl) :
    ME tb X (.ListComp elt [⟨tg, iter, ifs, 0⟩] scope pos) (compM iv tgt ca ea (own.map (·.2))) :=
  PE.imp (pe_lc hc hN hi ok hg ht he hs) fun σ H Q h => lcm_core hv h
theorem ms_setLc (i : Nat) {y : Str} {py : Pos} {spos : Pos} (hc : X.calm = true) (hN : X.N.Nodup) (hy : X.N[i]? = some y) (hyl : X.env.scope.names.lookup y = some .local)
    (hsw : swapsWith (.ListComp elt [⟨tg, iter, ifs, 0⟩] scope pos) (some (.Name y py)) spos.line X.env = pure true) (hi : MI tb X tg iter iv) (ok : BlkOk X.N X.env.scope scope own) (hv : inTgt tgt (own.map (·.2)) = true)
    (hg : ∀ (s : Shared) (H : Hp) (C : Addr) (cl : List (Str × Addr)) (fp : List Addr), PG (X.blk s H scope (compEnvC scope cl C X.env) fp) tg (gTgt X.K tgt)) (ht : ∀ (s : Shared) (H : Hp) (C : Addr) (cl : List (Str × Addr)) (fp : List Addr), MTs tb (X.blk s H scope (compEnvC scope cl C X.env) fp) ifs ca)
    (he : ∀ (s : Shared) (H : Hp) (C : Addr) (cl : List (Str × Addr)) (fp : List Addr), ME tb (X.blk s H scope (compEnvC scope cl C X.env) fp) elt ea) (hs : ∀ x, foldedSetIterable iter X.env x = pure x := by intro _; rfl) :
    MS tb X (.Assign [.Name y py] (.ListComp elt [⟨tg, iter, ifs, 0⟩] scope pos) spos) (asgM (compM iv tgt ca ea (own.map (·.2))) (nameG i)) :=
  PS.imp (ps_setLc hc hN hy hyl hsw hi ok hg ht he hs) fun Dn σ H h => by
    obtain ⟨m, S, γ, f, γ', S', hS, hγ, e, q⟩ := h
    unfold asgM nameG at e
    split at e
    · cases e
    · rename_i d S1 h1
      cases e
      refine lcm_core hv (Q := fun x H1 => gName i x σ H1 Dn.nx) ⟨m, S, γ, d, _, hS, hγ, h1, fun w H1 m1 x1 hS1 hw => ?_⟩
      exact q _ H1 m1 x1 hS1 ((hγ.mono x1).set hw)
end
end Ml
namespace Ml
open L2 PyProof.Rows PySem PySem.Spec
/-- a def's body over n slots, called with xs -/
def bodyM (n : Nat) (s : SvM) : List D → Sto → Option (D × Sto) := fun xs S => match s (xs.map some ++ List.replicate (n - xs.length) none) S with
  | some (.rt d, _, S') => some (d, S')
  | some (.nx, _, S') => some (.non, S')
  | _ => none
theorem slr_start {K H m} {N : List Str} {xs : List D} {vs : List V} (h : Rps K H m xs vs) (hn : xs.length ≤ N.length) : SLR K H m (xs.map some ++ List.replicate (N.length - xs.length) none) (L2.start N vs) := by
  have hl := h.length
  refine ⟨by simp [L2.start, hl], fun i d e => ?_⟩
  unfold L2.start
  by_cases hi : i < xs.length
  · rw [List.getElem?_append_left (by simpa using hi)] at e
    rw [List.getElem?_map] at e
    cases hx : xs[i]? with
    | none => rw [hx] at e; cases e
    | some y =>
      rw [hx] at e
      cases e
      obtain ⟨v, h1, h2⟩ := h.get hx
      refine ⟨v, ?_, h2⟩
      rw [List.getElem?_append_left (by rw [List.length_map, hl]; exact hi), List.getElem?_map, h1]
      rfl
  · rw [List.getElem?_append_right (by simpa using hi)] at e
    have := List.mem_of_getElem? e
    simp at this
section
variable {P : Program} {w : World} {K : PySem.W.Frag} {tb : List NdefX.NTab}
variable {mg : Str → Option Value} {base : Heap}
/-- THE RULE for a def -/
theorem ok_def {x qual : Str} {st : Stmt} {f : Addr} {fd : FuncData} {N ps : List Str} {k : Nat} {s : SvM} (F : Fun K x qual st f fd) (S : FnScope N ps (defScope st)) (hn : ps.length ≤ N.length)
    (hb : ∀ (cdv : Value) (A : Around) (outer : List Env) (s0 : Shared) (H : Hp) (E : XK), Room k (cxOf CX0 P w K mg base N qual (defScope st) f cdv A outer s0 H E).A → MSs tb (cxOf CX0 P w K mg base N qual (defScope st) f cdv A outer s0 H E).nox (defBody st) s) :
    FnOk P w K mg base CX0 (k + 1) f fd ps (spM ⟨K, P, w, base, tb⟩ ps.length (bodyM N.length s)) := by
  refine F.ok S (fun vs H Q E h => ?_) fun cdv A outer s0 H vs Q E hr h => ?_
  · obtain ⟨m, S, xs, d, S', h1, _, h2, _⟩ := h
    rw [h2.length, h1]
  · obtain ⟨m, S, xs, d, S', h1, hS, h2, h3, q⟩ := h
    refine ⟨_, hb cdv A outer s0 H E hr, ?_⟩
    unfold bodyM at h3
    split at h3
    · rename_i d' γ' S1 h4
      cases h3
      exact ⟨m, S, _, .rt d, γ', _, hS, slr_start h2 (by rw [h1]; exact hn), h4, q⟩
    · rename_i γ' S1 h4
      cases h3
      exact ⟨m, S, _, .nx, γ', _, hS, slr_start h2 (by rw [h1]; exact hn), h4, fun σ' H' m' x hS' _ => q _ H' m' x hS' (by rw [Rp])⟩
    · cases h3
theorem ok_zero {f : Addr} {fd : FuncData} {ps : List Str} {k : Nat} : FnOk P w K mg base CX0 k f fd ps (spM ⟨K, P, w, base, tb⟩ ps.length fun _ _ => none) := by
  have no : ∀ vs H Q E, ¬ spM ⟨K, P, w, base, tb⟩ ps.length (fun _ _ => none) vs H Q E := fun vs H Q E h => by
    obtain ⟨m, S, xs, d, S', h1, _, h2, h3, _⟩ := h
    cases h3
  exact ⟨fun vs H Q E h => (no _ _ _ _ h).elim, fun A outer s H args us vs Q E _ _ _ _ h => (no _ _ _ _ h).elim⟩
end
/-! ### keywords -/
def permL {α : Type} (is : List Nat) (xs : List α) : List α := is.filterMap fun i => xs[i]?
theorem Rps.perm {K H m} {xs : List D} {vs : List V} (h : Rps K H m xs vs) : ∀ is : List Nat, Rps K H m (permL is xs) (permL is vs)
  | [] => Rps.nil
  | i :: is => by
    unfold permL
    rw [List.filterMap_cons, List.filterMap_cons]
    cases hx : xs[i]? with
    | none =>
      have : vs[i]? = none := by
        rw [List.getElem?_eq_none_iff] at hx ⊢
        rw [h.length]; exact hx
      rw [this]
      exact Rps.perm h is
    | some y =>
      obtain ⟨v, h1, h2⟩ := h.get hx
      rw [h1]
      exact Rps.cons h2 (Rps.perm h is)
theorem Vals.perm {vs : List V} {us : List Value} (h : Vals vs us) : ∀ is : List Nat, Vals (permL is vs) (permL is us)
  | [] => .nil
  | i :: is => by
    unfold permL
    rw [List.filterMap_cons, List.filterMap_cons]
    cases hx : vs[i]? with
    | none =>
      have : us[i]? = none := Vals.none_of h hx
      rw [this]
      exact Vals.perm h is
    | some y =>
      obtain ⟨v, h1, h2⟩ := Vals.get h hx
      rw [h1]
      exact .cons h2 (Vals.perm h is)
/-- na positional arguments, then keywords that stand in the places is tell -/
def callKM (na nk n : Nat) (is : List Nat) (F : List D → Sto → Option (D × Sto)) (ra rk : AvM) : EvM := fun γ S => match ra γ S with
  | none => none
  | some (xs, S1) => match rk γ S1 with
    | none => none
    | some (ys, S2) => if xs.length = na ∧ ys.length = nk ∧ (xs ++ permL is ys).length = n then F (xs ++ permL is ys) S2 else none
/-- how such a call binds -/
def KBind (fd : FuncData) (ps ks : List Str) (na : Nat) (is : List Nat) : Prop := ∀ us ws : List Value, us.length = na → ws.length = ks.length → bindArgs fd ⟨us, ks.zip ws⟩ = pure (ps.zip (us ++ permL is ws))
section
variable {tb : List NdefX.NTab} {X : Cx} {k : Nat} {f : Addr} {fd : FuncData} {ps ks : List Str} {n na : Nat} {is : List Nat} {G : List D → Sto → Option (D × Sto)} {x : Str} {p pos : Pos} {kws : List Keyword} {ra rk : AvM} {e : Expr} {es : List Expr}
theorem run_kw {pins : List (Addr × Obj)} {σ : L2.St} {H : Hp} {s : Shared} {Q : VK} {us ws : List Value} {vs zs : List V} (F : FnOk X.prog X.w X.K X.mg X.base CX0 k f fd ps (spM (kx tb X) n G)) (hr : Room k X.A) (hb : KBind fd ps ks na is)
    (I : Inv X pins σ H s) (r : Vals vs us) (rz : Vals zs ws) (hu : us.length = na) (hw : ws.length = ks.length) (h : spM (kx tb X) n G (vs ++ permL is zs) H Q E0) : wpAny (model X.prog X.w) X.A (call (.ref f) us (ks.zip ws)) (EP X pins σ Q) X.xe s := by
  have r2 : Vals (vs ++ permL is zs) (us ++ permL is ws) := Vals.append r (Vals.perm rz is)
  refine wpAny_call (codeAny_mono (F.run X.A X.stack s H ⟨us, ks.zip ws⟩ (us ++ permL is ws) (vs ++ permL is zs) Q E0 hr I.env0 (.of_eq (hb us ws hu hw)) r2 h) fun r s' hq => ?_)
  cases r with
  | error e => exact (False.elim hq)
  | ok fl =>
    cases fl with
    | ret u => exact I.after hq
    | next => exact (False.elim hq)
    | brk => exact (False.elim hq)
    | cont => exact (False.elim hq)
theorem me_callK (F : FnOk X.prog X.w X.K X.mg X.base CX0 k f fd ps (spM (kx tb X) n G)) (hr : Room k X.A) (hg : Gl X x) (hm : X.mg x = some (.ref f)) (hk : PySem.W.keepIn X.K (.ref f) = true) (hb : KBind fd ps ks na is)
    (ha : MA tb X (e :: es) ra) (hkw : MK tb X kws rk) (hall : (backToKw pos (keywordEach kws X.env)).all (·.1.isSome) = true := by rfl)
    (hks : (backToKw pos (keywordEach kws X.env)).filterMap (·.1) = ks := by rfl) (hdb : (x == ("__debug__" : Str)) = false := by decide)
    (he : starEach (e :: es) X.env = (false, eval e X.env) :: starEach es X.env := by rfl)
    (hpl : ((backTo pos (starEach (e :: es) X.env)).any (·.1) || (backToKw pos (keywordEach kws X.env)).any (·.1.isNone)) = false := by rfl) : ME tb X (.Call (.Name x p) (e :: es) kws pos) (callKM na ks.length n is G ra rk) := by
  refine .mk fun pins s σ H Q I h => ?_
  obtain ⟨m, S, γ, d, S', hS, hγ, e1, q⟩ := h
  unfold callKM at e1
  split at e1
  · cases e1
  · rename_i xs S1 h1
    split at e1
    · cases e1
    · rename_i ys S2 h2
      split at e1
      · rename_i hl
        refine (wpAny_Call_Name_kw (ld_glob I hg hm ?_ hdb))
        refine PySem.W.callWith_KW (h₀ := X.base) I.ok.mod.kin hk hall (thn (ha.run pos pins s σ H (fun vs H1 => ∃ m1, Ext (kx tb X) H m H1 m1 ∧ SR (kx tb X) H1 m1 S1 ∧ Rps (kx tb X) H1 m1 xs vs) I ⟨m, S, γ, xs, S1, hS, hγ, h1, fun vs H1 m1 x1 hS1 hv => ⟨m1, x1, hS1, hv⟩⟩) fun us s1 hq => ?_) hpl he
        obtain ⟨vs, H1, I1, r, m1, x1, hS1, hv⟩ := hq
        refine thn (hkw.run pos pins s1 σ H1 (fun zs H2 => ∃ m2, Ext (kx tb X) H1 m1 H2 m2 ∧ SR (kx tb X) H2 m2 S2 ∧ Rps (kx tb X) H2 m2 ys zs) I1 ⟨m1, S1, γ, ys, S2, hS1, hγ.mono x1, h2, fun vs H2 m2 x2 hS2 hz => ⟨m2, x2, hS2, hz⟩⟩) fun ws s2 hq => ?_
        obtain ⟨zs, H2, I2, rz, m2, x2, hS2, hz⟩ := hq
        refine ⟨I2.kIn, ?_⟩
        rw [hks]
        refine run_kw (us := us) F hr hb I2 r rz (by rw [← r.length, hv.length]; exact hl.1) (by rw [← rz.length, hz.length]; exact hl.2.1) ?_
        exact ⟨m2, S2, _, d, S', hl.2.2, hS2, (hv.mono x2).append (hz.perm is), e1, fun y H3 m3 x3 => q y H3 m3 (x1.trans (x2.trans x3))⟩
      · cases e1
theorem me_callK0 (F : FnOk X.prog X.w X.K X.mg X.base CX0 k f fd ps (spM (kx tb X) n G)) (hr : Room k X.A) (hg : Gl X x) (hm : X.mg x = some (.ref f)) (hk : PySem.W.keepIn X.K (.ref f) = true) (hb : KBind fd ps ks 0 is)
    (hkw : MK tb X kws rk) (hall : (backToKw pos (keywordEach kws X.env)).all (·.1.isSome) = true := by rfl)
    (hks : (backToKw pos (keywordEach kws X.env)).filterMap (·.1) = ks := by rfl) (hdb : (x == ("__debug__" : Str)) = false := by decide)
    (hpl : ((backTo pos (starEach [] X.env)).any (·.1) || (backToKw pos (keywordEach kws X.env)).any (·.1.isNone)) = false := by rfl) : ME tb X (.Call (.Name x p) [] kws pos) (callKM 0 ks.length n is G nilA rk) := by
  refine .mk fun pins s σ H Q I h => ?_
  obtain ⟨m, S, γ, d, S', hS, hγ, e1, q⟩ := h
  unfold callKM nilA at e1
  dsimp only at e1
  split at e1
  · cases e1
  · rename_i ys S2 h2
    split at e1
    · rename_i hl
      refine (wpAny_Call_Name_kw (ld_glob I hg hm ?_ hdb))
      refine PySem.W.callWith_KW0 (h₀ := X.base) I.ok.mod.kin hk hall ?_ hpl
      refine thn (hkw.run pos pins s σ H (fun zs H2 => ∃ m2, Ext (kx tb X) H m H2 m2 ∧ SR (kx tb X) H2 m2 S2 ∧ Rps (kx tb X) H2 m2 ys zs) I ⟨m, S, γ, ys, S2, hS, hγ, h2, fun vs H2 m2 x2 hS2 hz => ⟨m2, x2, hS2, hz⟩⟩) fun ws s2 hq => ?_
      obtain ⟨zs, H2, I2, rz, m2, x2, hS2, hz⟩ := hq
      refine ⟨I2.kIn, ?_⟩
      rw [hks]
      refine run_kw (us := []) (vs := []) F hr hb I2 .nil rz rfl (by rw [← rz.length, hz.length]; exact hl.2.1) ?_
      exact ⟨m2, S2, _, d, S', hl.2.2, hS2, hz.perm is, e1, fun y H3 m3 x3 => q y H3 m3 (x2.trans x3)⟩
    · cases e1
end
end Ml
/-! dicts whose keys are tuples of any make -/
namespace Ml
open L2 PyProof.Rows PySem PySem.Spec
section
variable {tb : List NdefX.NTab} {X : Cx} {pins : List (Addr × Obj)} {σ : L2.St} {H : Hp} {m : List Addr} {s : Shared}
mutual
theorem nk_is (I : Inv X pins σ H s) : ∀ (d : D) (v : V) (u : Value) (k : NestedKey), Rp (kx tb X) H m d v → RelV v u → nk d = some k → NestedIs s.heap k u
  | .non, v, u, k, h, r, e => by rw [Rp] at h; rw [nk] at e; cases e; subst h; cases r; exact .none
  | .bl b, v, u, k, h, r, e => by rw [Rp] at h; rw [nk] at e; cases e; subst h; cases r; exact .bool rfl
  | .int i, v, u, k, h, r, e => by rw [Rp] at h; rw [nk] at e; cases e; subst h; obtain ⟨t, rfl⟩ := r; exact .int _ _
  | .str i, v, u, k, h, r, e => by rw [Rp] at h; rw [nk] at e; cases e; subst h; obtain ⟨t, rfl⟩ := r; exact .text _ _
  | .tup xs, v, u, k, h, r, e => by
    rw [Rp] at h
    obtain ⟨a, vs, rfl, ha, hv⟩ := h
    rw [nk] at e
    cases hk : nks xs with
    | none => rw [hk] at e; cases e
    | some ks =>
      rw [hk] at e
      cases e
      cases r
      obtain ⟨its, rv, ⟨o, ho, hc, n, hd⟩, _⟩ := I.tuple ha
      exact .tup ho hc hd (by simpa using nks_is I xs vs its ks hv rv hk)
  | .rl n, v, u, k, h, r, e => by rw [nk] at e; cases e
  | .ref n, v, u, k, h, r, e => by rw [nk] at e; cases e
theorem nks_is (I : Inv X pins σ H s) : ∀ (d : List D) (v : List V) (u : List Value) (k : List NestedKey), Rps (kx tb X) H m d v → Vals v u → nks d = some k → NestedAll s.heap k u
  | [], v, u, k, h, r, e => by rw [Rps] at h; rw [nks] at e; cases e; subst h; cases r; exact .nil
  | x :: xs, v, u, k, h, r, e => by
    rw [Rps] at h
    obtain ⟨w, vs, rfl, h1, h2⟩ := h
    rw [nks] at e
    cases hk : nk x with
    | none => rw [hk] at e; cases e
    | some k1 =>
      cases hks : nks xs with
      | none => rw [hk, hks] at e; cases e
      | some ks =>
        rw [hk, hks] at e
        cases e
        cases r with
        | cons r1 r2 => exact .cons (nk_is I x w _ k1 h1 r1 hk) (nks_is I xs vs _ ks h2 r2 hks)
end
abbrev nkd (X : Cx) := nestedKind X.prog X.w
/-- what a dict of the store is in the heap -/
structure DnAt (X : Cx) (s : Shared) (a : Addr) (xs : List (NestedKey × Addr × V)) (ys : List (NestedKey × Addr × Value)) : Prop where
  low : (a == sysModules) = false
  len : ys.length ≤ sizeLine
  rel : Paired (fun (p : NestedKey × Addr × V) (q : NestedKey × Addr × Value) => p.1 = q.1 ∧ p.2.1 = q.2.1 ∧ RelV p.2.2 q.2.2) xs ys
  dict : s.heap.DictOfH (nkd X) a ys
theorem rel_ref {a : Addr} : RelV (V.ref a) (Value.ref a) := rfl
theorem keys_is (I : Inv X pins σ H s) : ∀ {kvs : List (D × D)} {xs : List (NestedKey × Addr × V)} {ys : List (NestedKey × Addr × Value)}, Rdn (kx tb X) H m kvs xs →
    Paired (fun (p : NestedKey × Addr × V) (q : NestedKey × Addr × Value) => p.1 = q.1 ∧ p.2.1 = q.2.1 ∧ RelV p.2.2 q.2.2) xs ys → ∀ y ∈ ys, (nkd X).is s.heap y.1 y.2.1
  | _, _, _, .nil, .nil, _, hy => nomatch hy
  | _, _, _, .cons p t, .cons q u, y, hy => by
    rcases (List.mem_cons.mp hy) with rfl | hy
    · obtain ⟨h1, h2, h3, _⟩ := p
      obtain ⟨e1, e2, _⟩ := q
      exact ⟨by rw [← e1, ← e2]; exact nk_is I _ _ _ _ h3 rel_ref h1, by rw [← e1]; exact h2⟩
    · exact keys_is I t u y hy
theorem dn_at (I : Inv X pins σ H s) {a : Addr} {kvs : List (D × D)} {xs : List (NestedKey × Addr × V)} (h : dnF X.prog X.w a xs s.heap) (r : Rdn (kx tb X) H m kvs xs) : ∃ ys, DnAt X s a xs ys := by
  obtain ⟨h1, h2, ys, h3, o, es, ep, h4, h5, h6, h7, h8⟩ := h
  exact ⟨ys, h1, by rw [← Paired.length h3]; exact h2, h3, o, es, ep, h4, h5, h6, h7, keys_is I r h3, h8⟩
/-- a dict of the store, read -/
theorem dn_read {S : Sto} {n : Nat} {lk : Bool} {kvs : List (D × D)} (I : Inv X pins σ H s) (hS : SR (kx tb X) H m S) (e : S[n]? = some (.dn lk kvs)) :
    ∃ a xs ys, m[n]? = some a ∧ Rdn (kx tb X) H m kvs xs ∧ DnAt X s a xs ys := by
  obtain ⟨a, h1, h2⟩ := hS.addr e
  cases lk with
  | false =>
    obtain ⟨xs, h3, h4⟩ := h2
    obtain ⟨h5, _⟩ := I.hok a _ h3
    obtain ⟨ys, h6⟩ := dn_at I h5 h4
    exact ⟨a, xs, ys, h1, h4, h6⟩
  | true =>
    obtain ⟨od, xs, h3, h4⟩ := h2
    obtain ⟨_, h5, _⟩ := I.hok a _ h3
    obtain ⟨ys, h6⟩ := dn_at I h5 h4
    exact ⟨a, xs, ys, h1, h4, h6⟩
/-- the value at a key -/
def lookN (kvs : List (D × D)) (k : NestedKey) : Option D := (kvs.find? fun p => decide (nk p.1 = some k)).map (·.2)
theorem look_rel {k : NestedKey} : ∀ {kvs : List (D × D)} {xs : List (NestedKey × Addr × V)} {ys : List (NestedKey × Addr × Value)}, Rdn (kx tb X) H m kvs xs →
    Paired (fun (p : NestedKey × Addr × V) (q : NestedKey × Addr × Value) => p.1 = q.1 ∧ p.2.1 = q.2.1 ∧ RelV p.2.2 q.2.2) xs ys →
    (lookN kvs k = none ∧ atKey ys k = none) ∨ ∃ d v p, lookN kvs k = some d ∧ atKey ys k = some p ∧ Rp (kx tb X) H m d v ∧ RelV v p.2
  | _, _, _, .nil, .nil => .inl ⟨rfl, rfl⟩
  | _, _, _, .cons (a := p) (b := q) h t, .cons (b := y) g u => by
    obtain ⟨h1, h2, h3, h4⟩ := h
    obtain ⟨e1, e2, e3⟩ := g
    by_cases hk : q.1 = k
    · refine .inr ⟨p.2, q.2.2, y.2, ?_, ?_, h4, e3⟩
      · unfold lookN
        rw [List.find?_cons_of_pos (by rw [h1, hk]; exact decide_eq_true rfl)]
        rfl
      · unfold atKey
        rw [List.find?_cons_of_pos (by rw [← e1, hk]; exact decide_eq_true rfl)]
        rfl
    · have n1 : ¬ (decide (nk p.1 = some k) = true) := by rw [h1]; simpa using hk
      have n2 : ¬ (decide (y.1 = k) = true) := by rw [← e1]; simpa using hk
      rcases look_rel (k := k) t u with ⟨i1, i2⟩ | ⟨d, v, z, i1, i2, i3, i4⟩
      · refine .inl ⟨?_, ?_⟩
        · unfold lookN at i1 ⊢; rw [List.find?_cons_of_neg (p := fun (p : D × D) => decide (nk p.1 = some k)) n1]; exact i1
        · unfold atKey at i2 ⊢; rw [List.find?_cons_of_neg (p := fun (x : NestedKey × Addr × Value) => decide (x.1 = k)) n2]; exact i2
      · refine .inr ⟨d, v, z, ?_, ?_, i3, i4⟩
        · unfold lookN at i1 ⊢; rw [List.find?_cons_of_neg (p := fun (p : D × D) => decide (nk p.1 = some k)) n1]; exact i1
        · unfold atKey at i2 ⊢; rw [List.find?_cons_of_neg (p := fun (x : NestedKey × Addr × Value) => decide (x.1 = k)) n2]; exact i2
end
/-- a rule by what F tells -/
def rOf (K : Kx) (F : D → D → Sto → Option (D × Sto)) : R2 := fun x y H Q => ∃ m S dx dy d S', SR K H m S ∧ Rp K H m dx x ∧ Rp K H m dy y ∧ F dx dy S = some (d, S') ∧ Fin K H m S' d Q
theorem rOf_ok {K : Kx} {F : D → D → Sto → Option (D × Sto)} : FOk2 K F (rOf K F) := fun x y S d S' e H m vx vy Q hS hx hy q => ⟨m, S, x, y, d, S', hS, hx, hy, e, q⟩
def keyN (ks : List D) : Option NestedKey := match nk (.tup ks) with
  | some k => if k.depth ≤ 8 then some k else none
  | none => none
theorem keyN_ok {ks : List D} {k : NestedKey} (h : keyN ks = some k) : nk (.tup ks) = some k ∧ k.depth ≤ 8 := by
  unfold keyN at h
  split at h
  · rename_i k' hk
    split at h
    · rename_i hd
      cases h
      exact ⟨hk, hd⟩
    · cases h
  · cases h
def getF : D → D → Sto → Option (D × Sto)
  | .ref n, .tup ks, S => match S[n]?, keyN ks with
    | some (.dn _ kvs), some k => match lookN kvs k with
      | some d => some (d, S)
      | none => none
    | _, _ => none
  | _, _, _ => none
def inD (neg : Bool) : D → D → Sto → Option (D × Sto)
  | .tup ks, .ref n, S => match S[n]?, keyN ks with
    | some (.dn _ kvs), some k => some (.bl (if neg then !(lookN kvs k).isSome else (lookN kvs k).isSome), S)
    | _, _ => none
  | _, _, _ => none
section
variable {tb : List NdefX.NTab} {X : Cx} {pins : List (Addr × Obj)} {σ : L2.St} {H : Hp} {m : List Addr} {s : Shared} {a b c e : Expr} {ea eb ec : EvM} {pos : Pos}
theorem hu1_room (hu : X.A.units + 9 < cLine) : (nkd X).room X.A.in1 := by show X.A.units + 1 + 8 < cLine; omega
theorem key_is {ks : List D} {k : NestedKey} {v : V} {u : Value} (I : Inv X pins σ H s) (h : Rp (kx tb X) H m (.tup ks) v) (r : RelV v u) (hk : keyN ks = some k) : ∃ q, u = .ref q ∧ (nkd X).is s.heap k q := by
  obtain ⟨h1, h2⟩ := keyN_ok hk
  have q := nk_is I _ _ _ _ h r h1
  rw [Rp] at h
  obtain ⟨a, vs, rfl, _⟩ := h
  cases r
  exact ⟨a, rfl, q, h2⟩
theorem ix_dn (hu : X.A.units + 9 < cLine) : IxR X (rOf (kx tb X) getF) := by
  intro value slice pins s σ; intro H x y v u Q I rx ry h hs
  obtain ⟨m, S, dx, dy, d, S', hS, hx, hy, e, q⟩ := h
  unfold getF at e
  split at e
  · rename_i n ks
    split at e
    · rename_i lk kvs k h1 h2
      split at e
      · rename_i d' h3
        cases e
        obtain ⟨a, xs, ys, h4, h5, h6⟩ := dn_read I hS h1
        obtain ⟨p, rfl, hk⟩ := key_is I hy ry h2
        rw [Rp] at hx
        obtain ⟨a', h7, rfl⟩ := hx
        rw [h4] at h7; cases h7
        cases rx
        rcases look_rel (k := k) h5 h6.rel with ⟨i1, _⟩ | ⟨d2, w, z, i1, i2, i3, i4⟩
        · rw [h3] at i1; cases i1
        · rw [h3] at i1; cases i1
          exact tail_any h6.dict.typeIs slot_dict_getitem.lookup (wpAny_getItem_heap (hu1_room hu) hk h6.dict i2 ⟨w, H, I.tok _, i4, q w H m .refl hS i3⟩) hs
      · cases e
    · cases e
  · cases e
theorem me_get (hu : X.A.units + 9 < cLine) (ha : ME tb X a ea) (hb : ME tb X b eb) (hs : PlainIx b := by exact fun _ _ => rfl) : ME tb X (.Subscript a b pos) (binM getF ea eb) :=
  PE.imp (pe_ix (ix_dn hu) ha hb hs) fun _ _ _ h => bin_core rOf_ok h
theorem or_inD (hu : X.A.units + 9 < cLine) : OpR X (compareOp .In) (rOf (kx tb X) (inD false)) := by
  intro pins s σ; intro H x y v u Q I rx ry h
  obtain ⟨m, S, dx, dy, d, S', hS, hx, hy, e, q⟩ := h
  unfold inD at e
  split at e
  · rename_i ks n
    split at e
    · rename_i lk kvs k h1 h2
      cases e
      obtain ⟨a, xs, ys, h4, h5, h6⟩ := dn_read I hS h1
      obtain ⟨p, rfl, hk⟩ := key_is I hx rx h2
      rw [Rp] at hy
      obtain ⟨a', h7, rfl⟩ := hy
      rw [h4] at h7; cases h7
      cases ry
      refine wpAny_in_heap (hu1_room hu) hk h6.low h6.dict ⟨.bl (lookN kvs k).isSome, H, I.tok _, ?_, fin_bl hS q⟩
      rcases look_rel (k := k) h5 h6.rel with ⟨i1, i2⟩ | ⟨d2, w, z, i1, i2, i3, i4⟩
      · rw [i1, i2]; rfl
      · rw [i1, i2]; rfl
    · cases e
  · cases e
theorem or_notInD (hu : X.A.units + 9 < cLine) : OpR X (compareOp .NotIn) (rOf (kx tb X) (inD true)) := by
  intro pins s σ; intro H x y v u Q I rx ry h
  obtain ⟨m, S, dx, dy, d, S', hS, hx, hy, e, q⟩ := h
  unfold inD at e
  split at e
  · rename_i ks n
    split at e
    · rename_i lk kvs k h1 h2
      cases e
      obtain ⟨a, xs, ys, h4, h5, h6⟩ := dn_read I hS h1
      obtain ⟨p, rfl, hk⟩ := key_is I hx rx h2
      rw [Rp] at hy
      obtain ⟨a', h7, rfl⟩ := hy
      rw [h4] at h7; cases h7
      cases ry
      refine wpAny_notIn_heap (hu1_room hu) hk h6.low h6.dict ⟨.bl (!(lookN kvs k).isSome), H, I.tok _, ?_, fin_bl hS q⟩
      rcases look_rel (k := k) h5 h6.rel with ⟨i1, i2⟩ | ⟨d2, w, z, i1, i2, i3, i4⟩
      · rw [i1, i2]; rfl
      · rw [i1, i2]; rfl
    · cases e
  · cases e
theorem inD_ok : FOk2 (kx tb X) (inD false) (rOf (kx tb X) (inD false)) := rOf_ok
theorem inD_okN : FOk2 (kx tb X) (inD true) (rOf (kx tb X) (inD true)) := rOf_ok
/-! ### made, stored -/
theorem dnF_stay {P : Program} {w : World} {a : Addr} {xs : List (NestedKey × Addr × V)} (h1 h2 : Heap) (h : dnF P w a xs h1) (k : ∀ o, h1.get? a = some o → h2.get? a = some o) : dnF P w a xs h2 := by
  obtain ⟨l, z, ys, r, o, es, ep, e, q⟩ := h
  exact ⟨l, z, ys, r, o, es, ep, k _ e, q⟩
theorem dn_obj {P : Program} {w : World} {H : Hp} {h : Heap} {a : Addr} {xs : List (NestedKey × Addr × V)} (q : dnF P w a xs h) : ObjOk P w H h a (.ext (dnF P w a xs)) := by
  refine ⟨q, ?_, dnF_stay⟩
  obtain ⟨_, _, ys, _, o, es, ep, e, _⟩ := q
  exact ⟨o, e⟩
def newD : EvM := fun _ S => some (.ref S.length, S ++ [.dn false []])
theorem me_newD : ME tb X (.Dict [] [] pos) newD := by
  refine .mk fun pins s σ H Q I h => ?_
  obtain ⟨m, S, γ, d, S', hS, hγ, e, q⟩ := h
  cases e
  have hp := I.hok.fresh (Nat.le_refl s.heap.objs.size)
  have new : dnF X.prog X.w s.heap.objs.size [] (s.heap.push { cls := .type "dict", data := .dict #[] }) :=
    ⟨beq_eq_false_iff_ne.mpr (Ne.symm (Nat.ne_of_lt I.big)), Nat.zero_le _, [], .nil, _, #[], 0, Heap.get?_push_size _ rfl, ⟨rfl, rfl, rfl⟩, rfl, rfl, List.nodup_nil⟩
  refine wpAny_Dict_empty ⟨.ref s.heap.objs.size, _, I.laid (a := s.heap.objs.size) (o := .ext (dnF X.prog X.w s.heap.objs.size [])) (t' := s.toks) (fun _ _ q => Heap.get?_push_of_some _ q) (Nat.le_refl _) (dn_obj new), rfl, ?_⟩
  refine q _ _ (m ++ [s.heap.objs.size]) (.newM hp) (hS.newM hp ⟨[], upd_same, .nil⟩) ?_
  rw [Rp]
  exact ⟨_, by rw [← hS.len]; simp, rfl⟩
/-- d[kd] = x -/
def setN (kvs : List (D × D)) (kd : D) (k : NestedKey) (x : D) : List (D × D) :=
  if (lookN kvs k).isSome then kvs.map (fun p => if nk p.1 = some k then (p.1, x) else p) else kvs ++ [(kd, x)]
/-- .. as the heap's entries -/
def setV (xs : List (NestedKey × Addr × V)) (k : NestedKey) (q : Addr) (v : V) (has : Bool) : List (NestedKey × Addr × V) :=
  if has then xs.map (fun p => if p.1 = k then (p.1, p.2.1, v) else p) else xs ++ [(k, q, v)]
theorem paired_map {α β α' β' : Type} {F : α → β → Prop} {G : α' → β' → Prop} {f : α → α'} {g : β → β'} (h : ∀ x y, F x y → G (f x) (g y)) : ∀ {xs : List α} {ys : List β}, Paired F xs ys → Paired G (xs.map f) (ys.map g)
  | _, _, .nil => .nil
  | _, _, .cons r t => .cons (h _ _ r) (paired_map h t)
theorem paired_snoc {α β : Type} {F : α → β → Prop} {x : α} {y : β} (r : F x y) : ∀ {xs : List α} {ys : List β}, Paired F xs ys → Paired F (xs ++ [x]) (ys ++ [y])
  | _, _, .nil => .cons r .nil
  | _, _, .cons q t => .cons q (paired_snoc r t)
theorem setV_dn {kvs : List (D × D)} {xs : List (NestedKey × Addr × V)} {kd x : D} {k : NestedKey} {q : Addr} {v : V} (h : Rdn (kx tb X) H m kvs xs) (hk : nk kd = some k) (h8 : k.depth ≤ 8) (hq : Rp (kx tb X) H m kd (.ref q)) (hv : Rp (kx tb X) H m x v) :
    Rdn (kx tb X) H m (setN kvs kd k x) (setV xs k q v (lookN kvs k).isSome) := by
  unfold setN setV
  split
  · refine paired_map (fun p z r => ?_) h
    obtain ⟨r1, r2, r3, r4⟩ := r
    by_cases e : z.1 = k
    · rw [if_pos e, if_pos (by rw [r1, e])]
      exact ⟨r1, r2, r3, hv⟩
    · rw [if_neg e, if_neg (by rw [r1]; exact fun z => e (Option.some.inj z))]
      exact ⟨r1, r2, r3, r4⟩
  · exact paired_snoc ⟨hk, h8, hq, hv⟩ h
theorem setV_rel {xs : List (NestedKey × Addr × V)} {ys : List (NestedKey × Addr × Value)} {k : NestedKey} {q : Addr} {v : V} {u : Value}
    (h : Paired (fun (p : NestedKey × Addr × V) (q : NestedKey × Addr × Value) => p.1 = q.1 ∧ p.2.1 = q.2.1 ∧ RelV p.2.2 q.2.2) xs ys) (r : RelV v u) :
    Paired (fun (p : NestedKey × Addr × V) (q : NestedKey × Addr × Value) => p.1 = q.1 ∧ p.2.1 = q.2.1 ∧ RelV p.2.2 q.2.2) (setV xs k q v (atKey ys k).isSome) (storedH ys k q u) := by
  unfold setV storedH
  split
  · refine paired_map (fun p z w => ?_) h
    obtain ⟨w1, w2, w3⟩ := w
    unfold putAt
    by_cases e : p.1 = k
    · rw [if_pos e, if_pos (by rw [← w1, e])]
      exact ⟨w1, w2, r⟩
    · rw [if_neg e, if_neg (by rw [← w1]; exact e)]
      exact ⟨w1, w2, w3⟩
  · exact paired_snoc ⟨rfl, rfl, r⟩ h
def subD (eo ei : EvM) : TvM := fun d γ S => match eo γ S with
  | none => none
  | some (x, S1) => match ei γ S1 with
    | none => none
    | some (y, S2) => match x, y with
      | .ref n, .tup ks => match S2[n]?, keyN ks with
        | some (.dn false kvs), some k => if kvs.length < sizeLine then some (γ, S2.set n (.dn false (setN kvs (.tup ks) k d))) else none
        | _, _ => none
      | _, _ => none
def rSetD (K : Kx) : TSet := fun o i v H Q => ∃ m S n ks kvs k d, SR K H m S ∧ Rp K H m (.ref n) o ∧ Rp K H m (.tup ks) i ∧ Rp K H m d v ∧ S[n]? = some (.dn false kvs) ∧ keyN ks = some k ∧ kvs.length < sizeLine ∧
  ∀ H', Ext K H m H' m → SR K H' m (S.set n (.dn false (setN kvs (.tup ks) k d))) → Q H'
theorem set_dn (hu : X.A.units + 9 < cLine) : PSet X (rSetD (kx tb X)) := by
  intro pins s σ; intro H o i v ov iv u Q I ro ri rv h
  obtain ⟨m, S, n, ks, kvs, k, d, hS, hx, hy, hd, h1, h2, hz, q⟩ := h
  obtain ⟨a, h3, xs, h4, h5⟩ := hS.addr h1
  obtain ⟨h6, _⟩ := I.hok a _ h4
  obtain ⟨ys, h7⟩ := dn_at I h6 h5
  obtain ⟨p, e1, hk⟩ := key_is I hy ri h2
  subst e1
  rw [Rp] at hx
  obtain ⟨a', h8, rfl⟩ := hx
  rw [h3] at h8; cases h8
  cases ro
  have hl1 : ys.length = kvs.length := by rw [← Paired.length h7.rel, ← Paired.length h5]
  have hy2 := hy
  rw [Rp] at hy2
  obtain ⟨p', _, e2, _⟩ := hy2
  subst e2
  cases ri
  refine wpAny_setItem_heap (hsz := h7.len) (hu1_room hu) hk h7.dict fun h' dd hs => ?_
  have hsome : (atKey ys k).isSome = (lookN kvs k).isSome := by
    rcases look_rel (k := k) h5 h7.rel with ⟨i1, i2⟩ | ⟨d2, w, z, i1, i2, i3, i4⟩
    · rw [i1, i2]; rfl
    · rw [i1, i2]; rfl
  have hlen : (setV xs k p v (lookN kvs k).isSome).length ≤ sizeLine := by
    have := Paired.length h5
    unfold setV
    split
    · rw [List.length_map]; omega
    · (rw [List.length_append, List.length_singleton]; omega)
  obtain ⟨ob, es, ep, g1, g2, g3, g4, _, g6⟩ := dd
  have new : dnF X.prog X.w a (setV xs k p v (lookN kvs k).isSome) h' := by
    refine ⟨h7.low, hlen, storedH ys k p u, ?_, ob, es, ep, g1, g2, g3, g4, g6⟩
    rw [← hsome]
    exact setV_rel h7.rel rv
  refine ⟨upd H a (.ext (dnF X.prog X.w a (setV xs k p v (lookN kvs k).isSome))), d_write I (by rw [h4]; exact True.intro) hs ⟨ob, g1⟩ (dn_obj new), ?_⟩
  have x1 : Ext (kx tb X) H m (upd H a (.ext (dnF X.prog X.w a (setV xs k p v (lookN kvs k).isSome)))) m := .upd h4 trivial
  refine q _ x1 (hS.upd h3 (lt_of h1) ⟨_, upd_same, ?_⟩)
  exact (setV_dn h5 (keyN_ok h2).1 (keyN_ok h2).2 hy hd).mono x1
theorem mg_subD {o i : Expr} {eo ei : EvM} (hu : X.A.units + 9 < cLine) (ho : ME tb X o eo) (hi : ME tb X i ei) (ha : ∀ v, assign (.Subscript o i pos) X.env v = (do
      let ow ← holding [v] (eval o X.env); let iw ← holding [v, ow] (eval i X.env); standAt pos; holding [v, ow, iw] (setItem ow iw v); release [v, ow, iw] []) := by intro _; rfl) : MG tb X (.Subscript o i pos) (subD eo ei) :=
  PG.imp (pg_sub ho hi (set_dn hu) ha) fun v σ H Q h => by
    obtain ⟨m, S, γ, d, γ', S', hS, hγ, hd, e, q⟩ := h
    unfold subD at e
    split at e
    · cases e
    · rename_i x S1 h1
      split at e
      · cases e
      · rename_i y S2 h2
        split at e
        · rename_i n ks
          split at e
          · rename_i kvs k h3 h4
            split at e
            · rename_i hz
              cases e
              refine ⟨m, S, γ, _, S1, hS, hγ, h1, fun w H1 m1 x1 hS1 hw => ?_⟩
              refine ⟨m1, S1, γ, _, S2, hS1, hγ.mono x1, h2, fun u H2 m2 x2 hS2 hu => ?_⟩
              exact ⟨m2, S2, n, ks, kvs, k, d, hS2, hw.mono x2, hu, (hd.mono x1).mono x2, h3, h4, hz, fun H' x3 hS3 => q σ H' m2 (x1.trans (x2.trans x3)) hS3 (hγ.mono (x1.trans (x2.trans x3)))⟩
            · cases e
          · cases e
        · cases e
end
end Ml
namespace Ml
open L2 PyProof.Rows PySem PySem.Spec
section
variable {tb : List NdefX.NTab} {X : Cx} {K : Kx} {a b c e f o tg iter : Expr} {ea eb ec eo ee ef : EvM} {pos apos cpos p : Pos}
theorem hu1 {k : Nat} {A : Around} (hr : Room k A) : A.units + 9 < cLine := by have := hr.un; omega
theorem hu65 {k : Nat} {A : Around} (hr : Room k A) : A.units + 65 < cLine := by have := hr.un; omega
/-! ### d.get(k, x) -/
def getOrM (eo ee ef : EvM) : EvM := fun γ S => match eo γ S with
  | some (.ref n, S1) => match S1[n]? with
    | some (.dn _ _) => match ee γ S1 with
      | some (.tup ks, S2) => match ef γ S2 with
        | some (x, S3) => match S3[n]?, keyN ks with
          | some (.dn _ kvs), some k => some ((lookN kvs k).getD x, S3)
          | _, _ => none
        | none => none
      | _ => none
    | _ => none
  | _ => none
theorem me_getOr (hu : X.A.units + 9 < cLine) (ho : ME tb X o eo) (he : ME tb X e ee) (hf : ME tb X f ef) (hm : M2 X o "get" apos e f cpos := by exact ⟨rfl, rfl, rfl, rfl⟩) : ME tb X (.Call (.Attribute o "get" apos) [e, f] [] cpos) (getOrM eo ee ef) := by
  refine .mk fun pins s σ H Q I h => ?_
  obtain ⟨m, S, γ, d, S', hS, hγ, e1, q⟩ := h
  unfold getOrM at e1
  split at e1
  · rename_i n S1 h1
    split at e1
    · rename_i lk kvs h2
      split at e1
      · rename_i ks S2 h3
        split at e1
        · rename_i x S3 h4
          split at e1
          · rename_i lk2 kvs2 k h5 h6
            cases e1
            refine wpAny_Call_method hm.base hm.few hm.line PySem.F.plainAttrs_dict PySem.F.slot_dict_get PySem.F.type_dict_get (thn (ho.run pins s σ H (fun v H1 => ∃ m1, Ext (kx tb X) H m H1 m1 ∧ SR (kx tb X) H1 m1 S1 ∧ Rp (kx tb X) H1 m1 (.ref n) v) I ⟨m, S, γ, _, S1, hS, hγ, h1, fun v H1 m1 x1 hS1 hv => ⟨m1, x1, hS1, hv⟩⟩) fun u s1 hq => ?_)
            obtain ⟨v, H1, I1, rv, m1, x1, hS1, hv⟩ := hq
            obtain ⟨ad, xs, ys, g1, g2, g3⟩ := dn_read I1 hS1 h2
            have hv2 := hv
            rw [Rp] at hv2
            obtain ⟨ad', g4, rfl⟩ := hv2
            rw [g1] at g4; cases g4
            cases rv
            obtain ⟨ob, es, ep, g5, g6, _⟩ := id g3.dict
            refine ⟨g3.dict.typeIs, fun b eb => by cases eb; exact ⟨ob, g5, g6.2.1⟩, ?_⟩
            rw [hm.trees]
            refine Calls.callWith_builtin rfl (Calls.evalArgs_plain (Calls.spliced_cons (thn (he.run pins s1 σ H1 (fun v H2 => ∃ m2, Ext (kx tb X) H1 m1 H2 m2 ∧ SR (kx tb X) H2 m2 S2 ∧ Rp (kx tb X) H2 m2 (.tup ks) v) I1 ⟨m1, S1, γ, _, S2, hS1, hγ.mono x1, h3, fun v H1 m1 x1 hS1 hv => ⟨m1, x1, hS1, hv⟩⟩) fun iv s2 hq => ?_)))
            obtain ⟨y, H2, I2, ry, m2, x2, hS2, hy⟩ := hq
            refine Calls.spliced_cons (thn (hf.run pins s2 σ H2 (fun v H3 => ∃ m3, Ext (kx tb X) H2 m2 H3 m3 ∧ SR (kx tb X) H3 m3 _ ∧ Rp (kx tb X) H3 m3 x v) I2 ⟨m2, S2, γ, _, _, hS2, hγ.mono (x1.trans x2), h4, fun v H1 m1 x1 hS1 hv => ⟨m1, x1, hS1, hv⟩⟩) fun fv s3 hq => Calls.spliced_nil ?_)
            obtain ⟨z, H3, I3, rz, m3, x3, hS3, hz⟩ := hq
            obtain ⟨ad2, xs2, ys2, k1, k2, k3⟩ := dn_read I3 hS3 h5
            have ge := (x2.trans x3).get g1
            rw [k1] at ge; cases ge
            obtain ⟨pq, rfl, hk⟩ := key_is I3 (hy.mono x3) ry h6
            refine call_meetsIn PySem.F.slot_dict_get k3.dict.typeIs PySem.F.entry_dict_get (PySem.F.args_dict_get_3 _ _ _) (meetsH_dict_get_default (nkd X) _ pq k3.low fv) ⟨hu1_room hu, k, ys2, hk, k3.dict, ?_⟩
            have x4 := x1.trans (x2.trans x3)
            rcases look_rel (k := k) k2 k3.rel with ⟨i1, i2⟩ | ⟨d2, w, zz, i1, i2, i3, i4⟩
            · rw [i1] at q
              refine ⟨z, H3, I3.tok _, ?_, q z H3 m3 x4 hS3 hz⟩
              rw [i2]; exact rz
            · rw [i1] at q
              refine ⟨w, H3, I3.tok _, ?_, q w H3 m3 x4 hS3 i3⟩
              rw [i2]; exact i4
          · cases e1
        · cases e1
      · cases e1
    · cases e1
  · cases e1
/-! ### a dict of the module, keys texts: what it has at the keys that are asked -/
structure CDict (K : PySem.W.Frag) (w : World) (a : Addr) (tbl : List (Str × Option D)) : Prop where
  at_ : ∃ es n, K.lookup a = some ⟨.type "dict", none, .dict es n, #[]⟩ ∧ PySem.W.KeysLit w.params es.toList
  low : (a == sysModules) = false
  val : ∀ z r, (z, r) ∈ tbl → match r with
    | some d => ∃ u v, PySem.W.nsIn K a z = some (some u) ∧ L2.RelV v u ∧ ∀ P b t H m, Rp ⟨K, P, w, b, t⟩ H m d v
    | none => PySem.W.nsIn K a z = some none
def cgetM (tbl : List (Str × Option D)) (ee ef : EvM) : EvM := fun γ S => match ee γ S with
  | some (.str z, S1) => match ef γ S1 with
    | some (x, S2) => match tbl.lookup z with
      | some r => some (r.getD x, S2)
      | none => none
    | none => none
  | _ => none
theorem mem_of_lookup {α β : Type} [BEq α] [LawfulBEq α] {k : α} {v : β} : ∀ {l : List (α × β)}, l.lookup k = some v → (k, v) ∈ l
  | (k', v') :: l, h => by
    rw [List.lookup_cons] at h
    split at h
    · rename_i hk
      have : k = k' := by simpa using hk
      cases h; subst this; exact List.mem_cons_self
    · exact List.mem_cons_of_mem _ (mem_of_lookup h)
theorem me_cget {x : Str} {ad : Addr} {tbl : List (Str × Option D)} (D : CDict X.K X.w ad tbl) (hg : Gl X x) (hmg : X.mg x = some (.ref ad)) (he : ME tb X e ee) (hf : ME tb X f ef) (hdb : (x == ("__debug__" : Str)) = false := by decide)
    (hm : M2 X (.Name x p) "get" apos e f cpos := by exact ⟨rfl, rfl, rfl, rfl⟩) : ME tb X (.Call (.Attribute (.Name x p) "get" apos) [e, f] [] cpos) (cgetM tbl ee ef) := by
  refine .mk fun pins s σ H Q I h => ?_
  obtain ⟨m, S, γ, d, S', hS, hγ, e1, q⟩ := h
  unfold cgetM at e1
  split at e1
  · rename_i z S1 h1
    split at e1
    · rename_i y S2 h2
      split at e1
      · rename_i r h3
        cases e1
        obtain ⟨es, n, l1, l2⟩ := D.at_
        have mo : ∀ {s' : Shared} {H' : Hp}, Inv X pins σ H' s' → s'.heap.MapOf (strKind X.prog X.w) ad (fun k => findBy Value.isStrOf es k) := fun J => PySem.W.mapOf_K (prog := X.prog) (w := X.w) J.kIn l1 l2
        refine wpAny_Call_method hm.base hm.few hm.line PySem.F.plainAttrs_dict PySem.F.slot_dict_get PySem.F.type_dict_get (ld_glob I hg hmg ?_ hdb)
        refine ⟨(mo I).typeIs, fun b eb => by cases eb; exact ⟨_, I.kIn _ _ l1, rfl⟩, ?_⟩
        rw [hm.trees]
        refine Calls.callWith_builtin rfl (Calls.evalArgs_plain (Calls.spliced_cons (thn (he.run pins s σ H (fun v H2 => ∃ m2, Ext (kx tb X) H m H2 m2 ∧ SR (kx tb X) H2 m2 S1 ∧ Rp (kx tb X) H2 m2 (.str z) v) I ⟨m, S, γ, _, S1, hS, hγ, h1, fun v H1 m1 x1 hS1 hv => ⟨m1, x1, hS1, hv⟩⟩) fun iv s2 hq => ?_)))
        obtain ⟨yv, H2, I2, ry, m2, x2, hS2, hy⟩ := hq
        refine Calls.spliced_cons (thn (hf.run pins s2 σ H2 (fun v H3 => ∃ m3, Ext (kx tb X) H2 m2 H3 m3 ∧ SR (kx tb X) H3 m3 _ ∧ Rp (kx tb X) H3 m3 y v) I2 ⟨m2, S1, γ, _, _, hS2, hγ.mono x2, h2, fun v H1 m1 x1 hS1 hv => ⟨m1, x1, hS1, hv⟩⟩) fun fv s3 hq => Calls.spliced_nil ?_)
        obtain ⟨zv, H3, I3, rz, m3, x3, hS3, hz⟩ := hq
        rw [Rp] at hy; subst hy
        obtain ⟨t, rfl⟩ := ry
        refine call_meetsIn PySem.F.slot_dict_get (mo I3).typeIs PySem.F.entry_dict_get (PySem.F.args_dict_get_3 _ _ _) (meets_dict_get_default (strKind X.prog X.w) ad (strKind_is X.prog X.w z t) D.low fv) ⟨_, mo I3, ?_⟩
        have hv := D.val z r (mem_of_lookup h3)
        cases r with
        | none =>
          refine ⟨zv, H3, I3.tok _, ?_, q zv H3 m3 (x2.trans x3) hS3 hz⟩
          rw [PySem.W.find_K l1 hv]; exact rz
        | some d =>
          obtain ⟨u, v, v1, v2, v3⟩ := hv
          refine ⟨v, H3, I3.tok _, ?_, q v H3 m3 (x2.trans x3) hS3 (v3 _ _ _ _ _)⟩
          rw [PySem.W.find_K l1 v1]; exact v2
      · cases e1
    · cases e1
  · cases e1
/-! ### range(a, b, -1) -/
def rngDown (lo : Int) (n : Nat) : List D := (List.range n).map fun (i : Nat) => D.int (lo - i)
theorem walks_rngC {H0 m0 lo n} : Walks K (Itc lo (-1) n) H0 m0 none (rngDown lo n) where
  go := fun H m S i x hS _ hi => by
    have hi : i < n := by simpa [rngDown] using hi
    refine ⟨hi, fun y H' q => ?_⟩
    obtain ⟨rfl, rfl⟩ := q
    exact ⟨.int (lo - i), by simp [rngDown, hi], .refl, hS, by rw [Rp]; congr 1; omega⟩
  stop := fun H m S x hS _ => by show n ≤ _; simp [rngDown]
def rngDI (ra : AvM) : IvM := fun γ S => match ra γ S with
  | some ([.int i, .int j, .int k], S') => if k = -1 ∧ -(2 ^ 62) ≤ i ∧ i < 2 ^ 62 ∧ -(2 ^ 62) ≤ j ∧ j < 2 ^ 62 then some (none, rngDown i (i - j).toNat, S') else none
  | _ => none
theorem mi_rngD {ra : AvM} (hg : Gl X "range") (hm : X.mg "range" = none) (ha : MA tb X [a, b, c] ra) (hs : starEach [a, b, c] X.env = (false, eval a X.env) :: starEach [b, c] X.env := by rfl) (hpl : (backTo pos (starEach [b, c] X.env)).any (·.1) = false := by rfl) :
    MI tb X tg (.Call (.Name "range" p) [a, b, c] [] pos) (rngDI ra) :=
  PI.imp (pi_range3 hg hm ha hs hpl) fun σ H R h => by
    obtain ⟨m, S, γ, ck, xs, S', hS, hγ, e1, q⟩ := h
    unfold rngDI at e1
    split at e1
    · rename_i i j k S1 h1
      split at e1
      · rename_i hj
        cases e1
        refine ⟨m, S, γ, _, _, hS, hγ, h1, fun vs H1 m1 x1 hS1 hv => ?_⟩
        simp only [Rps, Rp] at hv
        obtain ⟨_, _, rfl, rfl, _, _, rfl, rfl, _, _, rfl, rfl, rfl⟩ := hv
        refine ⟨i, j, k, (i - j).toNat, rfl, ?_, ?_⟩
        · rw [hj.1]; exact .neg hj.2.1 hj.2.2.1 hj.2.2.2.1 hj.2.2.2.2
        · rw [hj.1]; exact q _ H1 m1 x1 hS1 walks_rngC
      · cases e1
    · cases e1
end
end Ml
/-! a dict's keys gone through, the dict locked meanwhile -/
namespace Ml
open L2 PyProof.Rows PySem PySem.Spec
open Classical
section
variable {tb : List NdefX.NTab} {X : Cx} {K : Kx} {e tg iter : Expr} {ed ee : EvM} {pins : List (Addr × Obj)} {σ : L2.St} {H : Hp} {m : List Addr} {s : Shared}
def Itdn (P : Program) (w : World) (d : Addr) (o : Obj) (xs : List (NestedKey × Addr × V)) : It :=
  ⟨fun i H => H d = some (.frz o (.ext (dnF P w d xs))) ∧ i < xs.length, fun i H x H' => H' = H ∧ ∃ z, xs[i]? = some z ∧ x = .ref z.2.1, fun i H => H d = some (.frz o (.ext (dnF P w d xs))) ∧ xs.length ≤ i⟩
theorem frz_dn {d : Addr} {o : Obj} {xs : List (NestedKey × Addr × V)} (I : Inv X pins σ H s) (h : H d = some (.frz o (.ext (dnF X.prog X.w d xs)))) :
    (d == sysModules) = false ∧ s.heap.get? d = some o ∧ o.ExactDict ∧ ∃ (es : Array DictEntry) (ep : Nat), o.data = .dict es ep ∧ es.size = xs.length ∧
      ∀ (i : Nat) (z : NestedKey × Addr × V), xs[i]? = some z → ∃ en : DictEntry, es[i]? = some en ∧ en.key = .ref z.2.1 := by
  obtain ⟨hd, ⟨hs, hz, ys, pr, o', es, ep, ho, hx, hdt, he, _⟩, _, _⟩ := I.hok d _ h
  rw [hd] at ho
  cases ho
  refine ⟨hs, hd, hx, es, ep, hdt, ?_, fun i z e => ?_⟩
  · have l1 : es.size = ys.length := size_of_entries he
    have l2 : xs.length = ys.length := Paired.length pr
    omega
  · obtain ⟨b, hb, e1, e2, _⟩ := paired_get pr e; have q := entry_at he i
    rw [hb] at q
    exact ⟨_, q, by rw [e2]; rfl⟩
theorem turn_dn {P : Program} {w : World} {Kf : PySem.W.Frag} {d : Addr} {o : Obj} {es : Array DictEntry} {ep : Nat} {xs : List (NestedKey × Addr × V)} (it : Addr) (hod : o.data = .dict es ep) :
    Turn P w Kf tg (Itdn P w d o xs) [it] it (fun i h => h.IsKeyIter it d i xs.length ep) where
  mem := by simp
  obj := fun i h st b hb => by
    obtain rfl : b = it := by simpa using hb
    obtain ⟨oi, e, c, dd⟩ := st
    refine ⟨oi, e, fun v z => ?_⟩
    rw [dd] at z; cases z
  keep := fun i h h' st k => st.at fun oi e => k it (List.mem_singleton.mpr rfl) oi e
  item := by
    intro X hP hw hK hc i pins s σ H E I hf st hg; subst hP hw hK
    obtain ⟨hd, hi⟩ := hg
    obtain ⟨f0, f1, f2, f3, f4, f5⟩ := hf it (List.mem_singleton.mpr rfl)
    obtain ⟨hs, hgd, hx, es', ep', hdt, hsz, ent⟩ := frz_dn I hd
    obtain ⟨rfl, rfl⟩ := dict_ep hod hdt; have hz : xs[i]? = some xs[i] := List.getElem?_eq_getElem hi
    obtain ⟨en, hen, hkey⟩ := ent i _ hz
    refine next_key_item st hgd hdt hsz hen fun h' st' sb => ?_; have I1 : Inv X pins σ H { s with heap := h' } := I.turned (t' := s.toks) (fun b ob hb e => by rw [sb.2 b hb]; exact e) f0 f1 f3 f4 f5
    obtain ⟨oi, e, c, dd⟩ := id st'; exact ⟨en.key, rfl, go_of (s := { s with heap := h' }) e c dd (by decide) ⟨.ref xs[i].2.1, H, I1, hkey, ⟨rfl, _, hz, rfl⟩, st', fun b hb => (hf b hb).1⟩⟩
  done := by
    intro X hP hw hK hc i pins s σ H E I hf st hg; subst hP hw hK
    obtain ⟨hd, hi⟩ := hg
    obtain ⟨f0, f1, f2, f3, f4, f5⟩ := hf it (List.mem_singleton.mpr rfl)
    obtain ⟨hs, hgd, hx, es', ep', hdt, hsz, ent⟩ := frz_dn I hd
    obtain ⟨rfl, rfl⟩ := dict_ep hod hdt; exact next_key_end (I.ok.hd hc) st hgd hdt hsz hi fun h' eb => ⟨rfl, I.turned (t' := s.toks) (fun b ob hb e => by rw [eb b ob hb e]) f0 f1 f3 f4 f5⟩
  self := (turn_keysT (P := P) (w := w) (K := Kf) (tg := tg) (d := d) (kvs := xs.map fun z => ([], z.2.2)) it hod).self |> fun q A i s Q E st h => q A i s Q E (by rw [List.length_map]; exact st) h
theorem walks_dn {H0 m0 n kvs a od} {xs : List (NestedKey × Addr × V)} (h1 : H0 a = some (.frz od (.ext (dnF K.p K.w a xs)))) (h2 : Rdn K H0 m0 kvs xs) : Walks K (Itdn K.p K.w a od xs) H0 m0 (some (n, .dn true kvs)) (kvs.map (·.1)) where
  go := fun H m S i x hS hc hi => by
    have hi : i < kvs.length := by simpa using hi
    have hl : kvs.length = xs.length := Paired.length h2
    refine ⟨⟨x.frz _ _ _ h1, by omega⟩, fun y H' q => ?_⟩
    obtain ⟨rfl, z, hz, rfl⟩ := q
    have hk : kvs[i]? = some kvs[i] := List.getElem?_eq_getElem hi
    obtain ⟨b, hb, _, _, e3, _⟩ := paired_get h2 hk
    rw [hb] at hz; cases hz
    exact ⟨kvs[i].1, by rw [List.getElem?_map, hk]; rfl, .refl, hS, e3.mono x⟩
  stop := fun H m S x hS hc => ⟨x.frz _ _ _ h1, by
    have hl : kvs.length = xs.length := Paired.length h2
    rw [List.length_map]; omega⟩
def keysI (ed : EvM) : IvM := fun γ S => match ed γ S with
  | some (.ref n, S') => match S'[n]? with
    | some (.dn true kvs) => some (some (n, .dn true kvs), kvs.map (·.1), S')
    | _ => none
  | _ => none
theorem mi_keys (he : ME tb X iter ed) : MI tb X tg iter (keysI ed) := by
  refine .mk fun pins s σ H R I hq => ?_
  obtain ⟨m, S, γ, ck, ds, S', hS, hγ, e1, q⟩ := hq
  unfold keysI at e1
  split at e1
  · rename_i n S1 h1
    split at e1
    · rename_i kvs h2
      cases e1
      refine thn (he.run pins s σ H (fun v H1 => ∃ m1, Ext (kx tb X) H m H1 m1 ∧ SR (kx tb X) H1 m1 _ ∧ Rp (kx tb X) H1 m1 (.ref n) v) I ⟨m, S, γ, _, _, hS, hγ, h1, fun v H1 m1 x1 hS1 hv => ⟨m1, x1, hS1, hv⟩⟩) fun u s1 hq => ?_
      obtain ⟨v, H1, I1, rv, m1, x1, hS1, hv⟩ := hq
      rw [Rp] at hv
      obtain ⟨a, ha, rfl⟩ := hv
      obtain rfl : u = Value.ref a := rv
      obtain ⟨a', h3, od, xs, h4, h5⟩ := hS1.addr h2
      rw [ha] at h3; cases h3
      obtain ⟨hs, hgd, hx, es, ep, hdt, hsz, ent⟩ := frz_dn I1 h4
      refine iter_keys hs hgd hx hdt (pi_one (tk := s1.toks) I1 _ (turn_dn _ hdt) ⟨_, Heap.get?_push_size _ rfl, rfl, ?_⟩ (q _ H1 m1 x1 hS1 (walks_dn h4 h5)))
      rw [hsz] <;> rfl
    · cases e1
  · cases e1
/-- the dict that stands in slot i is locked meanwhile -/
def lockM (i : Nat) (e : EvM) : EvM := fun γ S => match γ[i]? with
  | some (some (.ref n)) => match S[n]? with
    | some (.dn false kvs) => match e γ (S.set n (.dn true kvs)) with
      | some (d, S1) => match S1[n]? with
        | some (.dn true kvs') => some (d, S1.set n (.dn false kvs'))
        | _ => none
      | none => none
    | _ => none
  | _ => none
def lockS (i : Nat) (e : SvM) : SvM := fun γ S => match γ[i]? with
  | some (some (.ref n)) => match S[n]? with
    | some (.dn false kvs) => match e γ (S.set n (.dn true kvs)) with
      | some (d, γ1, S1) => match S1[n]? with
        | some (.dn true kvs') => some (d, γ1, S1.set n (.dn false kvs'))
        | _ => none
      | none => none
    | _ => none
  | _ => none
theorem Ext.unlock {H m a od u H1 m1} (h : H a = some u) (hf : Free u) (hn : NoTup (.frz od u)) (x : Ext K (L2.upd H a (.frz od u)) m H1 m1) : Ext K H m (L2.upd H1 a u) m1 := by
  have x0 : Ext K H m (L2.upd H a (.frz od u)) m := .upd h hf
  have h1 : H1 a = some (.frz od u) := x.frz _ _ _ L2.upd_same
  refine ⟨(x0.toExt0.trans x.toExt0).trans (Ext0.upd h1 hn), fun b o w hb => ?_⟩
  have ne : b ≠ a := fun z => by subst z; rw [hb] at h; cases h; exact hf
  rw [L2.upd_ne ne]
  exact x.frz _ _ _ (by rw [L2.upd_ne ne]; exact hb)
theorem sr_lock {H m S n kvs a od} {xs : List (NestedKey × Addr × V)} (hS : SR K H m S) (e : S[n]? = some (.dn false kvs)) (hm : m[n]? = some a) (h : H a = some (.ext (dnF K.p K.w a xs))) (r : Rdn K H m kvs xs) :
    SR K (upd H a (.frz od (.ext (dnF K.p K.w a xs)))) m (S.set n (.dn true kvs)) :=
  hS.upd hm (lt_of e) ⟨od, xs, upd_same, r.mono (.upd h trivial)⟩
theorem sr_unlock {H m S n kvs a od} {xs : List (NestedKey × Addr × V)} (hS : SR K H m S) (e : S[n]? = some (.dn true kvs)) (hm : m[n]? = some a) (h : H a = some (.frz od (.ext (dnF K.p K.w a xs)))) :
    SR K (upd H a (.ext (dnF K.p K.w a xs))) m (S.set n (.dn false kvs)) := by
  obtain ⟨a', h1, od2, xs2, h2, r⟩ := hS.addr e
  rw [hm] at h1; cases h1
  rw [h] at h2
  have e2 : HO.ext (dnF K.p K.w a xs) = .ext (dnF K.p K.w a xs2) := by
    have := Option.some.inj h2
    injection this
  exact hS.upd hm (lt_of e) ⟨xs2, by rw [upd_same, e2], r.mono0 (Ext0.upd h trivial)⟩
theorem me_lock (i : Nat) (h : ME tb X e ee) : ME tb X e (lockM i ee) := PE.imp (pe_lock h) fun σ H Q hq => by
  obtain ⟨m, S, γ, d, S', hS, hγ, e1, q⟩ := hq
  unfold lockM at e1
  split at e1
  · rename_i n h1
    split at e1
    · rename_i kvs h2
      split at e1
      · rename_i d1 S1 h3
        split at e1
        · rename_i kvs' h4
          cases e1
          obtain ⟨a, h5, xs, h6, h7⟩ := hS.addr h2
          refine ⟨a, _, h6, trivial, fun od => ?_⟩
          refine ⟨m, _, γ, _, _, sr_lock hS h2 h5 h6 h7, hγ.mono (.upd h6 trivial), h3, fun w H1 m1 x1 hS1 hw => ?_⟩
          have h8 := x1.frz _ _ _ upd_same
          exact ⟨h8, q w _ m1 (.unlock h6 trivial trivial x1) (sr_unlock hS1 h4 (x1.get h5) h8) (hw.mono0 (Ext0.upd h8 trivial))⟩
        · cases e1
      · cases e1
    · cases e1
  · cases e1
theorem ms_lock {st : Stmt} {ss : SvM} (i : Nat) (h : MS tb X st ss) : MS tb X st (lockS i ss) := PS.imp (ps_lock h) fun Dn σ H hq => by
  obtain ⟨m, S, γ, f, γ', S', hS, hγ, e1, q⟩ := hq
  unfold lockS at e1
  split at e1
  · rename_i n h1
    split at e1
    · rename_i kvs h2
      split at e1
      · rename_i f1 γ1 S1 h3
        split at e1
        · rename_i kvs' h4
          cases e1
          obtain ⟨a, h5, xs, h6, h7⟩ := hS.addr h2
          refine ⟨a, _, h6, trivial, fun od => ?_⟩
          refine ⟨m, _, γ, _, _, _, sr_lock hS h2 h5 h6 h7, hγ.mono (.upd h6 trivial), h3, ?_⟩
          have up : ∀ H1 m1, Ext (kx tb X) (upd H a (.frz od (.ext (dnF (kx tb X).p (kx tb X).w a xs)))) m H1 m1 → H1 a = some (.frz od (.ext (dnF (kx tb X).p (kx tb X).w a xs))) := fun H1 m1 x => x.frz _ _ _ upd_same
          have hz : ∀ {H1 m1 σ1}, SLR (kx tb X) H1 m1 γ' σ1 → H1 a = some (.frz od (.ext (dnF (kx tb X).p (kx tb X).w a xs))) → SLR (kx tb X) (upd H1 a (.ext (dnF (kx tb X).p (kx tb X).w a xs))) m1 γ' σ1 :=
            fun hg h8 => ⟨hg.len, fun i d q => let ⟨v, a, b⟩ := hg.at_ i d q; ⟨v, a, b.mono0 (Ext0.upd h8 trivial)⟩⟩
          cases f with
          | nx => exact fun σ1 H1 m1 x1 hS1 hγ1 => ⟨up _ _ x1, q σ1 _ m1 (.unlock h6 trivial trivial x1) (sr_unlock hS1 h4 (x1.get h5) (up _ _ x1)) (hz hγ1 (up _ _ x1))⟩
          | bk => exact fun σ1 H1 m1 x1 hS1 hγ1 => ⟨up _ _ x1, q σ1 _ m1 (.unlock h6 trivial trivial x1) (sr_unlock hS1 h4 (x1.get h5) (up _ _ x1)) (hz hγ1 (up _ _ x1))⟩
          | ct => exact fun σ1 H1 m1 x1 hS1 hγ1 => ⟨up _ _ x1, q σ1 _ m1 (.unlock h6 trivial trivial x1) (sr_unlock hS1 h4 (x1.get h5) (up _ _ x1)) (hz hγ1 (up _ _ x1))⟩
          | rt d => exact fun w H1 m1 x1 hS1 hw => ⟨up _ _ x1, q w _ m1 (.unlock h6 trivial trivial x1) (sr_unlock hS1 h4 (x1.get h5) (up _ _ x1)) (hw.mono0 (Ext0.upd (up _ _ x1) trivial))⟩
        · cases e1
      · cases e1
    · cases e1
  · cases e1
end
end Ml
/-! dict(a list of pairs), the keys tuples -/
namespace Ml
open L2 PyProof.Rows PySem PySem.Spec
open Classical
/-- a pair: its key, its value -/
def pairN : D → Option (D × D × NestedKey)
  | .tup [.tup ks, x] => match keyN ks with
    | some k => some (.tup ks, x, k)
    | none => none
  | _ => none
def pairsN : List D → Option (List (D × D × NestedKey))
  | [] => some []
  | p :: ps => match pairN p, pairsN ps with
    | some q, some r => some (q :: r)
    | _, _ => none
def putAll (l : List (D × D × NestedKey)) (kvs : List (D × D)) : List (D × D) := l.foldl (fun acc p => setN acc p.1 p.2.2 p.2.1) kvs
def dictF : List D → Sto → Option (D × Sto)
  | [.ref n], S => match S[n]? with
    | some (.lst ps) => match pairsN ps with
      | some l => some (.ref S.length, S ++ [.dn false (putAll l [])])
      | none => none
    | _ => none
  | _, _ => none
abbrev RelN : NestedKey × Addr × V → NestedKey × Addr × Value → Prop := fun p q => p.1 = q.1 ∧ p.2.1 = q.2.1 ∧ RelV p.2.2 q.2.2
section
variable {tb : List NdefX.NTab} {X : Cx} {pins : List (Addr × Obj)} {σ : L2.St} {H : Hp} {m : List Addr} {s : Shared}
def RelL (K : Kx) (H : Hp) (m : List Addr) : D × D × NestedKey → NestedKey × Addr × V → Prop := fun p z => p.2.2 = z.1 ∧ nk p.1 = some z.1 ∧ z.1.depth ≤ 8 ∧ Rp K H m p.1 (.ref z.2.1) ∧ Rp K H m p.2.1 z.2.2
theorem pairs_of (I : Inv X pins σ H s) : ∀ {ps : List D} {ws : List V} {its : List Value} {l : List (D × D × NestedKey)}, Rps (kx tb X) H m ps ws → Vals ws its → pairsN ps = some l →
    ∃ (ts : List Addr) (xs : List (NestedKey × Addr × V)) (ys : List (NestedKey × Addr × Value)), its = ts.map Value.ref ∧ Paired (fun t y => IsTup s.heap t #[.ref y.2.1, y.2.2]) ts ys ∧ Paired RelN xs ys ∧ Paired (RelL (kx tb X) H m) l xs ∧ ∀ y ∈ ys, (nkd X).is s.heap y.1 y.2.1
  | [], ws, its, l, h, r, e => by
    rw [Rps] at h; subst h; cases r; cases e
    exact ⟨[], [], [], rfl, .nil, .nil, .nil, fun y hy => nomatch hy⟩
  | p :: ps, ws, its, l, h, r, e => by
    rw [Rps] at h
    obtain ⟨v, vs, rfl, h1, h2⟩ := h
    unfold pairsN at e
    split at e
    · rename_i q r' hq hr
      cases e
      cases r with
      | cons r1 r2 =>
        obtain ⟨ts, xs, ys, rfl, g1, g2, g3, g4⟩ := pairs_of I h2 r2 hr
        unfold pairN at hq
        split at hq
        · rename_i ks x
          split at hq
          · rename_i k hk
            cases hq
            rw [Rp] at h1
            obtain ⟨a, us, rfl, ha, hu⟩ := h1
            obtain ⟨kv, xv, rfl, hkv, hxv⟩ := hu.two_iff
            cases r1
            obtain ⟨its2, rv, pl, hz⟩ := I.tuple ha
            cases rv with
            | cons s1 s2 =>
              cases s2 with
              | cons t1 t2 =>
                cases t2
                obtain ⟨b, e1, hb⟩ := key_is I hkv s1 hk
                subst e1
                have hkr := hkv
                rw [Rp] at hkr
                obtain ⟨b', _, rfl, _, _⟩ := hkr
                cases s1
                refine ⟨a :: ts, (k, b, xv) :: xs, (k, b, _) :: ys, rfl, .cons pl g1, .cons ⟨rfl, rfl, t1⟩ g2, .cons ⟨rfl, (keyN_ok hk).1, (keyN_ok hk).2, hkv, hxv⟩ g3, fun y hy => ?_⟩
                rcases (List.mem_cons.mp hy) with rfl | hy
                · exact hb
                · exact g4 y hy
          · cases hq
        · cases hq
    · cases e
theorem putAll_rel : ∀ {l : List (D × D × NestedKey)} {zs : List (NestedKey × Addr × V)} {ws : List (NestedKey × Addr × Value)}, Paired (RelL (kx tb X) H m) l zs → Paired RelN zs ws →
    ∀ {kvs : List (D × D)} {xs : List (NestedKey × Addr × V)} {ys : List (NestedKey × Addr × Value)}, Rdn (kx tb X) H m kvs xs → Paired RelN xs ys → ∃ xs', Rdn (kx tb X) H m (putAll l kvs) xs' ∧ Paired RelN xs' (storedAllH ys ws)
  | _, _, _, .nil, .nil, _, xs, _, h, r => ⟨xs, h, r⟩
  | p :: l, z :: zs, y :: ws, .cons a t, .cons b u, kvs, xs, ys, h, r => by
    obtain ⟨a1, a2, a3, a4, a5⟩ := a
    obtain ⟨b1, b2, b3⟩ := b
    have hsome : (atKey ys z.1).isSome = (lookN kvs z.1).isSome := by
      rcases look_rel (k := z.1) h r with ⟨i1, i2⟩ | ⟨d2, w, zz, i1, i2, i3, i4⟩
      · rw [i1, i2]; rfl
      · rw [i1, i2]; rfl
    have h1 := setV_dn h a2 a3 a4 a5
    have r1 := setV_rel (k := z.1) (q := z.2.1) (v := z.2.2) (u := y.2.2) r b3
    rw [hsome] at r1
    have fin := putAll_rel t u h1 r1
    rw [b1, b2] at fin
    have e : putAll (p :: l) kvs = putAll l (setN kvs p.1 z.1 p.2.1) := by show putAll l (setN kvs p.1 p.2.2 p.2.1) = _; rw [a1]
    rw [e, b1]
    exact fin
theorem storedAllH_length (ps : List (NestedKey × Addr × Value)) : ∀ xs : List (NestedKey × Addr × Value), (storedAllH xs ps).length ≤ xs.length + ps.length := by
  induction ps with
  | nil => intro xs; exact Nat.le_refl _
  | cons p ps ih =>
    intro xs
    have h1 := ih (storedH xs p.1 p.2.1 p.2.2); have h2 := storedH_length xs p.1 p.2.1 p.2.2
    show (storedAllH (storedH xs p.1 p.2.1 p.2.2) ps).length ≤ _; rw [List.length_cons]
    omega
def rDict (K : Kx) : List V → Hp → VK → Prop := fun vs H Q => ∃ m S n ps l v, SR K H m S ∧ vs = [v] ∧ Rp K H m (.ref n) v ∧ S[n]? = some (.lst ps) ∧ pairsN ps = some l ∧ Fin K H m (S ++ [.dn false (putAll l [])]) (.ref S.length) Q
theorem dictF_ok {K : Kx} : FOkN K dictF (rDict K) := by
  intro xs S d S' e H m vs Q hS hx q
  unfold dictF at e
  split at e
  · rename_i n
    split at e
    · rename_i ps h1
      split at e
      · rename_i l h2
        cases e
        obtain ⟨v, rfl, hv⟩ := hx.one_iff
        exact ⟨m, S, n, ps, l, v, hS, rfl, hv, h1, h2, q⟩
      · cases e
    · cases e
  · cases e
theorem call_dictN (hcalm : X.calm = true) (hu : X.A.units + 65 < cLine) : CallR X (.type "dict") (rDict (kx tb X)) := by
  intro pins s σ H xs us Q I r h; obtain ⟨m, S, n, ps, l, v, hS, rfl, hv, h1, h2, q⟩ := h
  obtain ⟨u, rfl, rx⟩ := vals1 r; rw [Rp] at hv
  obtain ⟨a, ha, rfl⟩ := hv
  cases rx
  obtain ⟨a', ws, m1, k1, r1⟩ := hS.lst h1
  rw [ha] at m1; cases m1
  obtain ⟨its, rv, pl, hz⟩ := I.list (SqL.of k1)
  obtain ⟨ts, zs, ys, ei, g1, g2, g3, g4⟩ := pairs_of I r1 rv h2
  subst ei
  have hl : ts.length = ys.length := Paired.length g1
  have hsz : ys.length ≤ sizeLine := by have := r1.length; have := rv.length; rw [List.length_map] at this; omega
  obtain ⟨xs', f1, f2⟩ := putAll_rel g3 g2 (kvs := []) (xs := []) (ys := []) .nil .nil
  have hp := I.hok.fresh (Nat.le_refl s.heap.objs.size)
  refine call_dict_pairsH (knd := nkd X) (ps := ys) (PairArg.list a (ts.map Value.ref).toArray (fun j => ts.getD j 0) (ys.map fun y => (Value.ref y.2.1, y.2.2))) (I.ok.hd hcalm) ?_ ?_ ?_ ?_ (by rw [List.length_map]; exact hsz) fun h' tk hd' hk => ?_
  · show X.A.units + 1 + 1 + 8 < cLine
    omega
  · refine ⟨pl, by simp [hl], fun j k v e => ?_⟩
    rw [List.getElem?_map] at e
    obtain ⟨y, hy, e2⟩ := Option.map_eq_some_iff.mp e
    cases e2
    obtain ⟨hj, _⟩ := List.getElem?_eq_some_iff.mp hy
    have ht : ts[j]? = some ts[j] := List.getElem?_eq_getElem (by omega)
    obtain ⟨y', hy', it⟩ := paired_get g1 ht
    rw [hy] at hy'; cases hy'
    have eg : ts.getD j 0 = ts[j] := by rw [List.getD_eq_getElem?_getD, ht]; rfl
    show (List.map Value.ref ts).toArray[j]? = some (Value.ref (ts.getD j 0)) ∧ PairAt s.heap (ts.getD j 0) (Value.ref y.2.1) y.2.2
    rw [eg]
    exact ⟨by simp [ht], .inl it⟩
  · refine ⟨by rw [List.length_map], fun i key v e => ?_⟩
    have e' : (ys.map fun y => (Value.ref y.2.1, y.2.2))[i]? = some (key, v) := e
    rw [List.getElem?_map] at e'
    obtain ⟨y, hy, e2⟩ := Option.map_eq_some_iff.mp e'
    cases e2
    exact ⟨y.1, y.2.1, hy, rfl⟩
  · exact fun h' k x hx => nestedKind_stays.stays (fun b o vs n e _ => k b o (Nat.ne_of_lt (Heap.lt_size e)) (fun z => nomatch z) e) (g4 x hx)
  · have k : ∀ b o, s.heap.get? b = some o → h'.get? b = some o := fun b o e => hk b o (fun z => nomatch z) e
    obtain ⟨ob, es, ep, d1, d2, d3, d4, _, d6⟩ := hd'
    have low : (s.heap.objs.size == sysModules) = false := beq_eq_false_iff_ne.mpr (Ne.symm (Nat.ne_of_lt I.big))
    have hlen : xs'.length ≤ sizeLine := by
      have e1 := Paired.length f2
      have e2 := storedAllH_length ys []
      simp only [List.length_nil, Nat.zero_add] at e2
      omega
    have new : dnF X.prog X.w s.heap.objs.size xs' h' := ⟨low, hlen, _, f2, ob, es, ep, d1, d2, d3, d4, d6⟩
    refine ⟨.ref s.heap.objs.size, _, I.laid (a := s.heap.objs.size) (o := .ext (dnF X.prog X.w s.heap.objs.size xs')) (t' := tk) k (Nat.le_refl _) (dn_obj new), rfl, ?_⟩
    refine q _ _ (m ++ [s.heap.objs.size]) (.newM hp) (hS.newM hp ⟨xs', upd_same, f1.mono (.newM hp)⟩) ?_
    rw [Rp]
    exact ⟨_, by rw [← hS.len]; simp, rfl⟩
end
end Ml
/-! a tuple the other way round -/
namespace Ml
open L2 HT PyProof.Rows PySem PySem.Spec
section
variable {prog : Program}
variable {w : World} {A : Around} {E : Value → Shared → Prop} {s : Shared}
theorem adjust_rev (n : Nat) : Builtin.Slice.sliceAdjust none none (-1) (n : Int) = ((n : Int) - 1, -1) := by
  unfold Builtin.Slice.sliceAdjust; have h1 : (-1 : Int) < 0 := by decide
  simp only [h1, if_true]
theorem places_rev (n : Nat) : Builtin.Slice.slicePlaces ((n : Int) - 1) (-1) (-1) = n := by
  unfold Builtin.Slice.slicePlaces; have h1 : ¬ ((-1 : Int) > 0) := by decide
  simp only [h1, if_false]
  split
  · rw [show (- -1 : Int) = 1 by decide, Int.ediv_one]; omega
  · omega
theorem applied_rev {sl : Addr} {vl vu vs : Value} {n : Nat} {Q : Int × Int × Nat → Shared → Prop} (hs : s.heap.IsSliceOf sl vl vu vs) (pl : IsPart vl none) (pu : IsPart vu none) (ps : IsPart vs (some (-1)))
    (h : Q ((n : Int) - 1, -1, n) s) : wpAny (model prog w) A (Builtin.Slice.sliceApplied (.ref sl) (pure (n : Int))) Q E s := by
  obtain ⟨os, hos, hcs, hds⟩ := id hs; unfold Builtin.Slice.sliceApplied Builtin.Slice.sliceFields
  refine wpAny_bind (wpAny_bind (wpAny_field hos hds (x := vl) rfl (wpAny_bind (wpAny_field hos hds (x := vu) rfl (wpAny_bind (wpAny_field hos hds (x := vs) rfl (wpAny_pure ?_)))))))
  refine wpAny_bind (slicePart_ ps ?_)
  show wpAny _ _ (if ((-1 : Int) == 0) = true then _ else _) _ _ s
  rw [if_neg (by decide)]
  refine wpAny_bind (slicePart_ pl (wpAny_bind (slicePart_ pu (wpAny_bind (wpAny_pure ?_))))); show wpAny _ _ (match Builtin.Slice.sliceAdjust none none (-1) (n : Int) with | (lo, hi) => pure (lo, (-1 : Int), Builtin.Slice.slicePlaces lo hi (-1))) _ _ s
  rw [adjust_rev n]
  show wpAny _ _ (pure ((n : Int) - 1, (-1 : Int), Builtin.Slice.slicePlaces ((n : Int) - 1) (-1) (-1))) _ _ s
  rw [places_rev]
  exact wpAny_pure h
theorem fm_congr {α β : Type} {f g : α → Option β} : ∀ {l : List α}, (∀ x ∈ l, f x = g x) → l.filterMap f = l.filterMap g
  | [], _ => rfl
  | x :: l, h => by
    rw [List.filterMap_cons, List.filterMap_cons, h x List.mem_cons_self, fm_congr fun y hy => h y (List.mem_cons_of_mem _ hy)]
theorem pick_rev (xs : Array Value) : ((List.range xs.size).filterMap fun (m : Nat) => xs[(((xs.size : Int) - 1) + (m : Int) * (-1)).toNat]?).toArray = xs.toList.reverse.toArray := by
  have e : (List.range xs.size).filterMap (fun (m : Nat) => xs[(((xs.size : Int) - 1) + (m : Int) * (-1)).toNat]?) = ((List.range xs.size).map fun k => xs.size - 1 - k).filterMap (xs[·]?) := by
    rw [List.filterMap_map]
    refine fm_congr fun k hk => ?_
    have := List.mem_range.mp hk
    show xs[_]? = xs[xs.size - 1 - k]?
    congr 1
    omega
  rw [e, PySem.W.krv_range, List.filterMap_reverse, PySem.W.krv_all]
theorem getItem_tuple_rev {t sl : Addr} {items : Array Value} {vl vu vs : Value} {Q : Value → Shared → Prop} (ht : IsTup s.heap t items) (hs : s.heap.IsSliceOf sl vl vu vs) (pl : IsPart vl none) (pu : IsPart vu none) (ps : IsPart vs (some (-1)))
    (h : Q (.ref s.heap.objs.size) { s with heap := s.heap.push { cls := .type "tuple", data := .seq items.toList.reverse.toArray } })
    (hz : items.size ≤ sizeLine) : wpAny (model prog w) A (getItem (.ref t) (.ref sl)) Q E s := by
  have htake : sizeOk (.seq items.toList.reverse.toArray) := by
    show items.toList.reverse.toArray.size ≤ sizeLine
    rw [List.size_toArray, List.length_reverse, Array.length_toList]; omega
  obtain ⟨os, hos, hcs, hds⟩ := id hs; have hTs : s.TypeIs (.ref sl) "slice" := ⟨os, hos, hcs⟩
  unfold getItem; try with_reducible refine wpAny_holding ?_
  first | refine wpAny_bind (wpAny_pure ?_) | skip; refine wpAny_bind (wpAny_sequenceKey ht.typeIs (by decide) ?_)
  refine wpAny_bind (wpAny_callSpecial?_slot (name := Str.ofString "__getitem__") ht.typeIs (PyProof.Rows.slot_tuple_getitem)
    (wpAny_call_entry (PyProof.Rows.slot_tuple_getitem) ht.typeIs entry_tuple_getitem ?_ (args_tuple_getitem _ _)))
  show wpAny _ _ (Builtin.Tuple.tupleItemsOf (.ref t) >>= _) _ _ s; refine wpAny_bind (tupleItemsOf_ ht (?_))
  refine wpAny_bind (wpAny_typeOf hTs ?_); rw [if_pos (by decide)]
  refine wpAny_bind (applied_rev hs pl pu ps ?_)
  show wpAny _ _ (if (((items.size : Int) - 1 == 0) && ((-1 : Int) == 1) && (items.size == items.size)) = true then _ else _) _ _ s
  rw [if_neg (by simp), pick_rev]
  first
    | exact wpAny_bind (m := Builtin.Tuple.tupleExact _) (wpAny_newObj_type (wpAny_pure ⟨_, rfl, (wpAny_pure h)⟩) htake)
    | exact wpAny_bind (m := Builtin.Tuple.tupleExact _) (wpAny_newObj_type (wpAny_bind (wpAny_pure (wpAny_pure ⟨_, rfl, (wpAny_pure h)⟩))) htake)
    | exact wpAny_bind (wpAny_bind (m := Builtin.Tuple.tupleExact _) (wpAny_newObj_type (wpAny_pure (wpAny_pure ⟨_, rfl, (wpAny_pure h)⟩)) htake))
    | exact wpAny_bind (wpAny_bind (m := Builtin.Tuple.tupleExact _) (wpAny_newObj_type (wpAny_pure ⟨_, rfl, (wpAny_pure h)⟩) htake))
end
def tRevT (K : PySem.W.Frag) (te : TE) : TE := fun σ H Q => te σ H fun x H1 => ∃ a xs, x = .ref a ∧ SqT K H1 a xs ∧ ∀ p, H1 p = none → Q (.ref p) (upd H1 p (.tup xs.reverse))
section
variable {tb : List NdefX.NTab} {X : Cx} {K : Kx} {a e : Expr} {ea : EvM} {pos : Pos}
theorem pe_revT {te : TE} {k : Nat} {p1 p2 p3 : Pos} (he : PE X e te) : PE X (.Subscript e (.Slice none none (some (.UnaryOp .USub (.Constant (.int 1) k p1) p2)) p3) pos) (tRevT X.K te) := by
  refine ⟨fun pins s σ H Q I h => Subscript_ (thn (he.run pins s σ H _ I h) fun v s1 ⟨x, H1, I1, r1, q1⟩ => ?_)⟩
  obtain ⟨a, xs, ex, hx, q⟩ := q1; subst ex; cases r1
  have hst : PO X (some (.UnaryOp .USub (.Constant (.int 1) k p1) p2)) (tPart (tUn (rU fun i => .int (-i)) (tC (.int 1)))) := po_some (pe_un un_neg pe_int); refine wpAny_Slice (thn (po_none.run pins s1 σ H1 (fun o H2 => o = none ∧ H2 = H1) I1 ⟨rfl, rfl⟩) fun vl s2 ⟨l, H2, I2, pl, el, e2⟩ => ?_); subst el e2
  refine thn (po_none.run pins s2 σ H2 (fun o H3 => o = none ∧ H3 = H2) I2 ⟨rfl, rfl⟩) fun vu s3 ⟨u, H3, I3, pu, eu, e3⟩ => ?_; subst eu e3
  refine thn (hst.run pins s3 σ H3 (fun o H4 => o = some (-1) ∧ H4 = H3) I3 ⟨1, rfl, -1, rfl, rfl, rfl⟩) fun vs s4 ⟨o, H4, I4, ps, eo, e4⟩ => ?_; subst eo e4
  have I5 : Inv X pins σ H4 { s4 with heap := s4.heap.push { cls := .type "slice", data := .fields #[vl, vu, vs] } } := I4.kept (t' := s4.toks) fun b ob q => Heap.get?_push_of_some _ q; obtain ⟨its, r, ht, hz⟩ := I5.tuple hx
  have hlen := r.length
  show wpAny (model X.prog X.w) X.A (subscriptTail e (.Slice none none (some (.UnaryOp .USub (.Constant (.int 1) k p1) p2)) p3) (.ref a) (.ref s4.heap.objs.size)) (EP X pins σ Q) X.xe { s4 with heap := s4.heap.push { cls := .type "slice", data := .fields #[vl, vu, vs] } }; refine tail_any (ops := [.ref a, .ref s4.heap.objs.size]) ht.typeIs (PyProof.Rows.slot_tuple_getitem.lookup) ?_ (by with_unfolding_all rfl)
  refine getItem_tuple_rev ht (Heap.IsSliceOf.new _ vl vu vs) pl pu ps ?_ (by rw [List.size_toArray]; omega)
  refine ⟨.ref _, _, I5.laid (t' := s4.toks) (o := .tup xs.reverse) (fun b ob q => Heap.get?_push_of_some _ q) (Nat.le_refl _) ?_, rfl, q _ (I5.hok.fresh (Nat.le_refl _))⟩
  exact ⟨by rw [List.length_reverse]; exact hz, _, r.reverse, IsTup.new _ _⟩
def revTM (ea : EvM) : EvM := fun γ S => match ea γ S with
  | some (.tup xs, S1) => some (.tup xs.reverse, S1)
  | _ => none
theorem me_revT {k : Nat} {p1 p2 p3 : Pos} (ha : ME tb X a ea) : ME tb X (.Subscript a (.Slice none none (some (.UnaryOp .USub (.Constant (.int 1) k p1) p2)) p3) pos) (revTM ea) := by
  refine PE.imp (pe_revT ha) fun σ H Q h => ?_
  obtain ⟨m, S, γ, d, S', hS, hγ, e1, q⟩ := h
  unfold revTM at e1
  split at e1
  · rename_i xs S1 h1
    cases e1
    refine ⟨m, S, γ, _, _, hS, hγ, h1, fun w H1 m1 x1 hS1 hw => ?_⟩
    rw [Rp] at hw
    obtain ⟨a, vs, rfl, k1, r1⟩ := hw
    refine ⟨a, vs, rfl, k1, fun p hp => ?_⟩
    refine q _ _ m1 (x1.trans (.new hp)) (hS1.new hp) ?_
    rw [Rp]
    exact ⟨p, _, rfl, .inl (.inl upd_same), (r1.mono (.new hp)).reverse⟩
  · cases e1
end
end Ml
/-! comprehensions of two clauses -/
namespace Ml
open L2 PyProof.Rows PySem PySem.Spec
open Classical
section
variable {tb : List NdefX.NTab} {X : Cx} {K : Kx} {elt tg iter tg1 iter1 : Expr} {ifs ifs1 : List Expr} {scope : Scope} {own : List (Str × Nat)} {pos : Pos} {iv iv1 : IvM} {tgt tgt1 : Tgt} {ca ca1 : CvM} {ea : EvM} {vs vs1 : List Nat}
noncomputable def comp2I (ck : Option (Nat × O)) (tgt : Tgt) (t : CvM) (iv1 : IvM) (tgt1 : Tgt) (t1 : CvM) (e : EvM) (γ : Sl) (vs1 : List Nat) (n : Nat) : List D → Sto → Option Sto
  | [], S => if Chk ck S then some S else none
  | x :: r, S => if Chk ck S then match bindT tgt x γ with
      | none => none
      | some γ1 => match t γ1 S with
        | none => none
        | some (false, S1) => comp2I ck tgt t iv1 tgt1 t1 e γ vs1 n r S1
        | some (true, S1) => match iv1 γ1 S1 with
          | none => none
          | some (ck1, xs1, S2) => match compI ck1 tgt1 t1 e (wipeD γ1 vs1) n xs1 S2 with
            | none => none
            | some S3 => comp2I ck tgt t iv1 tgt1 t1 e γ vs1 n r S3
    else none
noncomputable def comp2M (iv : IvM) (tgt : Tgt) (t : CvM) (iv1 : IvM) (tgt1 : Tgt) (t1 : CvM) (e : EvM) (vs vs1 : List Nat) : EvM := fun γ S => match iv γ S with
  | none => none
  | some (ck, xs, S1) => match comp2I ck tgt t iv1 tgt1 t1 e (wipeD γ vs) vs1 S1.length xs (S1 ++ [.lst []]) with
    | some S' => some (.ref S1.length, S')
    | none => none
theorem lcm2_core {σ : L2.St} {H : Hp} {Q : VK} (hv : inTgt tgt vs = true) (hv1 : inTgt tgt1 vs1 = true) (h : tM K (comp2M iv tgt ca iv1 tgt1 ca1 ea vs vs1) σ H Q) :
    tLc2 (tIM K iv) (gTgt K.f tgt) (tTM K ca) (tIM K iv1) (gTgt K.f tgt1) (tTM K ca1) (tM K ea) vs vs1 σ H Q := by
  obtain ⟨m, S, γ, d, S', hS, hγ, e, q⟩ := h
  unfold comp2M at e
  split at e
  · cases e
  · rename_i ck xs S1 h1
    split at e
    · rename_i Sf h2
      cases e
      refine ⟨m, S, γ, ck, xs, S1, hS, hγ, h1, fun J H1 m1 x1 hS1 wk D hD => ?_⟩
      have hS2 : SR K (upd H1 D (.lst [])) (m1 ++ [D]) (S1 ++ [.lst []]) := hS1.newM hD ⟨[], upd_same, by rw [Rps]⟩
      have x2 : Ext K H1 m1 (upd H1 D (.lst [])) (m1 ++ [D]) := .newM hD
      have hDm : (m1 ++ [D])[S1.length]? = some D := by rw [← hS1.len]; simp
      refine ⟨fun i k H => i ≤ xs.length ∧ k = xs.length - i ∧ ∃ m S, Ext K (upd H1 D (.lst [])) (m1 ++ [D]) H m ∧ SR K H m S ∧ comp2I ck tgt ca iv1 tgt1 ca1 ea (wipeD γ vs) vs1 S1.length (xs.drop i) S = some S',
        ⟨xs.length, Nat.zero_le _, rfl, m1 ++ [D], _, .refl, hS2, h2⟩, ?_⟩
      rintro i k H ⟨hi, rfl, m, S, x3, hS3, e⟩
      by_cases hlt : i < xs.length
      · rw [drop_cons (List.getElem?_eq_getElem hlt)] at e
        unfold comp2I at e
        split at e
        · rename_i hk
          obtain ⟨hgo, hy⟩ := wk.go H m S i (x2.trans x3) hS3 hk hlt
          refine .inr ⟨hgo, fun H => ∃ m S, Ext K (upd H1 D (.lst [])) (m1 ++ [D]) H m ∧ SR K H m S ∧ comp2I ck tgt ca iv1 tgt1 ca1 ea (wipeD γ vs) vs1 S1.length (xs.drop (i + 1)) S = some S',
            fun H' w => ⟨xs.length - (i + 1), by omega, hlt, rfl, w⟩, fun v H2 yl => ?_⟩
          obtain ⟨d, hd, x4, hS4, hv2⟩ := hy v H2 yl
          rw [List.getElem?_eq_getElem hlt] at hd
          cases hd
          split at e
          · cases e
          · rename_i γ1 h3
            have hγ2 : SLR K H2 m (wipeD γ vs) (wipe σ vs) := (hγ.mono (x1.trans (x2.trans (x3.trans x4)))).wipe vs
            refine gTgt_ok hγ2 hv2 h3 hv fun σ1 hγ3 hw => ⟨by rw [hw, wipe_wipe], ?_⟩
            split at e
            · cases e
            · rename_i S5 h4
              refine ⟨m, S, γ1, false, S5, hS4, hγ3, h4, fun H5 m5 x5 hS5 => iteF ?_⟩
              exact ⟨m5, S5, x3.trans (x4.trans x5), hS5, e⟩
            · rename_i S5 h4
              refine ⟨m, S, γ1, true, S5, hS4, hγ3, h4, fun H5 m5 x5 hS5 => iteT ?_⟩
              split at e
              · cases e
              · rename_i ck1 xs1 S6 h5
                split at e
                · cases e
                · rename_i S7 h6
                  refine ⟨m5, S5, γ1, ck1, xs1, S6, hS5, hγ3.mono x5, h5, fun J1 H6 m6 x6 hS6 wk1 => ?_⟩
                  have xb := x3.trans (x4.trans (x5.trans x6))
                  refine ⟨fun j k H => j ≤ xs1.length ∧ k = xs1.length - j ∧ ∃ m S, Ext K H6 m6 H m ∧ SR K H m S ∧ compI ck1 tgt1 ca1 ea (wipeD γ1 vs1) S1.length (xs1.drop j) S = some S7,
                    ⟨xs1.length, Nat.zero_le _, rfl, m6, _, .refl, hS6, h6⟩, ?_⟩
                  rintro j k H ⟨hj, rfl, m8, S8, x8, hS8, e8⟩
                  by_cases hl1 : j < xs1.length
                  · rw [drop_cons (List.getElem?_eq_getElem hl1)] at e8
                    unfold compI at e8
                    split at e8
                    · rename_i hk1
                      obtain ⟨hgo1, hy1⟩ := wk1.go H m8 S8 j x8 hS8 hk1 hl1
                      refine .inr ⟨hgo1, fun H => ∃ m S, Ext K H6 m6 H m ∧ SR K H m S ∧ compI ck1 tgt1 ca1 ea (wipeD γ1 vs1) S1.length (xs1.drop (j + 1)) S = some S7,
                        fun H' w => ⟨xs1.length - (j + 1), by omega, hl1, rfl, w⟩, fun v H9 yl => ?_⟩
                      obtain ⟨d1, hd1, x9, hS9, hv9⟩ := hy1 v H9 yl
                      rw [List.getElem?_eq_getElem hl1] at hd1
                      cases hd1
                      split at e8
                      · cases e8
                      · rename_i γ2 h9
                        have hγ9 : SLR K H9 m8 (wipeD γ1 vs1) (wipe σ1 vs1) := (hγ3.mono (x5.trans (x6.trans (x8.trans x9)))).wipe vs1
                        refine gTgt_ok hγ9 hv9 h9 hv1 fun σ3 hγ10 hw3 => ⟨by rw [hw3, wipe_wipe], ?_⟩
                        split at e8
                        · cases e8
                        · rename_i S10 h10
                          refine ⟨m8, S8, γ2, false, S10, hS9, hγ10, h10, fun H10 m10 x10 hS10 => iteF ?_⟩
                          exact ⟨m10, S10, x8.trans (x9.trans x10), hS10, e8⟩
                        · rename_i S10 h10
                          refine ⟨m8, S8, γ2, true, S10, hS9, hγ10, h10, fun H10 m10 x10 hS10 => iteT ?_⟩
                          split at e8
                          · cases e8
                          · rename_i y S11 h11
                            refine ⟨m10, S10, γ2, y, S11, hS10, hγ10.mono x10, h11, fun w H11 m11 x11 hS11 hw11 => ?_⟩
                            split at e8
                            · rename_i acc h12
                              split at e8
                              · rename_i hz
                                have x12 := x8.trans (x9.trans (x10.trans x11))
                                obtain ⟨a', ws, m7, k7, r7⟩ := hS11.lst h12
                                have hDa := (xb.trans x12).get hDm
                                rw [hDa] at m7; cases m7
                                exact ⟨ws, k7, by rw [r7.length]; exact hz, m11, _, x12.trans (.upd k7 trivial), hS11.upd (u := .lst (acc ++ [y])) hDa (lt_of h12) ⟨_, upd_same, (r7.append (Rps.one hw11)).mono (.upd k7 trivial)⟩, e8⟩
                              · cases e8
                            · cases e8
                    · cases e8
                  · have hj2 : j = xs1.length := by omega
                    subst hj2
                    rw [List.drop_length] at e8
                    unfold compI at e8
                    split at e8
                    · rename_i hk1
                      cases e8
                      exact .inl ⟨wk1.stop H m8 _ x8 hS8 hk1, m8, _, xb.trans x8, hS8, e⟩
                    · cases e8
        · cases e
      · have hi2 : i = xs.length := by omega
        subst hi2
        rw [List.drop_length] at e
        unfold comp2I at e
        split at e
        · rename_i hk
          cases e
          refine .inl ⟨wk.stop H m _ (x2.trans x3) hS3 hk, q _ H m (x1.trans (x2.trans x3)) hS3 ?_⟩
          rw [Rp]
          exact ⟨D, x3.get hDm, rfl⟩
        · cases e
    · cases e
theorem me_lc2 (hc : X.calm = true) (hN : X.N.Nodup) (hi : MI tb X tg iter iv) (ok : BlkOk X.N X.env.scope scope own) (hv : inTgt tgt (own.map (·.2)) = true) (hv1 : inTgt tgt1 vs1 = true) (hsub : ∀ i ∈ vs1, i ∈ own.map (·.2))
    (hg : ∀ (s : Shared) (H : Hp) (C : Addr) (cl : List (Str × Addr)) (fp : List Addr), PG (X.blk s H scope (compEnvC scope cl C X.env) fp) tg (gTgt X.K tgt)) (ht : ∀ (s : Shared) (H : Hp) (C : Addr) (cl : List (Str × Addr)) (fp : List Addr), MTs tb (X.blk s H scope (compEnvC scope cl C X.env) fp) ifs ca)
    (hi1 : ∀ (s : Shared) (H : Hp) (C : Addr) (cl : List (Str × Addr)) (fp : List Addr), MI tb (X.blk s H scope (compEnvC scope cl C X.env) fp) tg1 iter1 iv1)
    (hg1 : ∀ (s : Shared) (H : Hp) (C : Addr) (cl : List (Str × Addr)) (fp : List Addr), PG (X.blk s H scope (compEnvC scope cl C X.env) fp) tg1 (gTgt X.K tgt1)) (ht1 : ∀ (s : Shared) (H : Hp) (C : Addr) (cl : List (Str × Addr)) (fp : List Addr), MTs tb (X.blk s H scope (compEnvC scope cl C X.env) fp) ifs1 ca1)
    (he : ∀ (s : Shared) (H : Hp) (C : Addr) (cl : List (Str × Addr)) (fp : List Addr), ME tb (X.blk s H scope (compEnvC scope cl C X.env) fp) elt ea) (hs : ∀ x, foldedSetIterable iter X.env x = pure x := by intro _; rfl) (hs1 : ∀ env x, foldedSetIterable iter1 env x = pure x := by intro _ _; rfl) :
    ME tb X (.ListComp elt [⟨tg, iter, ifs, 0⟩, ⟨tg1, iter1, ifs1, 0⟩] scope pos) (comp2M iv tgt ca iv1 tgt1 ca1 ea (own.map (·.2)) vs1) :=
  PE.imp (pe_lc2 hc hN hi ok hsub hg ht hi1 hg1 ht1 he hs hs1) fun σ H Q h => lcm2_core hv hv1 h
theorem ms_setLc2 (i : Nat) {y : Str} {py : Pos} {spos : Pos} (hc : X.calm = true) (hN : X.N.Nodup) (hy : X.N[i]? = some y) (hyl : X.env.scope.names.lookup y = some .local)
    (hsw : swapsWith (.ListComp elt [⟨tg, iter, ifs, 0⟩, ⟨tg1, iter1, ifs1, 0⟩] scope pos) (some (.Name y py)) spos.line X.env = pure true) (hi : MI tb X tg iter iv) (ok : BlkOk X.N X.env.scope scope own) (hv : inTgt tgt (own.map (·.2)) = true) (hv1 : inTgt tgt1 vs1 = true) (hsub : ∀ i ∈ vs1, i ∈ own.map (·.2))
    (hg : ∀ (s : Shared) (H : Hp) (C : Addr) (cl : List (Str × Addr)) (fp : List Addr), PG (X.blk s H scope (compEnvC scope cl C X.env) fp) tg (gTgt X.K tgt)) (ht : ∀ (s : Shared) (H : Hp) (C : Addr) (cl : List (Str × Addr)) (fp : List Addr), MTs tb (X.blk s H scope (compEnvC scope cl C X.env) fp) ifs ca)
    (hi1 : ∀ (s : Shared) (H : Hp) (C : Addr) (cl : List (Str × Addr)) (fp : List Addr), MI tb (X.blk s H scope (compEnvC scope cl C X.env) fp) tg1 iter1 iv1)
    (hg1 : ∀ (s : Shared) (H : Hp) (C : Addr) (cl : List (Str × Addr)) (fp : List Addr), PG (X.blk s H scope (compEnvC scope cl C X.env) fp) tg1 (gTgt X.K tgt1)) (ht1 : ∀ (s : Shared) (H : Hp) (C : Addr) (cl : List (Str × Addr)) (fp : List Addr), MTs tb (X.blk s H scope (compEnvC scope cl C X.env) fp) ifs1 ca1)
    (he : ∀ (s : Shared) (H : Hp) (C : Addr) (cl : List (Str × Addr)) (fp : List Addr), ME tb (X.blk s H scope (compEnvC scope cl C X.env) fp) elt ea) (hs : ∀ x, foldedSetIterable iter X.env x = pure x := by intro _; rfl) (hs1 : ∀ env x, foldedSetIterable iter1 env x = pure x := by intro _ _; rfl) :
    MS tb X (.Assign [.Name y py] (.ListComp elt [⟨tg, iter, ifs, 0⟩, ⟨tg1, iter1, ifs1, 0⟩] scope pos) spos) (asgM (comp2M iv tgt ca iv1 tgt1 ca1 ea (own.map (·.2)) vs1) (nameG i)) :=
  PS.imp (ps_setLc2 hc hN hy hyl hsw hi ok hsub hg ht hi1 hg1 ht1 he hs hs1) fun Dn σ H h => by
    obtain ⟨m, S, γ, f, γ', S', hS, hγ, e, q⟩ := h
    unfold asgM nameG at e
    split at e
    · cases e
    · rename_i d S1 h1
      cases e
      refine lcm2_core hv hv1 (Q := fun x H1 => gName i x σ H1 Dn.nx) ⟨m, S, γ, d, _, hS, hγ, h1, fun w H1 m1 x1 hS1 hw => ?_⟩
      exact q _ H1 m1 x1 hS1 ((hγ.mono x1).set hw)
end
end Ml
/-! list(reversed(a list)) -/
namespace Ml
open L2 RT PyProof.Rows PySem PySem.Spec
section
variable {prog : Program}
variable {w : World} {A : Around} {E : Value → Shared → Prop} {s : Shared}
theorem extend_rev {it l S : Addr} {items : Array Value} {res : Value} {c₀ : Nat} {R : Result → Shared → Prop} (hh : A.handled = none) (hit : s.heap.IsRevIter it l ((items.size : Int) - 1)) (hl : s.heap.IsList l items) (hne : l ≠ it) (hn : items.size ≤ sizeLine)
    (hSi : S ≠ it) (hSl : S ≠ l) (hS : s.heap.get? S = some { cls := .type "list", data := .seq #[] c₀ })
    (hR : ∀ h' tk acc' c', (∀ b o, b ≠ S → b ≠ it → s.heap.get? b = some o → h'.get? b = some o) → h'.get? S = some { cls := .type "list", dict := none, data := .seq acc' c', slots := #[] } → ItemsOf (fun i v => items[items.size - 1 - i]? = some v) acc' items.size → R (.ok (.ret res)) { s with heap := h', toks := tk }) : wpAny (model prog w) A.in1 (Builtin.List.listExtendWith (.ref S) (.ref it) res) (fun fin s' => match fin with | .done f => R (.ok f) s' | .again c' => c'.quiet = true ∧ codeAny (model prog w) A c' R s') (fun e s' => R (.error e) s') s := by
  have W := (Walks.listRev (prog := prog) (w := w) (A := A.in1) hh it l hne items).toS; have hSf : S ∉ [it, l] := by simp only [List.mem_cons, List.not_mem_nil, or_false, not_or]; exact ⟨hSi, hSl⟩
  have hT : s.TypeIs (.ref it) "list_reverseiterator" := hit.typeIs
  have h1 : Builtin.List.listSameRef (.ref S) (.ref it) = false := by simp [Builtin.List.listSameRef, hSi]
  unfold Builtin.List.listExtendWith; refine wpAny_bind (wpAny_typeOf hT ?_)
  rw [if_neg (by rw [h1]; decide)]; refine wpAny_bind (wpAny_pyIter_revIter hit ?_)
  refine wpAny_bind (wpAny_holding (?_))
  unfold Builtin.List.listLengthHint; refine wpAny_bind (wpAny_specialOf hT (nolen_lri) ?_)
  show wpAny _ A.in1 (specialOf (Value.ref it) (Str.ofString "__length_hint__") >>= _) _ _ _; refine wpAny_bind (wpAny_specialOf hT (hint_lri) ?_)
  generalize hid : ("list_reverseiterator.__length_hint__" : String) = id0; wp_delta
  rw [show splitId id0 = some ("list_reverseiterator", "__length_hint__") from by subst hid; decide +kernel]; subst hid
  refine wpAny_bind (wpAny_isInstance (b := true) hT (by rw [isSubtype_type]; kernel_rfl) ?_); refine wpAny_pure ?_
  rw [if_neg (by decide)]
  have e0 : ((items.size : Nat) : Int) - 1 - ((0 : Nat) : Int) = (items.size : Int) - 1 := (by omega); refine wpAny_pure ⟨plainId_quiet F.plain_extend_loop _, codeAny_extend_loopS W hn _ hSf _ items.size 0 _ _ _ rfl (Nat.zero_le _) ⟨Nat.zero_le _, by rw [e0]; exact hit, hl⟩ hS (ItemsOf.nil _) fun s' acc' c' hm hS' hacc => ?_⟩
  rw [Moved.eq_with hm]
  refine hR s'.heap s'.toks acc' c' (fun b o hb hb2 e => hm.heap b o (fun hmem => ?_) e) hS' hacc
  rcases (List.mem_cons.mp hmem) with e' | hmem
  · exact hb e'
  · exact hb2 (List.mem_singleton.mp hmem)
theorem call_list_rev {it l : Addr} {items : Array Value} {Q : Value → Shared → Prop} (hh : A.handled = none) (hit : s.heap.IsRevIter it l ((items.size : Int) - 1)) (hl : s.heap.IsList l items) (hne : l ≠ it) (hn : items.size ≤ sizeLine)
    (hQ : ∀ (h' : Heap) (tk : Nat) (acc : Array Value) (c : Nat), (∀ b o, b ≠ it → s.heap.get? b = some o → h'.get? b = some o) → h'.get? s.heap.objs.size = some { cls := .type "list", dict := none, data := .seq acc c, slots := #[] } →
      ItemsOf (fun i v => items[items.size - 1 - i]? = some v) acc items.size → Q (.ref s.heap.objs.size) { s with heap := h', toks := tk }) : wpAny (model prog w) A (call (.type "list") [.ref it]) Q E s := by
  refine callType_codes (Q₁ := fun obj s₁ => obj = .ref s.heap.objs.size ∧ s₁ = { s with heap := s.heap.push { cls := .type "list", data := .seq #[] } }) F.called_list (F.typeCall_list_1 _) F.entry_list_init (code_list_new _ ⟨rfl, rfl⟩) fun obj s₁ h₁ => ?_
  obtain ⟨rfl, rfl⟩ := h₁
  have hS : (s.heap.push { cls := .type "list", data := .seq #[] }).get? s.heap.objs.size = some { cls := .type "list", data := .seq #[] } := Heap.get?_push_size _ rfl; obtain ⟨oi, hoi, _⟩ := id hit
  obtain ⟨ol, hol, _⟩ := id hl
  have hSi : s.heap.objs.size ≠ it := Nat.ne_of_gt (Heap.lt_size hoi); have hSl : s.heap.objs.size ≠ l := Nat.ne_of_gt (Heap.lt_size hol)
  refine ⟨⟨_, hS, rfl⟩, F.args_list_init_2 _ _, ?_⟩; generalize hs2 : s.heap.push { cls := .type "list", data := .seq #[] } = h2
  rw [hs2] at hS
  have k2 : ∀ b o, s.heap.get? b = some o → h2.get? b = some o := fun b o e => by rw [← hs2]; exact Heap.get?_push_of_some _ e
  show wpAny _ _ (do let old ← Builtin.List.listItems (.ref s.heap.objs.size); Builtin.List.listUpdate (.ref s.heap.objs.size) (fun _ => #[]); letGo old.toList.reverse; Builtin.List.listExtendWith (.ref s.heap.objs.size) (.ref it) .none) _ _ { s with heap := h2 }
  refine wpAny_bind ?_
  unfold Builtin.List.listItems
  refine wpAny_bind (wpAny_seqItems hS rfl (wpAny_pure ?_)); show wpAny _ _ (updateSeq s.heap.objs.size (fun _ => #[]) >>= fun _ => letGo (#[] : Array Value).toList.reverse >>= fun _ => Builtin.List.listExtendWith (.ref s.heap.objs.size) (.ref it) .none) _ _ { s with heap := h2 }
  refine wpAny_bind (wpAny_updateSeq hS rfl ?_); have hS₂ := Heap.get?_update_self (Obj.mapSeq (fun _ => (#[] : Array Value))) hS rfl
  have oth : ∀ b o, b ≠ s.heap.objs.size → h2.get? b = some o → (h2.update s.heap.objs.size (Obj.mapSeq (fun _ => (#[] : Array Value)))).get? b = some o :=
    fun b o hb e => by rw [Heap.get?_update_other _ _ (Ne.symm hb)]; exact e
  refine wpAny_bind (wpAny_letGo ?_); refine extend_rev (A := A.in1) (s := { s with heap := h2.update s.heap.objs.size (Obj.mapSeq (fun _ => (#[] : Array Value))) }) hh (hit.at fun o e => oth it o (Ne.symm hSi) (k2 it o e)) (hl.at fun o e => oth l o (Ne.symm hSl) (k2 l o e)) hne hn hSi hSl hS₂ fun h' tk acc' c' hk hS' hacc => ?_
  refine ⟨rfl, hQ h' tk acc' c' (fun b o hb e => ?_) hS' hacc⟩
  have hbS : b ≠ s.heap.objs.size := Nat.ne_of_lt (Heap.lt_size e)
  exact hk b o hbS hb (oth b o hbS (k2 b o e))
end
def tLstRev (K : PySem.W.Frag) (te : TE) : TE := fun σ H Q => te σ H fun v H1 => ∃ (a : Addr) (xs : List V), v = .ref a ∧ SqL K H1 a xs ∧ ∀ q, H1 q = none → Q (.ref q) (upd H1 q (.lst xs.reverse))
section
variable {tb : List NdefX.NTab} {X : Cx} {K : Kx} {e : Expr} {ea : EvM}
theorem pe_lstRev {te : TE} {p p2 pos pos2 : Pos} (hc : X.calm = true) (hg : Gl X "list") (hm : X.mg "list" = none) (hg2 : Gl X "reversed") (hm2 : X.mg "reversed" = none) (he : PE X e te) (hs : starEach [e] X.env = (false, eval e X.env) :: starEach [] X.env := by rfl) (hs2 : starEach [.Call (.Name "reversed" p2) [e] [] pos2] X.env = (false, eval (.Call (.Name "reversed" p2) [e] [] pos2) X.env) :: starEach [] X.env := by rfl) :
    PE X (.Call (.Name "list" p) [.Call (.Name "reversed" p2) [e] [] pos2] [] pos) (tLstRev X.K te) := by
  refine .mk fun pins s σ H Q I h => ?_
  refine Call_ (ld_blt I hg hm boot_list (PyProof.Rows.callWith_type1 (args_cons (Call_ (ld_blt I hg2 hm2 PyProof.Rows.boot_reversed (PyProof.Rows.callWith_type1 (args_cons (thn (he.run pins s σ H _ I h) fun u s1 ⟨v, H1, I1, r1, q1⟩ => args_nil ?_) hs) hs rfl))) hs2) hs2 rfl))
  obtain ⟨a, xs, ev, hq, q⟩ := q1; subst ev
  obtain rfl : u = Value.ref a := r1; obtain ⟨its, rv, p', hz⟩ := I1.list hq
  refine call_reversed_list p'.isList (args_nil ?_); have k0 : ∀ b o, s1.heap.get? b = some o → (s1.heap.push (revObj a ((its.toArray.size : Int) - 1))).get? b = some o := fun b o e => (Heap.get?_push_of_some _ e)
  have I2 : Inv X pins σ H1 { s1 with heap := s1.heap.push (revObj a ((its.toArray.size : Int) - 1)) } := I1.kept (t' := s1.toks) k0; obtain ⟨f0, f1, f2, f3, f4, f5⟩ := I1.fpOk (H' := H1) (b := s1.heap.objs.size) (Nat.le_refl _) (I1.hok.fresh (Nat.le_refl _))
  have hl := p'.isList
  obtain ⟨ol, hol, _⟩ := id hl
  have hne : a ≠ s1.heap.objs.size := Nat.ne_of_lt (Heap.lt_size hol); have hn : its.toArray.size ≤ sizeLine := by rw [List.size_toArray, ← rv.length]; exact hz
  refine call_list_rev (s := { s1 with heap := s1.heap.push (revObj a ((its.toArray.size : Int) - 1)) }) (I1.ok.hd hc) ⟨_, Heap.get?_push_size _ rfl, rfl, rfl⟩ (hl.push _) hne hn fun h' tk acc c hk hS hi => ?_
  have hS : h'.get? (s1.heap.push (revObj a ((its.toArray.size : Int) - 1))).objs.size = some { cls := .type "list", dict := none, data := .seq acc c, slots := #[] } := hS
  have hfr : H1 (s1.heap.push (revObj a ((its.toArray.size : Int) - 1))).objs.size = none := I2.hok.fresh (Nat.le_refl _)
  have I3 : Inv X pins σ H1 { s1 with heap := h', toks := tk } := I2.turned (t' := tk) (fun b o hb e => hk b o hb e) f0 f1 f3 f4 f5; have hrev := vals_rev rv hi
  have new : ObjOk X.prog X.w (upd H1 (s1.heap.push (revObj a ((its.toArray.size : Int) - 1))).objs.size (.lst xs.reverse)) h' (s1.heap.push (revObj a ((its.toArray.size : Int) - 1))).objs.size (.lst xs.reverse) := by
    refine ⟨by rw [List.length_reverse]; exact hz, acc.toList, c, hrev, ?_⟩
    rw [Array.toArray_toList]
    exact hS
  have I4 : Inv X pins σ (upd H1 (s1.heap.push (revObj a ((its.toArray.size : Int) - 1))).objs.size (.lst xs.reverse)) { s1 with heap := h', toks := tk } :=
    Inv.turnedNew (s := { s1 with heap := s1.heap.push (revObj a ((its.toArray.size : Int) - 1)) }) (t' := tk) (ch := [s1.heap.objs.size]) I2 (fun b o hb e => hk b o (fun z => hb (by simp [z])) e) (fun b hb => by
      have z : b = s1.heap.objs.size := by simpa using hb
      subst z
      exact ⟨f0, f1, f2, f3, f4, f5⟩) (Nat.le_refl _) new
  exact ⟨.ref _, _, I4, rfl, q _ hfr⟩
def lrevM (ea : EvM) : EvM := revM ea
theorem me_lrev {p p2 pos pos2 : Pos} (hc : X.calm = true) (hg : Gl X "list") (hm : X.mg "list" = none) (hg2 : Gl X "reversed") (hm2 : X.mg "reversed" = none) (ha : ME tb X e ea) (hs : starEach [e] X.env = (false, eval e X.env) :: starEach [] X.env := by rfl) (hs2 : starEach [.Call (.Name "reversed" p2) [e] [] pos2] X.env = (false, eval (.Call (.Name "reversed" p2) [e] [] pos2) X.env) :: starEach [] X.env := by rfl) :
    ME tb X (.Call (.Name "list" p) [.Call (.Name "reversed" p2) [e] [] pos2] [] pos) (lrevM ea) := by
  refine PE.imp (pe_lstRev hc hg hm hg2 hm2 ha hs hs2) fun σ H Q h => ?_
  obtain ⟨m, S, γ, d, S', hS, hγ, e1, q⟩ := h
  unfold lrevM revM at e1
  split at e1
  · rename_i n S1 h1
    split at e1
    · rename_i xs h2
      cases e1
      refine ⟨m, S, γ, _, _, hS, hγ, h1, fun w H1 m1 x1 hS1 hw => ?_⟩
      simp only [Rp] at hw
      obtain ⟨a, ea, rfl⟩ := hw
      obtain ⟨a', vs, m2, k1, r1⟩ := hS1.lst h2
      rw [ea] at m2; cases m2
      exact ⟨a, vs, rfl, SqL.of k1, fin_lst hS1 r1.reverse fun y H4 m4 x4 => q y H4 m4 (x1.trans x4)⟩
    · cases e1
  · cases e1
end
end Ml
/-! Ml16: objects of own classes -/
namespace Ml
open L2 PyProof.Rows PySem PySem.Spec
def putD {α : Type} (f : Str) (v : α) : List (Str × α) → List (Str × α)
  | [] => [(f, v)]
  | (g, x) :: r => if g = f then (g, v) :: r else (g, x) :: putD f v r
section
variable {K : Kx} {H : Hp} {m : List Addr}
theorem Rkv.look {fs : List (Str × D)} {ws : List (Str × V)} (h : Rkv K H m fs ws) (f : Str) : (fs.lookup f = none ∧ ws.lookup f = none) ∨ ∃ d v, fs.lookup f = some d ∧ ws.lookup f = some v ∧ Rp K H m d v := by
  unfold Rkv at h
  induction h with
  | nil => refine .inl ⟨rfl, rfl⟩
  | @cons p q ps qs r t ih =>
    obtain ⟨k, x⟩ := p
    obtain ⟨k', y⟩ := q
    obtain ⟨e, r⟩ := r
    simp only at e r
    subst e
    by_cases hk : (f == k) = true
    · exact .inr ⟨x, y, by simp only [List.lookup, hk], by simp only [List.lookup, hk], r⟩
    · have hk' : (f == k) = false := by simpa using hk
      rcases ih with ⟨a, b⟩ | ⟨d, v, a, b, c⟩
      · exact .inl ⟨by simp only [List.lookup, hk']; exact a, by simp only [List.lookup, hk']; exact b⟩
      · exact .inr ⟨d, v, by simp only [List.lookup, hk']; exact a, by simp only [List.lookup, hk']; exact b, c⟩
theorem Rkv.put {fs : List (Str × D)} {ws : List (Str × V)} (h : Rkv K H m fs ws) (f : Str) {d : D} {v : V} (r : Rp K H m d v) : Rkv K H m (putD f d fs) (putF f v ws) := by
  unfold Rkv at h ⊢
  induction h with
  | nil => exact .cons ⟨rfl, r⟩ .nil
  | @cons p q ps qs r2 t ih =>
    obtain ⟨k, x⟩ := p
    obtain ⟨k', y⟩ := q
    obtain ⟨e, r2⟩ := r2
    simp only at e r2
    subst e
    unfold putD putF
    by_cases hk : k = f
    · rw [if_pos hk, if_pos hk]; exact .cons ⟨rfl, r⟩ t
    · rw [if_neg hk, if_neg hk]; exact .cons ⟨rfl, r2⟩ ih
theorem Rkv.len {κ : Type} {fs : List (κ × D)} {ws : List (κ × V)} (h : Rkv K H m fs ws) : ws.length = fs.length := by
  unfold Rkv at h
  induction h with
  | nil => rfl
  | cons _ _ ih => simp [ih]
/-- the object of the store at a number -/
theorem SR.ins {S : Sto} {n : Nat} {C : Addr} {fs : List (Str × D)} (hS : SR K H m S) (e : S[n]? = some (.ins C fs)) {a : Addr} (ha : m[n]? = some a) : ∃ dx ws, H a = some (.ins C dx ws) ∧ Rkv K H m fs ws := hS.at_ n a _ ha e
end
section
variable {tb : List NdefX.NTab} {X : Cx} {e o value : Expr} {ea eo ev : EvM} {pos pos' tpos : Pos} {C : Addr} {f : Str}
/-- e.f -/
def fldM (C : Addr) (f : Str) (eo : EvM) : EvM := fun γ S => match eo γ S with
  | some (.ref n, S1) => match S1[n]? with
    | some (.ins C' fs) => if C' = C then match fs.lookup f with
        | some d => some (d, S1)
        | none => none
      else none
    | _ => none
  | _ => none
theorem me_fld (hc : Cls X.K C) (hn : NoAttr X.K C f) (he : ME tb X e ea) (hb : attributeBase e f X.env (eval e X.env) = eval e X.env := by rfl) : ME tb X (.Attribute e f pos) (fldM C f ea) := PE.imp (pe_fld he hb) fun σ H Q h => by
  obtain ⟨m, S, γ, d, S', hS, hγ, e1, q⟩ := h
  unfold fldM at e1
  split at e1
  · rename_i n S1 h1
    split at e1
    · rename_i C' fs h2
      split at e1
      · rename_i hC
        subst hC
        split at e1
        · rename_i d' h3
          cases e1
          refine ⟨m, S, γ, _, _, hS, hγ, h1, fun w H1 m1 x1 hS1 hw => ?_⟩
          rw [Rp] at hw
          obtain ⟨a, ha, rfl⟩ := hw
          obtain ⟨dx, ws, g1, g2⟩ := hS1.ins h2 ha
          rcases g2.look f with ⟨z, _⟩ | ⟨d2, v, z1, z2, r⟩
          · rw [h3] at z; cases z
          · rw [h3] at z1; cases z1
            exact ⟨a, _, dx, ws, v, rfl, g1, hc, hn, z2, q v H1 m1 x1 hS1 r⟩
        · cases e1
      · cases e1
    · cases e1
  · cases e1
/-- e.f = value -/
def fldS (C : Addr) (f : Str) (eo ev : EvM) : SvM := fun γ S => match ev γ S with
  | none => none
  | some (d, S1) => match eo γ S1 with
    | some (.ref n, S2) => match S2[n]? with
      | some (.ins C' fs) => if C' = C ∧ fs.length < 1000 then some (.nx, γ, S2.set n (.ins C (putD f d fs))) else none
      | _ => none
    | _ => none
theorem ins_free {C dx : Addr} {ws : List (Str × V)} : Free (.ins C dx ws) := trivial
theorem ms_fld (hc : Cls X.K C) (hn : NoAttr X.K C f) (ho : ME tb X o eo) (hv : ME tb X value ev) (hs : swapsWith value (some (.Attribute o f pos')) pos.line X.env = pure false := by rfl) : MS tb X (.Assign [.Attribute o f pos'] value pos) (fldS C f eo ev) := PS.imp (ps_fld ho hv hs) fun Dn σ H h => by
  obtain ⟨m, S, γ, fl, γ', S', hS, hγ, e1, q⟩ := h
  unfold fldS at e1
  split at e1
  · cases e1
  · rename_i d S1 h1
    split at e1
    · rename_i n S2 h2
      split at e1
      · rename_i C' fs h3
        split at e1
        · rename_i hC
          obtain ⟨rfl, hl⟩ := hC
          cases e1
          refine ⟨m, S, γ, _, _, hS, hγ, h1, fun y H1 m1 x1 hS1 hy => ?_⟩
          refine ⟨m1, S1, γ, _, _, hS1, hγ.mono x1, h2, fun w H2 m2 x2 hS2 hw => ?_⟩
          rw [Rp] at hw
          obtain ⟨a, ha, rfl⟩ := hw
          obtain ⟨dx, ws, g1, g2⟩ := hS2.ins h3 ha
          refine ⟨a, _, dx, ws, rfl, g1, hc, hn, by rw [g2.len]; exact hl, ?_⟩
          have xu : Ext (kx tb X) H2 m2 (upd H2 a (.ins C' dx (putF f y ws))) m2 := Ext.upd g1 ins_free
          refine q σ _ m2 ((x1.trans x2).trans xu) (hS2.upd ha (lt_of h3) ⟨dx, _, upd_same .., ?_⟩) ((hγ.mono (x1.trans x2)).mono xu)
          exact (g2.mono xu).put f ((hy.mono x2).mono xu)
        · cases e1
      · cases e1
    · cases e1
/-- e.f += value, ints -/
def fldA (C : Addr) (f : Str) (eo ev : EvM) : SvM := fun γ S => match eo γ S with
  | some (.ref n, S1) => match S1[n]? with
    | some (.ins C' fs) => if C' = C then match fs.lookup f with
        | some (.int i) => match ev γ S1 with
          | some (.int j, S2) => match S2[n]? with
            | some (.ins C2 fs2) => if C2 = C ∧ fs2.length < 1000 then some (.nx, γ, S2.set n (.ins C (putD f (.int (i + j)) fs2))) else none
            | _ => none
          | _ => none
        | _ => none
      else none
    | _ => none
  | _ => none
theorem ms_fldA (hc : Cls X.K C) (hn : NoAttr X.K C f) (ho : ME tb X o eo) (hv : ME tb X value ev) : MS tb X (.AugAssign (.Attribute o f tpos) .Add value pos) (fldA C f eo ev) := PS.imp (ps_fldaug ho hv in_add) fun Dn σ H h => by
  obtain ⟨m, S, γ, fl, γ', S', hS, hγ, e1, q⟩ := h
  unfold fldA at e1
  split at e1
  · rename_i n S1 h1
    split at e1
    · rename_i C' fs h2
      split at e1
      · rename_i hC
        subst hC
        split at e1
        · rename_i i h3
          split at e1
          · rename_i j S2 h4
            split at e1
            · rename_i C2 fs2 h5
              split at e1
              · rename_i hC2
                obtain ⟨rfl, hl⟩ := hC2
                cases e1
                refine ⟨m, S, γ, _, _, hS, hγ, h1, fun w H1 m1 x1 hS1 hw => ?_⟩
                rw [Rp] at hw
                obtain ⟨a, ha, rfl⟩ := hw
                obtain ⟨dx, ws, g1, g2⟩ := hS1.ins h2 ha
                rcases g2.look f with ⟨z, _⟩ | ⟨d2, v, z1, z2, r⟩
                · rw [h3] at z; cases z
                · rw [h3] at z1; cases z1
                  rw [Rp] at r; subst r
                  refine ⟨a, _, dx, ws, _, rfl, g1, hc, hn, z2, m1, S1, γ, _, _, hS1, hγ.mono x1, h4, fun w H2 m2 x2 hS2 hw => ?_⟩
                  rw [Rp] at hw; subst hw
                  obtain ⟨dx2, ws2, k1, k2⟩ := hS2.ins h5 (x2.get ha)
                  refine ⟨i, j, rfl, rfl, dx2, ws2, k1, by rw [k2.len]; exact hl, ?_⟩
                  have xu : Ext (kx tb X) H2 m2 (upd H2 a (.ins C2 dx2 (putF f (.int (i + j)) ws2))) m2 := Ext.upd k1 ins_free
                  exact q σ _ m2 ((x1.trans x2).trans xu) (hS2.upd (x2.get ha) (lt_of h5) ⟨dx2, _, upd_same .., (k2.mono xu).put f (by rw [Rp])⟩) ((hγ.mono (x1.trans x2)).mono xu)
              · cases e1
            · cases e1
          · cases e1
        · cases e1
      · cases e1
    · cases e1
  · cases e1
end
section
variable {tb : List NdefX.NTab} {X : Cx} {k n : Nat} {f C : Addr} {fd : FuncData} {ps ks : List Str} {G : List D → Sto → Option (D × Sto)} {x mn : Str} {p pos apos : Pos} {e o : Expr} {es : List Expr} {eo : EvM} {ra : AvM}
/-- o.m(..) of an object of the class at C -/
def objM (C : Addr) (mn : Str) (n : Nat) (F : List D → Sto → Option (D × Sto)) (eo : EvM) (ra : AvM) : EvM := fun γ S => match eo γ S with
  | some (.ref i, S1) => match S1[i]? with
    | some (.ins C' fs) => if C' = C ∧ fs.lookup mn = none then match ra γ S1 with
        | some (xs, S2) => if xs.length + 1 = n then F (.ref i :: xs) S2 else none
        | none => none
      else none
    | _ => none
  | _ => none
theorem obj_core {K : Kx} {σ : L2.St} {H : Hp} {Q : VK} {E : XK} (h : tM K (objM C mn n G eo ra) σ H Q) : tMeth C mn (spM K n G) [] E (tM K eo) (tAM K ra) σ H Q := by
  obtain ⟨m, S, γ, d, S', hS, hγ, e1, q⟩ := h
  unfold objM at e1
  split at e1
  · rename_i i S1 h1
    split at e1
    · rename_i C' fs h2
      split at e1
      · rename_i hC
        obtain ⟨rfl, hl⟩ := hC
        split at e1
        · rename_i xs S2 h3
          split at e1
          · rename_i hn
            refine ⟨m, S, γ, _, _, hS, hγ, h1, fun w H1 m1 x1 hS1 hw => ?_⟩
            have hw0 := hw
            rw [Rp] at hw
            obtain ⟨a, ha, rfl⟩ := hw
            obtain ⟨dx, ws, g1, g2⟩ := hS1.ins h2 ha
            have gl : ws.lookup mn = none := by
              rcases g2.look mn with ⟨_, z⟩ | ⟨d2, v, z1, _⟩
              · exact z
              · rw [hl] at z1; cases z1
            refine ⟨a, dx, ws, rfl, g1, gl, m1, S1, γ, _, _, hS1, hγ.mono x1, h3, fun vs H2 m2 x2 hS2 hv => ?_⟩
            show spM K n G (V.ref a :: (vs ++ [])) H2 Q E
            rw [List.append_nil]
            exact ⟨m2, S2, _, d, S', by simpa using hn, hS2, Rps.cons (hw0.mono x2) hv, e1, fun w H3 m3 x3 => q w H3 m3 ((x1.trans x2).trans x3)⟩
          · cases e1
        · cases e1
      · cases e1
    · cases e1
  · cases e1
theorem me_obj {pl : Sem Bool} (c : Cls X.K C) (hm : Meth X.K C mn f) (F : FnOk X.prog X.w X.K X.mg X.base CX0 k f fd ps (spM (kx tb X) n G)) (hr : Room k X.A) (hb : Binds X.K fd ps []) (ho : ME tb X o eo) (ha : MA tb X (e :: es) ra) (hst : starEach (e :: es) X.env = (false, eval e X.env) :: starEach es X.env := by rfl) (hpl : (backTo pos (starEach es X.env)).any (·.1) = false := by rfl)
    (ht : eval (.Call (.Attribute o mn apos) (e :: es) [] pos) X.env = (do
      let ov ← eval o X.env
      standAt apos.atName
      let (f, first) ← holding [ov] (getMethod ov mn pl)
      callWith pos f first (backTo pos (starEach (e :: es) X.env)) (backToKw pos (keywordEach [] X.env))) := by rfl) : ME tb X (.Call (.Attribute o mn apos) (e :: es) [] pos) (objM C mn n G eo ra) :=
  PE.imp (pe_meth (pl := pl) ho c hm F hr hb .nil pass0 ha hst hpl ht) fun _ _ _ h => obj_core h
theorem me_obj0 {pl : Sem Bool} (c : Cls X.K C) (hm : Meth X.K C mn f) (F : FnOk X.prog X.w X.K X.mg X.base CX0 k f fd ps (spM (kx tb X) n G)) (hr : Room k X.A) (hb : Binds X.K fd ps []) (ho : ME tb X o eo)
    (ht : eval (.Call (.Attribute o mn apos) [] [] pos) X.env = (do
      let ov ← eval o X.env
      standAt apos.atName
      let (f, first) ← holding [ov] (getMethod ov mn pl)
      callWith pos f first (backTo pos (starEach [] X.env)) (backToKw pos (keywordEach [] X.env))) := by rfl) : ME tb X (.Call (.Attribute o mn apos) [] [] pos) (objM C mn n G eo nilA) :=
  PE.imp (pe_meth0 (pl := pl) ho c hm F hr hb .nil pass0 ht) fun σ H Q h => by
    obtain ⟨m, S, γ, d, S', hS, hγ, e1, g⟩ := obj_core (K := kx tb X) (E := E0) h
    refine ⟨m, S, γ, d, S', hS, hγ, e1, fun w H1 m1 x1 hS1 hw => ?_⟩
    obtain ⟨a, dx, fs, h1, h2, h3, m2, S2, γ2, ds, S3, k1, k2, k3, k4⟩ := g w H1 m1 x1 hS1 hw
    cases k3
    exact ⟨a, dx, fs, h1, h2, h3, k4 [] H1 m2 .refl k1 Rps.nil⟩
/-- C(..) -/
def makeM (C : Addr) (n : Nat) (F : List D → Sto → Option (D × Sto)) (ra : AvM) : EvM := fun γ S => match ra γ S with
  | some (xs, S1) => if xs.length + 1 = n then match F (.ref S1.length :: xs) (S1 ++ [.ins C []]) with
      | some (.non, S2) => some (.ref S1.length, S2)
      | _ => none
    else none
  | none => none
theorem make_core {K : Kx} {σ : L2.St} {H : Hp} {Q : VK} {E : XK} (h : tM K (makeM C n G ra) σ H Q) : tMake C (spM K n G) [] E (tAM K ra) σ H Q := by
  obtain ⟨m, S, γ, d, S', hS, hγ, e1, q⟩ := h
  unfold makeM at e1
  split at e1
  · rename_i xs S1 h1
    split at e1
    · rename_i hn
      split at e1
      · rename_i S2 h2
        cases e1
        refine ⟨m, S, γ, _, _, hS, hγ, h1, fun vs H1 m1 x1 hS1 hv x dx hx hdx hne => ?_⟩
        show spM K n G (V.ref x :: (vs ++ [])) _ _ E
        rw [List.append_nil]
        have y1 : Ext K H1 m1 (upd H1 dx (.own x)) m1 := Ext.new hdx
        have s1 : SR K (upd H1 dx (.own x)) m1 S1 := hS1.new hdx
        have hx2 : (upd H1 dx (.own x)) x = none := by rw [upd_ne (Ne.symm hne)]; exact hx
        have y2 : Ext K (upd H1 dx (.own x)) m1 (upd (upd H1 dx (.own x)) x (.ins C dx [])) (m1 ++ [x]) := Ext.newM hx2
        have s2 : SR K (upd (upd H1 dx (.own x)) x (.ins C dx [])) (m1 ++ [x]) (S1 ++ [.ins C []]) := s1.newM hx2 ⟨dx, [], upd_same .., .nil⟩
        have hxr : Rp K (upd (upd H1 dx (.own x)) x (.ins C dx [])) (m1 ++ [x]) (.ref S1.length) (.ref x) := by
          rw [Rp]; exact ⟨x, by rw [← hS1.len]; simp, rfl⟩
        refine ⟨m1 ++ [x], _, _, _, _, by simpa using hn, s2, Rps.cons hxr ((hv.mono y1).mono y2), h2, fun w H3 m3 x3 hS3 hw => ?_⟩
        rw [Rp] at hw
        exact ⟨hw, q (.ref x) H3 m3 ((x1.trans (y1.trans y2)).trans x3) hS3 (hxr.mono x3)⟩
      · cases e1
    · cases e1
  · cases e1
theorem me_make (M : Mk X.K C f) (F : FnOk X.prog X.w X.K X.mg X.base CX0 k f fd ps (spM (kx tb X) n G)) (hr : Room (k + 1) X.A) (hg : Gl X x) (hm : X.mg x = some (.ref C)) (hb : Binds X.K fd ps [])
    (ha : MA tb X (e :: es) ra) (hdb : (x == ("__debug__" : Str)) = false := by decide) (he : starEach (e :: es) X.env = (false, eval e X.env) :: starEach es X.env := by rfl) (hpl : (backTo pos (starEach es X.env)).any (·.1) = false := by rfl) :
    ME tb X (.Call (.Name x p) (e :: es) [] pos) (makeM C n G ra) := PE.imp (pe_make M F hr hg hm hb .nil pass0 ha hdb he hpl) fun _ _ _ h => make_core h
theorem me_make0 (M : Mk X.K C f) (F : FnOk X.prog X.w X.K X.mg X.base CX0 k f fd ps (spM (kx tb X) n G)) (hr : Room (k + 1) X.A) (hg : Gl X x) (hm : X.mg x = some (.ref C)) (hb : Binds X.K fd ps [])
    (hdb : (x == ("__debug__" : Str)) = false := by decide) : ME tb X (.Call (.Name x p) [] [] pos) (makeM C n G nilA) := PE.imp (pe_make0 M F hr hg hm hb .nil pass0 hdb) fun σ H Q h => by
  obtain ⟨m, S, γ, ds, S', hS, hγ, h1, q⟩ := make_core (K := kx tb X) (E := E0) h
  cases h1
  exact q [] H m .refl hS Rps.nil
end
end Ml
/-! Ml17: dicts whose keys are ints and texts; a method called by keywords -/
namespace Ml
open L2 PyProof.Rows PySem PySem.Spec
def keyD : D → Option Key
  | .int i => some (.inl i)
  | .str z => some (.inr z)
  | _ => none
def valD (kvs : List (Key × D)) (k : Key) : Option D := (kvs.find? fun kv => decide (kv.1 = k)).map (·.2)
def putKD (kvs : List (Key × D)) (k : Key) (v : D) : List (Key × D) :=
  if (kvs.any fun e => decide (e.1 = k)) = true then kvs.map (fun e => if e.1 = k then (e.1, v) else e) else kvs ++ [(k, v)]
section
variable {K : Kx} {H : Hp} {m : List Addr}
theorem keyD_ok {d : D} {v : V} {k : Key} (r : Rp K H m d v) (e : keyD d = some k) : v = kV k := by
  cases d with
  | int i => cases e; rw [Rp] at r; exact r
  | str z => cases e; rw [Rp] at r; exact r
  | non => cases e
  | bl b => cases e
  | tup xs => cases e
  | rl xs => cases e
  | ref n => cases e
  | gl n => cases e
theorem Rkv.valK {kvs : List (Key × D)} {ws : List (Key × V)} (h : Rkv K H m kvs ws) (k : Key) : (valD kvs k = none ∧ valV ws k = none) ∨ ∃ d v, valD kvs k = some d ∧ valV ws k = some v ∧ Rp K H m d v := by
  unfold Rkv at h
  induction h with
  | nil => refine .inl ⟨rfl, rfl⟩
  | @cons p q ps qs r t ih =>
    obtain ⟨e, r⟩ := r
    by_cases hk : p.1 = k
    · exact .inr ⟨p.2, q.2, by simp [valD, List.find?_cons, hk], valV_pos (e ▸ hk), r⟩
    · have hk' : ¬ q.1 = k := fun z => hk (e.trans z)
      have e1 : valD (p :: ps) k = valD ps k := by simp [valD, List.find?_cons, hk]
      rw [e1, valV_neg hk']
      exact ih
theorem Rkv.any {kvs : List (Key × D)} {ws : List (Key × V)} (h : Rkv K H m kvs ws) (k : Key) : (ws.any fun e => decide (e.1 = k)) = kvs.any fun e => decide (e.1 = k) := by
  unfold Rkv at h
  induction h with
  | nil => rfl
  | @cons p q ps qs r t ih =>
    rw [List.any_cons, List.any_cons, ih, r.1]
theorem Rkv.putK {kvs : List (Key × D)} {ws : List (Key × V)} (h : Rkv K H m kvs ws) (k : Key) {d : D} {v : V} (r : Rp K H m d v) : Rkv K H m (putKD kvs k d) (L2.putK ws k v) := by
  unfold putKD L2.putK
  rw [h.any k]
  split
  · rename_i ha
    clear ha
    unfold Rkv at h ⊢
    induction h with
    | nil => exact .nil
    | @cons p q ps qs r2 t ih =>
      refine .cons ?_ ih
      obtain ⟨e, r2⟩ := r2
      by_cases hk : p.1 = k
      · have hk2 : q.1 = k := e ▸ hk
        simp only [hk, hk2, if_true]; exact ⟨trivial, r⟩
      · have hk2 : ¬ q.1 = k := fun z => hk (e.trans z)
        simp only [hk, hk2, if_false]; exact ⟨e, r2⟩
  · unfold Rkv at h ⊢
    exact paired_snoc ⟨rfl, r⟩ h
theorem SR.dk {S : Sto} {n : Nat} {kvs : List (Key × D)} (hS : SR K H m S) (e : S[n]? = some (.dk kvs)) {a : Addr} (ha : m[n]? = some a) : ∃ ws, H a = some (.dK ws) ∧ Rkv K H m kvs ws := hS.at_ n a _ ha e
end
section
variable {tb : List NdefX.NTab} {X : Cx} {a b o i value : Expr} {ea eb eo ei ev : EvM} {pos pos' : Pos}
/-- d[k] -/
def getK : D → D → Sto → Option (D × Sto)
  | .ref n, y, S => match S[n]?, keyD y with
    | some (.dk kvs), some k => match valD kvs k with
      | some d => some (d, S)
      | none => none
    | _, _ => none
  | _, _, _ => none
theorem me_getK (hu : X.A.units + 1 < cLine) (ha : ME tb X a ea) (hb : ME tb X b eb) (hs : NoSl b := by exact fun _ _ => rfl) : ME tb X (.Subscript a b pos) (binM getK ea eb) := PE.imp (pe_dget hu ha hb hs) fun σ H Q h => by
  obtain ⟨m, S, γ, d, S', hS, hγ, e, q⟩ := h
  unfold binM at e
  split at e
  · cases e
  · rename_i x S1 h1
    split at e
    · cases e
    · rename_i y S2 h2
      refine ⟨m, S, γ, _, _, hS, hγ, h1, fun w H1 m1 x1 hS1 hw => ?_⟩
      refine ⟨m1, S1, γ, _, _, hS1, hγ.mono x1, h2, fun u H2 m2 x2 hS2 hv => ?_⟩
      unfold getK at e
      split at e
      · rename_i n
        split at e
        · rename_i kvs k h3 h4
          split at e
          · rename_i d2 h5
            cases e
            have hw2 := hw.mono x2
            rw [Rp] at hw2
            obtain ⟨c, hc, rfl⟩ := hw2
            obtain ⟨ws, g1, g2⟩ := hS2.dk h3 hc
            rcases g2.valK k with ⟨z, _⟩ | ⟨d3, v, z1, z2, r⟩
            · rw [h5] at z; cases z
            · rw [h5] at z1; cases z1
              rw [keyD_ok hv h4]
              exact ⟨c, v, rfl, by rw [← z2]; exact DGet.k g1, q v H2 m2 (x1.trans x2) hS2 r⟩
          · cases e
        · cases e
      · cases e
/-- k in d -/
def inK (neg : Bool) : D → D → Sto → Option (D × Sto)
  | y, .ref n, S => match S[n]?, keyD y with
    | some (.dk kvs), some k => some (.bl (if neg then !(valD kvs k).isSome else (valD kvs k).isSome), S)
    | _, _ => none
  | _, _, _ => none
theorem inK_core {K : Kx} {neg : Bool} {σ : L2.St} {H : Hp} {Q : VK} (h : tM K (binM (inK neg) ea eb) σ H Q) : tM K ea σ H fun y H1 => tM K eb σ H1 fun x H2 => ∃ c o, x = .ref c ∧ DGet H2 c y o ∧ Q (.bl (if neg then !o.isSome else o.isSome)) H2 := by
  obtain ⟨m, S, γ, d, S', hS, hγ, e, q⟩ := h
  unfold binM at e
  split at e
  · cases e
  · rename_i x S1 h1
    split at e
    · cases e
    · rename_i y S2 h2
      refine ⟨m, S, γ, _, _, hS, hγ, h1, fun w H1 m1 x1 hS1 hw => ?_⟩
      refine ⟨m1, S1, γ, _, _, hS1, hγ.mono x1, h2, fun u H2 m2 x2 hS2 hv => ?_⟩
      unfold inK at e
      split at e
      · rename_i n
        split at e
        · rename_i kvs k h3 h4
          cases e
          rw [Rp] at hv
          obtain ⟨c, hc, rfl⟩ := hv
          obtain ⟨ws, g1, g2⟩ := hS2.dk h3 hc
          rw [keyD_ok (hw.mono x2) h4]
          refine ⟨c, _, rfl, DGet.k g1, ?_⟩
          have : (valV ws k).isSome = (valD kvs k).isSome := by
            rcases g2.valK k with ⟨z1, z2⟩ | ⟨d3, v, z1, z2, r⟩ <;> rw [z1, z2] <;> rfl
          rw [this]
          exact fin_bl hS2 fun w H3 m3 x3 => q w H3 m3 ((x1.trans x2).trans x3)
        · cases e
      · cases e
theorem me_inK (hu : X.A.units + 1 < cLine) (ha : ME tb X a ea) (hb : ME tb X b eb) (hm : behindInMarks .In b = false := by rfl) : ME tb X (.Compare a [.In] [b] pos) (binM (inK false) ea eb) :=
  PE.imp (pe_cmp (pc_din hu ha hb) hm) fun _ _ _ h => inK_core h
theorem me_notInK (hu : X.A.units + 1 < cLine) (ha : ME tb X a ea) (hb : ME tb X b eb) (hm : behindInMarks .NotIn b = false := by rfl) : ME tb X (.Compare a [.NotIn] [b] pos) (binM (inK true) ea eb) :=
  PE.imp (pe_cmp (pc_dnotin hu ha hb) hm) fun _ _ _ h => inK_core h
theorem mt_inK (hu : X.A.units + 1 < cLine) (ha : ME tb X a ea) (hb : ME tb X b eb) (hm : behindInMarks .In b = false := by rfl) : MT tb X (.Compare a [.In] [b] pos) (tstM (binM (inK false) ea eb)) :=
  PT.imp (pt_cmp (pc_din hu ha hb) hm) fun _ _ _ h => inK_core (tst_core h)
theorem mt_notInK (hu : X.A.units + 1 < cLine) (ha : ME tb X a ea) (hb : ME tb X b eb) (hm : behindInMarks .NotIn b = false := by rfl) : MT tb X (.Compare a [.NotIn] [b] pos) (tstM (binM (inK true) ea eb)) :=
  PT.imp (pt_cmp (pc_dnotin hu ha hb) hm) fun _ _ _ h => inK_core (tst_core h)
/-- d[k] = v -/
def putS (eo ei ev : EvM) : SvM := fun γ S => match ev γ S with
  | none => none
  | some (d, S1) => match eo γ S1 with
    | some (.ref n, S2) => match ei γ S2 with
      | some (y, S3) => match S3[n]?, keyD y with
        | some (.dk kvs), some k => if kvs.length < sizeLine then some (.nx, γ, S3.set n (.dk (putKD kvs k d))) else none
        | _, _ => none
      | none => none
    | _ => none
theorem ms_putK (hu : X.A.units + 1 < cLine) (ho : ME tb X o eo) (hi : ME tb X i ei) (hv : ME tb X value ev) (hs : swapsWith value (some (.Subscript o i pos')) pos.line X.env = pure false := by rfl) : MS tb X (.Assign [.Subscript o i pos'] value pos) (putS eo ei ev) := PS.imp (ps_dput hu ho hi hv hs) fun Dn σ H h => by
  obtain ⟨m, S, γ, fl, γ', S', hS, hγ, e1, q⟩ := h
  unfold putS at e1
  split at e1
  · cases e1
  · rename_i d S1 h1
    split at e1
    · rename_i n S2 h2
      split at e1
      · rename_i y S3 h3
        split at e1
        · rename_i kvs k h4 h5
          split at e1
          · rename_i hl
            cases e1
            refine ⟨m, S, γ, _, _, hS, hγ, h1, fun v H1 m1 x1 hS1 hd => ?_⟩
            refine ⟨m1, S1, γ, _, _, hS1, hγ.mono x1, h2, fun w H2 m2 x2 hS2 hw => ?_⟩
            refine ⟨m2, S2, γ, _, _, hS2, (hγ.mono x1).mono x2, h3, fun u H3 m3 x3 hS3 hy => ?_⟩
            have hw2 := hw.mono x3
            rw [Rp] at hw2
            obtain ⟨c, hc, rfl⟩ := hw2
            obtain ⟨ws, g1, g2⟩ := hS3.dk h4 hc
            rw [keyD_ok hy h5]
            refine ⟨c, _, rfl, DPut.k g1 (by rw [g2.len]; exact hl), ?_⟩
            have xu : Ext (kx tb X) H3 m3 (upd H3 c (.dK (L2.putK ws k v))) m3 := Ext.upd g1 trivial
            have xx := (x1.trans x2).trans x3
            exact q σ _ m3 (xx.trans xu) (hS3.upd hc (lt_of h4) ⟨_, upd_same .., (g2.mono xu).putK k (((hd.mono x2).mono x3).mono xu)⟩) ((hγ.mono xx).mono xu)
          · cases e1
        · cases e1
      · cases e1
    · cases e1
/-- {} -/
def newK : EvM := fun _ S => some (.ref S.length, S ++ [.dk []])
theorem me_newK : ME tb X (.Dict [] [] pos) newK := PE.imp pe_dnewK fun σ H Q h => by
  obtain ⟨m, S, γ, d, S', hS, hγ, e, q⟩ := h
  cases e
  intro p hp
  refine q _ _ (m ++ [p]) (Ext.newM hp) (hS.newM hp ⟨[], upd_same .., .nil⟩) ?_
  rw [Rp]
  exact ⟨p, by rw [← hS.len]; simp, rfl⟩
/-- {k: v, ..} with written text keys -/
def pairsM : List (Str × EvM) → Sl → Sto → Option (List (Key × D) × Sto)
  | [], _, S => some ([], S)
  | (z, e) :: r, γ, S => match e γ S with
    | none => none
    | some (d, S1) => match pairsM r γ S1 with
      | none => none
      | some (ps, S2) => some ((.inr z, d) :: ps, S2)
def mergeKD (kvs more : List (Key × D)) : List (Key × D) := more.foldl (fun acc e => putKD acc e.1 e.2) kvs
def dispM (l : List (Str × EvM)) : EvM := fun γ S => match pairsM l γ (S ++ [.dk []]) with
  | some (ps, S1) => match S1[S.length]? with
    | some (.dk []) => if ps.length ≤ 15 then some (.ref S.length, S1.set S.length (.dk (mergeKD [] ps))) else none
    | _ => none
  | none => none
/-- the pairs' readings -/
def tPsM (K : Kx) (l : List (Str × EvM)) : List (TE × TE) := l.map fun p => (tC (.str p.1), tM K p.2)
inductive MPs (tb : List NdefX.NTab) (X : Cx) (pos : Pos) : List (Option Expr) → List Expr → List (Str × EvM) → Prop
  | nil : MPs tb X pos [] [] []
  | cons {z : Str} {q : Pos} {j : Nat} {v : Expr} {ks : List (Option Expr)} {vs : List Expr} {e : EvM} {l : List (Str × EvM)} (h : ME tb X v e) (r : MPs tb X pos ks vs l) : MPs tb X pos (some (.Constant (.str z) j q) :: ks) (v :: vs) ((z, e) :: l)
theorem MPs.pps {keys : List (Option Expr)} {values : List Expr} {l : List (Str × EvM)} (h : MPs tb X pos keys values l) : PPs X pos keys values (tPsM (kx tb X) l) := by
  induction h with
  | nil => exact pps_nil
  | cons h r ih => exact pps_cons pe_str h ih
theorem Rkv.merge {K : Kx} {H : Hp} {m : List Addr} : ∀ {more : List (Key × D)} {ms : List (Key × V)} {kvs : List (Key × D)} {ws : List (Key × V)}, Rkv K H m more ms → Rkv K H m kvs ws → Rkv K H m (mergeKD kvs more) (L2.mergeK ws ms) := by
  intro more ms kvs ws r
  unfold Rkv at r
  induction r generalizing kvs ws with
  | nil => intro h; exact h
  | @cons p q ps qs h t ih =>
    intro h0
    have : Rkv K H m (putKD kvs p.1 p.2) (L2.putK ws q.1 q.2) := by rw [← h.1]; exact h0.putK p.1 h.2
    exact ih this
theorem pairs_core {K : Kx} {γ : Sl} {σ : L2.St} : ∀ (l : List (Str × EvM)) {H : Hp} {m : List Addr} {S S' : Sto} {ps : List (Key × D)} {Q : List (V × V) → Hp → Prop}, SR K H m S → SLR K H m γ σ → pairsM l γ S = some (ps, S') →
    (∀ (ws : List (Key × V)) (H' : Hp) (m' : List Addr), Ext K H m H' m' → SR K H' m' S' → Rkv K H' m' ps ws → Q (ws.map fun e => (kV e.1, e.2)) H') → tPairs (tPsM K l) σ H Q
  | [], H, m, S, S', ps, Q, hS, hγ, e, q => by
    cases e
    exact q [] H m .refl hS .nil
  | (z, ev) :: r, H, m, S, S', ps, Q, hS, hγ, e, q => by
    unfold pairsM at e
    split at e
    · cases e
    · rename_i d S1 h1
      split at e
      · cases e
      · rename_i ps2 S2 h2
        cases e
        refine ⟨m, S, γ, _, _, hS, hγ, h1, fun v H1 m1 x1 hS1 hv => ?_⟩
        refine pairs_core r hS1 (hγ.mono x1) h2 fun ws H2 m2 x2 hS2 hw => ?_
        exact q ((.inr z, v) :: ws) H2 m2 (x1.trans x2) hS2 (.cons ⟨rfl, hv.mono x2⟩ hw)
theorem me_disp {keys : List (Option Expr)} {values : List Expr} {l : List (Str × EvM)} (h : MPs tb X pos keys values l) (hall : keys.all (·.isSome) = true := by rfl) (hl : keys.length = values.length := by rfl) (h0 : keys ≠ [] := by exact List.cons_ne_nil _ _)
    (h15 : keys.length ≤ 15 := by decide) : ME tb X (.Dict keys values pos) (dispM l) := PE.imp (pe_disp h.pps hall hl h0 h15) fun σ H Q hq => by
  obtain ⟨m, S, γ, d, S', hS, hγ, e, q⟩ := hq
  unfold dispM at e
  split at e
  · rename_i ps S1 h1
    split at e
    · rename_i h2
      split at e
      · rename_i h3
        cases e
        intro p hp
        have y0 : Ext (kx tb X) H m (upd H p (.dK [])) (m ++ [p]) := Ext.newM hp
        have s0 : SR (kx tb X) (upd H p (.dK [])) (m ++ [p]) (S ++ [.dk []]) := hS.newM hp ⟨[], upd_same .., .nil⟩
        refine pairs_core l s0 (hγ.mono y0) h1 fun ws H2 m2 x2 hS2 hw => ?_
        have hp0 : (m ++ [p])[S.length]? = some p := by rw [← hS.len]; simp
        have hp2 := x2.get hp0
        obtain ⟨ws0, g1, g2⟩ := hS2.dk h2 hp2
        cases g2
        refine ⟨g1, ws, rfl, by rw [hw.len]; exact h3, ?_⟩
        have xu : Ext (kx tb X) H2 m2 (upd H2 p (.dK (L2.mergeK [] ws))) m2 := Ext.upd g1 trivial
        refine q _ _ m2 ((y0.trans x2).trans xu) (hS2.upd hp2 (lt_of h2) ⟨_, upd_same .., (hw.mono xu).merge .nil⟩) ?_
        rw [Rp]
        exact ⟨p, hp2, rfl⟩
      · cases e
    · cases e
  · cases e
end
section
variable {tb : List NdefX.NTab} {X : Cx} {k n na : Nat} {f C : Addr} {fd : FuncData} {ps ks : List Str} {is : List Nat} {G : List D → Sto → Option (D × Sto)} {mn : Str} {pos apos : Pos} {o : Expr} {kws : List Keyword} {eo : EvM} {rk : AvM}
/-- o.m(k = v, ..) -/
def objKM (C : Addr) (mn : Str) (nk n : Nat) (is : List Nat) (F : List D → Sto → Option (D × Sto)) (eo : EvM) (rk : AvM) : EvM := fun γ S => match eo γ S with
  | some (.ref i, S1) => match S1[i]? with
    | some (.ins C' fs) => if C' = C ∧ fs.lookup mn = none then match rk γ S1 with
        | some (ys, S2) => if ys.length = nk ∧ (permL is ys).length + 1 = n then F (.ref i :: permL is ys) S2 else none
        | none => none
      else none
    | _ => none
  | _ => none
theorem me_objK {pl : Sem Bool} (c : Cls X.K C) (hm : Meth X.K C mn f) (F : FnOk X.prog X.w X.K X.mg X.base CX0 k f fd ps (spM (kx tb X) n G)) (hr : Room k X.A) (hb : KBind fd ps ks 1 is) (ho : ME tb X o eo) (hkw : MK tb X kws rk)
    (hall : (backToKw pos (keywordEach kws X.env)).all (·.1.isSome) = true := by rfl) (hks : (backToKw pos (keywordEach kws X.env)).filterMap (·.1) = ks := by rfl)
    (hpl : ((backTo pos (starEach [] X.env)).any (·.1) || (backToKw pos (keywordEach kws X.env)).any (·.1.isNone)) = false := by rfl)
    (ht : eval (.Call (.Attribute o mn apos) [] kws pos) X.env = (do
      let ov ← eval o X.env
      standAt apos.atName
      let (f, first) ← holding [ov] (getMethod ov mn pl)
      callWith pos f first (backTo pos (starEach [] X.env)) (backToKw pos (keywordEach kws X.env))) := by rfl) : ME tb X (.Call (.Attribute o mn apos) [] kws pos) (objKM C mn ks.length n is G eo rk) := by
  refine .mk fun pins s σ H Q I h => ?_
  obtain ⟨m, S, γ, d, S', hS, hγ, e1, q⟩ := h
  unfold objKM at e1
  split at e1
  · rename_i i S1 h1
    split at e1
    · rename_i C' fs h2
      split at e1
      · rename_i hC
        obtain ⟨rfl, hl⟩ := hC
        split at e1
        · rename_i ys S2 h3
          split at e1
          · rename_i hn
            refine PySem.W.methodCall_KW (pl := pl) (thn (ho.run pins s σ H (fun w H1 => ∃ m1, Ext (kx tb X) H m H1 m1 ∧ SR (kx tb X) H1 m1 S1 ∧ Rp (kx tb X) H1 m1 (.ref i) w) I ⟨m, S, γ, _, S1, hS, hγ, h1, fun w H1 m1 x1 hS1 hw => ⟨m1, x1, hS1, hw⟩⟩) fun u s1 hq => ?_) ht
            obtain ⟨w, H1, I1, rx, m1, x1, hS1, hw⟩ := hq
            have hw0 := hw
            rw [Rp] at hw
            obtain ⟨a, ha, rfl⟩ := hw
            obtain rfl : u = Value.ref a := rx; obtain ⟨dx, ws, g1, g2⟩ := hS1.ins h2 ha
            have gl : ws.lookup mn = none := by
              rcases g2.look mn with ⟨_, z⟩ | ⟨d2, v, z1, _⟩
              · exact z
              · rw [hl] at z1; cases z1
            refine getmeth_ok I1 g1 c hm gl ?_
            refine PySem.W.callWith_KW0 (first := [.ref a]) (h₀ := X.base) I1.ok.mod.kin hm.kp hall ?_ hpl
            refine thn (hkw.run pos pins s1 σ H1 (fun zs H2 => ∃ m2, Ext (kx tb X) H1 m1 H2 m2 ∧ SR (kx tb X) H2 m2 S2 ∧ Rps (kx tb X) H2 m2 ys zs) I1 ⟨m1, S1, γ, ys, S2, hS1, hγ.mono x1, h3, fun vs H2 m2 x2 hS2 hz => ⟨m2, x2, hS2, hz⟩⟩) fun vs s2 hq => ?_
            obtain ⟨zs, H2, I2, rz, m2, x2, hS2, hz⟩ := hq
            refine ⟨I2.kIn, ?_⟩
            rw [hks]
            refine run_kw (us := [.ref a]) (vs := [.ref a]) F hr hb I2 (.cons rfl .nil) rz rfl (by rw [← rz.length, hz.length]; exact hn.1) ?_
            exact ⟨m2, S2, _, d, S', by simpa using hn.2, hS2, Rps.cons (hw0.mono x2) (hz.perm is), e1, fun y H3 m3 x3 => q y H3 m3 (x1.trans (x2.trans x3))⟩
          · cases e1
        · cases e1
      · cases e1
    · cases e1
  · cases e1
end
end Ml
/-! Ml18: a walk over a dict of int and text keys; chains; is True; isinstance of several; insert, pop(i) -/
namespace Ml
open L2 PyProof.Rows PySem PySem.Spec
open Classical
section
variable {tb : List NdefX.NTab} {X : Cx} {K : Kx} {e tg iter : Expr} {ed ee : EvM} {σ : L2.St} {H : Hp} {m : List Addr} {S : Sto} {n : Nat} {a : Addr} {od : Obj} {kvs : List (Key × D)} {ws : List (Key × V)}
theorem srK_lock (hS : SR K H m S) (e : S[n]? = some (.dk kvs)) (hm : m[n]? = some a) (h : H a = some (.dK ws)) (r : Rkv K H m kvs ws) : SR K (upd H a (.frz od (.dK ws))) m (S.set n (.dkl kvs)) :=
  hS.upd hm (lt_of e) ⟨od, ws, upd_same .., r.mono (.upd h trivial)⟩
theorem srK_unlock (hS : SR K H m S) (e : S[n]? = some (.dkl kvs)) (hm : m[n]? = some a) (h : H a = some (.frz od (.dK ws))) : SR K (upd H a (.dK ws)) m (S.set n (.dk kvs)) := by
  obtain ⟨a', h1, od2, ws2, h2, r⟩ := hS.addr e
  rw [hm] at h1; cases h1
  rw [h] at h2; cases h2
  exact hS.upd hm (lt_of e) ⟨ws, upd_same .., r.mono0 (Ext0.upd h trivial)⟩
theorem walks_dk {H0 : Hp} {m0 : List Addr} (h1 : H0 a = some (.frz od (.dK ws))) (h2 : Rkv K H0 m0 kvs ws) : Walks K (Itk a od ws) H0 m0 (some (n, .dkl kvs)) (kvs.map fun e => match e.1 with | .inl i => .int i | .inr z => .str z) where
  go := fun H m S i x hS hc hi => by
    have hi : i < kvs.length := by simpa using hi
    have hl : ws.length = kvs.length := h2.len
    refine ⟨⟨x.frz _ _ _ h1, by omega⟩, fun y H' q => ?_⟩
    obtain ⟨rfl, k, v, hz, rfl⟩ := q
    have hk : kvs[i]? = some kvs[i] := List.getElem?_eq_getElem hi
    obtain ⟨b, hb, e1, _⟩ := paired_get h2 hk
    rw [hb] at hz; cases hz
    refine ⟨_, by rw [List.getElem?_map, hk]; rfl, .refl, hS, ?_⟩
    have e1 : kvs[i].1 = k := e1
    dsimp only
    rw [e1]
    cases k with
    | inl j => show Rp _ _ _ (.int j) _; rw [Rp]; rfl
    | inr z => show Rp _ _ _ (.str z) _; rw [Rp]; rfl
  stop := fun H m S x hS hc => ⟨x.frz _ _ _ h1, by
    have hl : ws.length = kvs.length := h2.len
    rw [List.length_map]; omega⟩
def keyOf : Key → D
  | .inl i => .int i
  | .inr z => .str z
def keysK (ed : EvM) : IvM := fun γ S => match ed γ S with
  | some (.ref n, S') => match S'[n]? with
    | some (.dkl kvs) => some (some (n, .dkl kvs), kvs.map (fun e => match e.1 with | .inl i => .int i | .inr z => .str z), S')
    | _ => none
  | _ => none
theorem mi_keysK (he : ME tb X iter ed) : MI tb X tg iter (keysK ed) := PI.imp (pi_keys he) fun σ H R hq => by
  obtain ⟨m, S, γ, ck, ds, S', hS, hγ, e1, q⟩ := hq
  unfold keysK at e1
  split at e1
  · rename_i n S1 h1
    split at e1
    · rename_i kvs h2
      cases e1
      refine ⟨m, S, γ, _, _, hS, hγ, h1, fun v H1 m1 x1 hS1 hv => ?_⟩
      rw [Rp] at hv
      obtain ⟨a, ha, rfl⟩ := hv
      obtain ⟨od, ws, h4, h5⟩ := hS1.at_ n a _ ha h2
      exact ⟨a, od, rfl, .inl ⟨ws, h4, q _ H1 m1 x1 hS1 (walks_dk h4 h5)⟩⟩
    · cases e1
  · cases e1
def lockKM (i : Nat) (e : EvM) : EvM := fun γ S => match γ[i]? with
  | some (some (.ref n)) => match S[n]? with
    | some (.dk kvs) => match e γ (S.set n (.dkl kvs)) with
      | some (d, S1) => match S1[n]? with
        | some (.dkl kvs') => some (d, S1.set n (.dk kvs'))
        | _ => none
      | none => none
    | _ => none
  | _ => none
def lockKS (i : Nat) (e : SvM) : SvM := fun γ S => match γ[i]? with
  | some (some (.ref n)) => match S[n]? with
    | some (.dk kvs) => match e γ (S.set n (.dkl kvs)) with
      | some (d, γ1, S1) => match S1[n]? with
        | some (.dkl kvs') => some (d, γ1, S1.set n (.dk kvs'))
        | _ => none
      | none => none
    | _ => none
  | _ => none
theorem me_lockK (i : Nat) (h : ME tb X e ee) : ME tb X e (lockKM i ee) := PE.imp (pe_lock h) fun σ H Q hq => by
  obtain ⟨m, S, γ, d, S', hS, hγ, e1, q⟩ := hq
  unfold lockKM at e1
  split at e1
  · rename_i n h1
    split at e1
    · rename_i kvs h2
      split at e1
      · rename_i d1 S1 h3
        split at e1
        · rename_i kvs' h4
          cases e1
          obtain ⟨a, h5, ws, h6, h7⟩ := hS.addr h2
          refine ⟨a, _, h6, trivial, fun od => ?_⟩
          refine ⟨m, _, γ, _, _, srK_lock hS h2 h5 h6 h7, hγ.mono (.upd h6 trivial), h3, fun w H1 m1 x1 hS1 hw => ?_⟩
          have h8 := x1.frz _ _ _ upd_same
          exact ⟨h8, q w _ m1 (.unlock h6 trivial trivial x1) (srK_unlock hS1 h4 (x1.get h5) h8) (hw.mono0 (Ext0.upd h8 trivial))⟩
        · cases e1
      · cases e1
    · cases e1
  · cases e1
theorem ms_lockK {st : Stmt} {ss : SvM} (i : Nat) (h : MS tb X st ss) : MS tb X st (lockKS i ss) := PS.imp (ps_lock h) fun Dn σ H hq => by
  obtain ⟨m, S, γ, f, γ', S', hS, hγ, e1, q⟩ := hq
  unfold lockKS at e1
  split at e1
  · rename_i n h1
    split at e1
    · rename_i kvs h2
      split at e1
      · rename_i f1 γ1 S1 h3
        split at e1
        · rename_i kvs' h4
          cases e1
          obtain ⟨a, h5, ws, h6, h7⟩ := hS.addr h2
          refine ⟨a, _, h6, trivial, fun od => ?_⟩
          refine ⟨m, _, γ, _, _, _, srK_lock hS h2 h5 h6 h7, hγ.mono (.upd h6 trivial), h3, ?_⟩
          have up : ∀ H1 m1, Ext (kx tb X) (upd H a (.frz od (.dK ws))) m H1 m1 → H1 a = some (.frz od (.dK ws)) := fun H1 m1 x => x.frz _ _ _ upd_same
          have hz : ∀ {H1 m1 σ1}, SLR (kx tb X) H1 m1 γ' σ1 → H1 a = some (.frz od (.dK ws)) → SLR (kx tb X) (upd H1 a (.dK ws)) m1 γ' σ1 :=
            fun hg h8 => ⟨hg.len, fun i d q => let ⟨v, a, b⟩ := hg.at_ i d q; ⟨v, a, b.mono0 (Ext0.upd h8 trivial)⟩⟩
          cases f with
          | nx => exact fun σ1 H1 m1 x1 hS1 hγ1 => ⟨up _ _ x1, q σ1 _ m1 (.unlock h6 trivial trivial x1) (srK_unlock hS1 h4 (x1.get h5) (up _ _ x1)) (hz hγ1 (up _ _ x1))⟩
          | bk => exact fun σ1 H1 m1 x1 hS1 hγ1 => ⟨up _ _ x1, q σ1 _ m1 (.unlock h6 trivial trivial x1) (srK_unlock hS1 h4 (x1.get h5) (up _ _ x1)) (hz hγ1 (up _ _ x1))⟩
          | ct => exact fun σ1 H1 m1 x1 hS1 hγ1 => ⟨up _ _ x1, q σ1 _ m1 (.unlock h6 trivial trivial x1) (srK_unlock hS1 h4 (x1.get h5) (up _ _ x1)) (hz hγ1 (up _ _ x1))⟩
          | rt d => exact fun w H1 m1 x1 hS1 hw => ⟨up _ _ x1, q w _ m1 (.unlock h6 trivial trivial x1) (srK_unlock hS1 h4 (x1.get h5) (up _ _ x1)) (hw.mono0 (Ext0.upd (up _ _ x1) trivial))⟩
        · cases e1
      · cases e1
    · cases e1
  · cases e1
end
section
variable {tb : List NdefX.NTab} {X : Cx} {K : Kx} {a b c e : Expr} {ea eb ec : EvM} {pos : Pos}
/-! ### a op b op c -/
def chainM (F G : D → D → Sto → Option (D × Sto)) (ea eb ec : EvM) : EvM := fun γ S => match ea γ S with
  | none => none
  | some (x, S1) => match eb γ S1 with
    | none => none
    | some (y, S2) => match F x y S2 with
      | some (.bl false, S3) => some (.bl false, S3)
      | some (.bl true, S3) => match ec γ S3 with
        | some (z, S4) => G y z S4
        | none => none
      | _ => none
theorem chain_core {F G : D → D → Sto → Option (D × Sto)} {r r' : R2} (hF : FOk2 K F r) (hG : FOk2 K G r') {σ : L2.St} {H : Hp} {Q : VK} (h : tM K (chainM F G ea eb ec) σ H Q) : tChain r r' (tM K ea) (tM K eb) (tM K ec) σ H Q := by
  obtain ⟨m, S, γ, d, S', hS, hγ, e1, q⟩ := h
  unfold chainM at e1
  split at e1
  · cases e1
  · rename_i x S1 h1
    split at e1
    · cases e1
    · rename_i y S2 h2
      refine ⟨m, S, γ, _, _, hS, hγ, h1, fun v H1 m1 x1 hS1 hv => ?_⟩
      refine ⟨m1, S1, γ, _, _, hS1, hγ.mono x1, h2, fun u H2 m2 x2 hS2 hu => ?_⟩
      split at e1
      · rename_i S3 h3
        cases e1
        refine hF _ _ _ _ _ h3 H2 m2 v u _ hS2 (hv.mono x2) hu fun w H3 m3 x3 hS3 hw => ?_
        rw [Rp] at hw; subst hw
        refine ⟨false, rfl, ?_⟩
        rw [if_neg (by decide)]
        exact q _ H3 m3 ((x1.trans x2).trans x3) hS3 (by rw [Rp])
      · rename_i S3 h3
        split at e1
        · rename_i z S4 h4
          refine hF _ _ _ _ _ h3 H2 m2 v u _ hS2 (hv.mono x2) hu fun w H3 m3 x3 hS3 hw => ?_
          rw [Rp] at hw; subst hw
          refine ⟨true, rfl, ?_⟩
          rw [if_pos rfl]
          refine ⟨m3, S3, γ, _, _, hS3, hγ.mono ((x1.trans x2).trans x3), h4, fun t H4 m4 x4 hS4 ht => ?_⟩
          exact hG _ _ _ _ _ e1 H4 m4 u t Q hS4 (hu.mono (x3.trans x4)) ht fun w H5 m5 x5 => q w H5 m5 (((x1.trans x2).trans x3).trans (x4.trans x5))
        · cases e1
      · cases e1
theorem me_chain {op op' : CmpOp} {F G : D → D → Sto → Option (D × Sto)} {r r' : R2} (ho : OpR X (compareOp op) r) (hF : FOk2 (kx tb X) F r) (ho' : OpR X (compareOp op') r') (hG : FOk2 (kx tb X) G r') (ha : ME tb X a ea) (hb : ME tb X b eb) (hc : ME tb X c ec)
    (hm : lastMarks [op, op'] [b, c] = false := by with_unfolding_all rfl) : ME tb X (.Compare a [op, op'] [b, c] pos) (chainM F G ea eb ec) := PE.imp (pe_chain ho ho' ha hb hc hm) fun _ _ _ h => chain_core hF hG h
theorem mt_chain {op op' : CmpOp} {F G : D → D → Sto → Option (D × Sto)} {r r' : R2} (ho : OpR X (compareOp op) r) (hF : FOk2 (kx tb X) F r) (ho' : OpR X (compareOp op') r') (hG : FOk2 (kx tb X) G r') (ha : ME tb X a ea) (hb : ME tb X b eb) (hc : ME tb X c ec)
    (hm : lastMarks [op, op'] [b, c] = false := by with_unfolding_all rfl) : MT tb X (.Compare a [op, op'] [b, c] pos) (tstM (chainM F G ea eb ec)) := PT.imp (pt_chain ho ho' ha hb hc hm) fun _ _ _ h => chain_core hF hG (tst_core h)
/-! ### is True, is None -/
def sameD : D → D → Option Bool
  | .bl a, .bl b => some (decide (a = b))
  | _, _ => none
def isB (neg : Bool) : D → D → Sto → Option (D × Sto) := fun x y S => match sameD x y with
  | some b => some (.bl (if neg then !b else b), S)
  | none => none
theorem isB_ok : FOk2 K (isB false) (fun x y H Q => ∃ a b, x = .bl a ∧ y = .bl b ∧ Q (.bl (decide (a = b))) H) := by
  intro x y S d S' e H m vx vy Q hS hx hy q
  unfold isB sameD at e
  cases x <;> cases y <;> simp at e
  obtain ⟨rfl, rfl⟩ := e
  rw [Rp] at hx hy
  subst hx; subst hy
  exact ⟨_, _, rfl, rfl, fin_bl hS q⟩
theorem isNB_ok : FOk2 K (isB true) (fun x y H Q => ∃ a b, x = .bl a ∧ y = .bl b ∧ Q (.bl (!decide (a = b))) H) := by
  intro x y S d S' e H m vx vy Q hS hx hy q
  unfold isB sameD at e
  cases x <;> cases y <;> simp at e
  obtain ⟨rfl, rfl⟩ := e
  rw [Rp] at hx hy
  subst hx; subst hy
  refine ⟨_, _, rfl, rfl, fin_bl hS ?_⟩
  simpa using q
/-! ### what cannot be told -/
theorem me_void : ME tb X e (fun _ _ => none) := ⟨fun pins s σ H Q I h => by
  obtain ⟨m, S, γ, d, S', hS, hγ, e1, q⟩ := h
  cases e1⟩
theorem mt_void : MT tb X e (fun _ _ => none) := ⟨fun pins s σ H Q I h => by
  obtain ⟨m, S, γ, d, S', hS, hγ, e1, q⟩ := h
  cases e1⟩
theorem mw_void : MW tb X e (fun _ _ => none) := ⟨fun wh pins s σ H Q I h => by
  obtain ⟨m, S, γ, d, S', hS, hγ, e1, q⟩ := h
  cases e1⟩
theorem ms_void {st : Stmt} : MS tb X st (fun _ _ => none) := ⟨fun pins s σ H D I h => by
  obtain ⟨m, S, γ, f, γ', S', hS, hγ, e1, q⟩ := h
  cases e1⟩
theorem mss_void {sts : List Stmt} : MSs tb X sts (fun _ _ => none) := ⟨fun pins s σ H D I h => by
  obtain ⟨m, S, γ, f, γ', S', hS, hγ, e1, q⟩ := h
  cases e1⟩
/-! ### xs.insert(i, x), xs.pop(i) -/
def insertF : D → List D → Sto → Option (D × Sto)
  | .ref n, [.int i, y], S => match S[n]? with
    | some (.lst xs) => if xs.length < sizeLine ∧ 0 ≤ i ∧ i < 2 ^ 63 then some (.non, S.set n (.lst (xs.take i.toNat ++ [y] ++ xs.drop i.toNat))) else none
    | _ => none
  | _, _, _ => none
theorem insertF_ok : FOkM K insertF (fun x vs H Q => ∃ (l : Addr) (xs : List V) (i : Int) (y : V), x = .ref l ∧ vs = [.int i, y] ∧ H l = some (.lst xs) ∧ xs.length < sizeLine ∧ 0 ≤ i ∧ i < 2 ^ 63 ∧ Q .non (upd H l (.lst (xs.take i.toNat ++ [y] ++ xs.drop i.toNat)))) := by
  intro x xs S d S' e H m vx vs Q hS hx hxs q
  unfold insertF at e
  split at e
  · rename_i n i y
    split at e
    · rename_i zs h1
      split at e
      · rename_i hz
        cases e
        simp only [Rp] at hx
        obtain ⟨a, ea, rfl⟩ := hx
        rw [Rps] at hxs
        obtain ⟨v1, r1, rfl, hv1, hr⟩ := hxs
        rw [Rp] at hv1; subst hv1
        obtain ⟨v, rfl, hy⟩ := hr.one_iff
        obtain ⟨a', ws, m1, k1, r1⟩ := hS.lst h1
        rw [ea] at m1; cases m1
        refine ⟨a, ws, i, v, rfl, rfl, k1, by rw [r1.length]; exact hz.1, hz.2.1, hz.2.2, ?_⟩
        have hv2 : Rps K H m (zs.take i.toNat ++ [y] ++ zs.drop i.toNat) (ws.take i.toNat ++ [v] ++ ws.drop i.toNat) := ((r1.take _).append (Rps.one hy)).append (r1.drop _)
        exact fin_set hS ea k1 (lt_of h1) hv2 (by rw [Rp]) q
      · cases e
    · cases e
  · cases e
def popAtF : D → List D → Sto → Option (D × Sto)
  | .ref n, [.int i], S => match S[n]? with
    | some (.lst xs) => if 0 ≤ i ∧ i < 2 ^ 63 then match xs[i.toNat]? with
        | some y => some (y, S.set n (.lst (xs.eraseIdx i.toNat)))
        | none => none
      else none
    | _ => none
  | _, _, _ => none
theorem Rps.erase {H : Hp} {m : List Addr} : ∀ (n : Nat) {xs : List D} {vs : List V}, Rps K H m xs vs → Rps K H m (xs.eraseIdx n) (vs.eraseIdx n)
  | n, [], vs, h => by rw [Rps] at h; subst h; simpa using Rps.nil
  | 0, x :: xs, vs, h => by
    rw [Rps] at h
    obtain ⟨w, r, rfl, s, t⟩ := h
    simpa using t
  | n + 1, x :: xs, vs, h => by
    rw [Rps] at h
    obtain ⟨w, r, rfl, s, t⟩ := h
    simpa using Rps.cons s (Rps.erase n t)
theorem popAtF_ok : FOkM K popAtF rPopAt := by
  intro x xs S d S' e H m vx vs Q hS hx hxs q
  unfold popAtF at e
  split at e
  · rename_i n i
    split at e
    · rename_i zs h1
      split at e
      · rename_i hz
        split at e
        · rename_i y h2
          cases e
          simp only [Rp] at hx
          obtain ⟨a, ea, rfl⟩ := hx
          obtain ⟨v, rfl, hy⟩ := hxs.one_iff
          rw [Rp] at hy; subst hy
          obtain ⟨a', ws, m1, k1, r1⟩ := hS.lst h1
          rw [ea] at m1; cases m1
          obtain ⟨w, hw, rw'⟩ := r1.get h2
          have hl : i.toNat < ws.length := lt_of hw
          refine ⟨a, ws, i, i.toNat, w, rfl, rfl, k1, by omega, hz.2, ?_, hw, fin_set hS ea k1 (lt_of h1) (r1.erase _) rw' q⟩
          unfold seqIndex?
          have h0 : ¬ i < 0 := by omega
          simp only [if_neg h0]
          have h9 : (decide (0 ≤ i) && decide (i < (ws.length : Int))) = true := by simp; omega
          simp only [h9, if_true]
        · cases e
      · cases e
    · cases e
  · cases e
/-! ### the script, gone through -/
def rlI (e : EvM) : IvM := fun γ S => match e γ S with
  | some (.rl xs, S') => some (none, xs, S')
  | _ => none
theorem walks_rl {K : Kx} {H0 : Hp} {m0 : List Addr} {xs : List D} {a : Addr} {vs : List V} (ha : RoL K.f H0 a vs) (hv : Rps K H0 m0 xs vs) : Walks K (Itl K.f a) H0 m0 none xs where
  go := fun H m S i x hS _ hi => by
    obtain ⟨v, h1, h2⟩ := hv.get (List.getElem?_eq_getElem hi)
    have hl := (x.rol _ _ ha).sq
    refine ⟨⟨vs, v, hl, h1⟩, fun y H' q => ?_⟩
    obtain ⟨rfl, q⟩ := q
    have e := q vs hl
    rw [h1] at e; cases e
    exact ⟨_, List.getElem?_eq_getElem hi, .refl, hS, h2.mono x⟩
  stop := fun H m S x hS _ => ⟨vs, (x.rol _ _ ha).sq, by rw [hv.length]; exact Nat.le_refl _⟩
theorem mi_rl {tg iter : Expr} (he : ME tb X iter ea) : MI tb X tg iter (rlI ea) := by
  refine ⟨fun pins s σ H R I hq => ?_⟩
  obtain ⟨m, S, γ, ck, xs, S', hS, hγ, e1, q⟩ := hq
  unfold rlI at e1
  split at e1
  · rename_i ys S1 h1
    cases e1
    refine (pi_list he).run pins s σ H R I ⟨m, S, γ, _, _, hS, hγ, h1, fun w H1 m1 x1 hS1 hw => ?_⟩
    rw [Rp] at hw
    obtain ⟨a, vs, rfl, ha, hv⟩ := hw
    exact ⟨a, rfl, ⟨vs, ha.sq⟩, q _ H1 m1 x1 hS1 (walks_rl ha hv)⟩
  · cases e1
end
end Ml
set_option maxHeartbeats 1000000 -- wide
/-! Ml19: defs as values: a def of the module by its name; a def within a def, handed on and called there -/
namespace Ml
open L2 PyProof.Rows PySem PySem.Spec
section
variable {tb : List NdefX.NTab} {X : Cx} {pos p : Pos} {x : Str} {e : Expr} {es : List Expr} {ra : AvM}
/-- a def of the module as a value -/
theorem me_gl {z : Str} {f : Addr} (hg : Gl X z) (hm : X.mg z = some (.ref f)) (hn : PySem.W.nsIn X.K mainGlobals z = some (some (.ref f))) (hd : (z == ("__debug__" : Str)) = false := by decide) : ME tb X (.Name z pos) (conM (.gl z)) :=
  me_con (pe_glob (v := .ref f) hg hm rfl hd) fun H m => by rw [Rp]; exact ⟨f, rfl, hn⟩
/-- a local name that holds one of these defs is called -/
def callGM (i n : Nat) (cands : Str → Option (List D → Sto → Option (D × Sto))) (ra : AvM) : EvM := fun γ S => match γ[i]? with
  | some (some (.gl z)) => match cands z with
    | some G => match ra γ S with
      | some (xs, S1) => if xs.length = n then G xs S1 else none
      | none => none
    | none => none
  | _ => none
theorem me_callG {k i n : Nat} {cands : Str → Option (List D → Sto → Option (D × Sto))}
    (C : ∀ z G, cands z = some G → ∃ (f : Addr) (fd : FuncData) (ps : List Str), FnOk X.prog X.w X.K X.mg X.base CX0 k f fd ps (spM (kx tb X) n G) ∧ PySem.W.nsIn X.K mainGlobals z = some (some (.ref f)) ∧ PySem.W.keepIn X.K (.ref f) = true ∧ Binds X.K fd ps [])
    (hr : Room k X.A) (hN : X.N[i]? = some x) (hv : Vis X.env.scope x) (ha : MA tb X (e :: es) ra)
    (hdb : (x == ("__debug__" : Str)) = false := by decide) (hcd : (x == ("__classdict__" : Str)) = false := by decide) (he : starEach (e :: es) X.env = (false, eval e X.env) :: starEach es X.env := by rfl) (hpl : (backTo pos (starEach es X.env)).any (·.1) = false := by rfl) :
    ME tb X (.Call (.Name x p) (e :: es) [] pos) (callGM i n cands ra) := by
  refine .mk fun pins s σ H Q I h => ?_
  obtain ⟨m, S, γ, d, S', hS, hγ, e1, q⟩ := h
  unfold callGM at e1
  split at e1
  · rename_i z h1
    split at e1
    · rename_i G h2
      split at e1
      · rename_i xs S1 h3
        split at e1
        · rename_i hl
          obtain ⟨f, fd, ps, F, hn, hk, hb⟩ := C z G h2
          obtain ⟨v, hs, rv⟩ := hγ.at_ i _ h1
          rw [Rp] at rv
          obtain ⟨f', rfl, hn'⟩ := rv
          rw [hn] at hn'
          cases hn'
          refine (pe_callL (i := i) (f := f) (dvs := []) (E := E0) F hr hN hv hk hb .nil pass0 ha hdb hcd he hpl).run pins s σ H Q I ⟨hs, ?_⟩
          refine ⟨m, S, γ, xs, S1, hS, hγ, h3, fun vs H1 m1 x1 hS1 hv => ?_⟩
          show spM (kx tb X) n G (vs ++ []) H1 Q E0
          rw [List.append_nil]
          exact ⟨m1, S1, xs, d, S', hl, hS1, hv, e1, fun w H2 m2 x2 => q w H2 m2 (x1.trans x2)⟩
        · cases e1
      · cases e1
    · cases e1
  · cases e1
/-! ### a def within a def: what it promises, how it is called -/
/-- its promise: the captured values stand behind the arguments -/
def NokM (P : Program) (w : World) (K : PySem.W.Frag) (mg : Str → Option Value) (base : Heap) (tb : List NdefX.NTab) (k : Nat) (nd : NDef) (G : List D → Sto → Option (D × Sto)) : Prop :=
  ∀ (cl : List (Str × Addr)) (c f : Addr), NdefX.NOk P w K mg base CX0 k f (nd.nf cl c) nd.ps nd.fr fun ws vs H Q E => ∃ vs2 : List V, ws = vs2.map some ∧ vs.length = nd.ps.length ∧ vs2.length = nd.fr.length ∧ spM ⟨K, P, w, base, tb⟩ (nd.ps.length + nd.fr.length) G (vs ++ vs2) H Q E
open Classical in
/-- a local name that holds a def made within a def is called -/
noncomputable def callNM (i : Nat) (tab : Nat → Option NDef) (G : Nat → List D → Sto → Option (D × Sto)) (ra : AvM) : EvM := fun γ S => match γ[i]? with
  | some (some (.ref n)) => match S[n]? with
    | some (.fn _ _ _) => match ra γ S with
      | some (xs, S1) => match S1[n]? with
        | some (.fn id nd ws) => if tab id = some nd ∧ xs.length = nd.ps.length ∧ ws.length = nd.fr.length then G id (xs ++ ws) S1 else none
        | _ => none
      | none => none
    | _ => none
  | _ => none
theorem me_callN {k i : Nat} {tab : Nat → Option NDef} {G : Nat → List D → Sto → Option (D × Sto)} (C : ∀ id nd, tab id = some nd → NokM X.prog X.w X.K X.mg X.base tb k nd (G id))
    (hr : Room k X.A) (hN : X.N[i]? = some x) (hv : Vis X.env.scope x) (ha : MA tb X (e :: es) ra)
    (hdb : (x == ("__debug__" : Str)) = false := by decide) (hcd : (x == ("__classdict__" : Str)) = false := by decide) (he : starEach (e :: es) X.env = (false, eval e X.env) :: starEach es X.env := by rfl) (hpl : (backTo pos (starEach es X.env)).any (·.1) = false := by rfl) :
    ME tb X (.Call (.Name x p) (e :: es) [] pos) (callNM i tab G ra) := by
  refine .mk fun pins s σ H Q I h => ?_
  obtain ⟨m, S, γ, d, S', hS, hγ, e1, q⟩ := h
  unfold callNM at e1
  split at e1
  · rename_i n h1
    split at e1
    · rename_i id0 nd0 ws0 h2
      split at e1
      · rename_i xs S1 h3
        split at e1
        · rename_i id nd ws h4
          split at e1
          · rename_i hl
            obtain ⟨v, hs, rv⟩ := hγ.at_ i _ h1
            rw [Rp] at rv
            obtain ⟨f, hm, rfl⟩ := rv
            obtain ⟨cl0, c0, vs0, f0, _⟩ := hS.at_ n f _ hm h2
            refine wpAny_Call_Name_kw (thn ((pe_var (pos := p) hN hv hdb hcd).run pins s σ H (fun v H1 => v = .ref f ∧ H1 = H) I ⟨.ref f, hs, rfl, rfl⟩) fun u s1 ⟨v, H1, I1, r1, q1⟩ => ?_); obtain ⟨rfl, rfl⟩ := q1
            obtain rfl : u = Value.ref f := r1; refine PySem.W.callWith_F (first := []) (NdefX.fnAt_of I1 f0) (thn (ha.run pos pins s1 σ H1 (fun vs H2 => ∃ m2, Ext (kx tb X) H1 m H2 m2 ∧ SR (kx tb X) H2 m2 S1 ∧ Rps (kx tb X) H2 m2 xs vs) I1 ⟨m, S, γ, xs, S1, hS, hγ, h3, fun vs H2 m2 x2 hS2 hz => ⟨m2, x2, hS2, hz⟩⟩) fun us s2 hq => ?_) he hpl
            obtain ⟨vs, H2, I2, r, m2, x2, hS2, hvs⟩ := hq
            have hm2 := x2.get hm
            obtain ⟨cl, c, vs2, f2, c2, cm, ci, hws⟩ := hS2.at_ n f _ hm2 h4
            refine ⟨NdefX.fnAt_of I2 f2, ?_⟩
            show wpAny _ _ (call (.ref f) us) _ _ _; have Fn := C id nd hl.1 cl c f
            have hln : vs2.length = nd.fr.length := ci.len
            refine wpAny_call (codeAny_mono (Fn.run X.A X.stack s2 H2 us vs (vs2.map some) Q E0 hr I2.env0 f2 c2 ?_ r ⟨vs2, rfl, by rw [hvs.length]; exact hl.2.1, hln, m2, S1, xs ++ ws, d, S', ?_, hS2, hvs.append hws, e1, fun w H3 m3 x3 => q w H3 m3 (x2.trans x3)⟩) fun r s' hq => ?_)
            · refine ⟨by simpa using hln, fun y c' e => ?_, ci.inj, fun j y e => ?_⟩
              · obtain ⟨v, o, ho, hd⟩ := ci.all y c' e
                exact ⟨(I2.bs _ _ ho).2, v, o, (I2.bs _ _ ho).1, hd⟩
              · obtain ⟨c', hc, hv⟩ := ci.has j y e
                refine ⟨c', hc, fun v ev => ?_⟩
                rw [List.getElem?_map] at ev
                cases ew : vs2[j]? with
                | none => rw [ew] at ev; cases ev
                | some v' =>
                  rw [ew] at ev
                  cases ev
                  obtain ⟨u, ru, o, ho, hd⟩ := hv v ew
                  exact ⟨u, ru, o, (I2.bs _ _ ho).1, hd⟩
            · rw [List.length_append, hl.2.1, hl.2.2]
            · cases r with
              | error err => exact False.elim hq
              | ok fl =>
                cases fl with
                | ret u => exact I2.after hq
                | next => exact False.elim hq
                | brk => exact False.elim hq
                | cont => exact False.elim hq
          · cases e1
        · cases e1
      · cases e1
    · cases e1
  · cases e1
end
section
variable {P : Program} {w : World} {K : PySem.W.Frag} {tb : List NdefX.NTab} {mg : Str → Option Value} {base : Heap}
theorem nok_zero {nd : NDef} {k : Nat} : NokM P w K mg base tb k nd fun _ _ => none := fun cl c f => by
  have no : ∀ ws vs H Q E, ¬ ∃ vs2 : List V, ws = vs2.map some ∧ vs.length = nd.ps.length ∧ vs2.length = nd.fr.length ∧ spM ⟨K, P, w, base, tb⟩ (nd.ps.length + nd.fr.length) (fun _ _ => none) (vs ++ vs2) H Q E := fun ws vs H Q E h => by
    obtain ⟨_, _, _, _, m, S, xs, d, S', h1, _, h2, h3, _⟩ := h
    cases h3
  exact ⟨fun ws vs H Q E h => (no _ _ _ _ _ h).elim, fun A outer s H us vs ws Q E _ _ _ _ _ _ h => (no _ _ _ _ _ h).elim⟩
/-- THE RULE for a def within a def -/
theorem nok_def {nd : NDef} {N : List Str} {k : Nat} {s : SvM} (S : NdefX.NScope N nd.ps nd.fr (C8.fnScope nd.st)) (hn : nd.ps.length + nd.fr.length ≤ N.length)
    (hbind : ∀ (cl : List (Str × Addr)) (c : Addr) (doc pm ctv : Value) (us : List Value), us.length = nd.ps.length → bindArgs ((nd.nf cl c).fd doc pm ctv) ⟨us, []⟩ = pure (nd.ps.zip us))
    (hb : ∀ (cl : List (Str × Addr)) (c f : Addr) (A : Around) (outer : List Env) (s0 : Shared) (H : Hp) (E : XK), Room k (NdefX.ncx CX0 P w K mg base N (nd.nf cl c) f A outer s0 H E).A → MSs tb (NdefX.ncx CX0 P w K mg base N (nd.nf cl c) f A outer s0 H E) (C8.fnBody nd.st) s) :
    NokM P w K mg base tb (k + 1) nd (bodyM N.length s) := fun cl c f => by
  refine NdefX.nok_of (N := N) S (hbind cl c) (fun ws vs H Q E h => ?_) fun A outer s0 H vs ws Q E hr hf hc hl h => ?_
  · obtain ⟨_, _, h, _⟩ := h; exact h
  · obtain ⟨vs2, rfl, hv, hv2, m, S0, xs, d, S', h1, hS, h2, h3, q⟩ := h
    refine ⟨_, hb cl c f A outer s0 H E hr, ?_⟩
    have hst : NdefX.startF N vs (vs2.map some) = L2.start N (vs ++ vs2) := by
      unfold NdefX.startF L2.start
      rw [List.map_append, List.append_assoc, List.length_append, List.length_map, Nat.sub_sub]
    have sl := slr_start (N := N) h2 (by rw [h1]; exact hn)
    unfold bodyM at h3
    split at h3
    · rename_i d' γ' S1 h4
      cases h3
      exact ⟨m, S0, _, .rt d, γ', _, hS, by rw [hst]; exact sl, h4, q⟩
    · rename_i γ' S1 h4
      cases h3
      exact ⟨m, S0, _, .nx, γ', _, hS, by rw [hst]; exact sl, h4, fun σ' H' m' x hS' _ => q _ H' m' x hS' (by rw [Rp])⟩
    · cases h3
end
end Ml
set_option maxHeartbeats 1000000 -- wide
/-! Ml20: a def within a def, made and handed on in the return behind it -/
namespace Ml
open L2 PyProof.Rows PySem PySem.Spec
/-! ### another ground, another context -/
section
variable {f : PySem.W.Frag} {p : Program} {w : World} {b b' : Heap} {t t' : List NdefX.NTab} {H H' : Hp} {m m' : List Addr}
mutual
theorem Rp.gr : ∀ (d : D) (v : V), Rp ⟨f, p, w, b, t⟩ H m d v → Rp ⟨f, p, w, b', t'⟩ H m d v
  | .non, v, h => by simpa only [Rp] using h
  | .bl _, v, h => by simpa only [Rp] using h
  | .int _, v, h => by simpa only [Rp] using h
  | .str _, v, h => by simpa only [Rp] using h
  | .gl _, v, h => by simpa only [Rp] using h
  | .ref _, v, h => by simpa only [Rp] using h
  | .tup xs, v, h => by
    rw [Rp] at h ⊢
    obtain ⟨a, vs, r, s, q⟩ := h
    exact ⟨a, vs, r, s, Rps.gr xs vs q⟩
  | .rl xs, v, h => by
    rw [Rp] at h ⊢
    obtain ⟨a, vs, r, s, q⟩ := h
    exact ⟨a, vs, r, s, Rps.gr xs vs q⟩
theorem Rps.gr : ∀ (d : List D) (v : List V), Rps ⟨f, p, w, b, t⟩ H m d v → Rps ⟨f, p, w, b', t'⟩ H m d v
  | [], v, h => by simpa only [Rps] using h
  | x :: xs, v, h => by
    rw [Rps] at h ⊢
    obtain ⟨w, r, q, s, t⟩ := h
    exact ⟨w, r, q, Rp.gr x w s, Rps.gr xs r t⟩
end
theorem Ext.gr (e : Ext ⟨f, p, w, b, t⟩ H m H' m') : Ext ⟨f, p, w, b', t'⟩ H m H' m' := ⟨⟨e.pre, e.tup, e.rol⟩, e.frz⟩
theorem Rkv.gr {κ : Type} {a : List (κ × D)} {c : List (κ × V)} (h : Rkv ⟨f, p, w, b, t⟩ H m a c) : Rkv ⟨f, p, w, b', t'⟩ H m a c := Paired.mapP h fun _ _ q => ⟨q.1, q.2.gr⟩
theorem Rdn.gr {a : List (D × D)} {c : List (NestedKey × Addr × V)} (h : Rdn ⟨f, p, w, b, t⟩ H m a c) : Rdn ⟨f, p, w, b', t'⟩ H m a c := Paired.mapP h fun _ _ q => ⟨q.1, q.2.1, q.2.2.1.gr, q.2.2.2.gr⟩
theorem CellsIn.up {cl : List (Str × Addr)} {fr : List Str} {vs : List V} (k : ∀ a o, b.get? a = some o → b'.get? a = some o) (h : CellsIn b cl fr vs) : CellsIn b' cl fr vs :=
  ⟨h.inj, fun y c e => let ⟨v, o, ho, hd⟩ := h.all y c e; ⟨v, o, k _ _ ho, hd⟩, h.len, fun i y e => let ⟨c, hc, hv⟩ := h.has i y e; ⟨c, hc, fun v ev => let ⟨u, r, o, ho, hd⟩ := hv v ev; ⟨u, r, o, k _ _ ho, hd⟩⟩⟩
theorem OR.up {a : Addr} {o : O} (k : ∀ a o, b.get? a = some o → b'.get? a = some o) (h : OR ⟨f, p, w, b, t⟩ H m a o) : OR ⟨f, p, w, b', t'⟩ H m a o := by
  cases o with
  | lst xs => obtain ⟨vs, q, r⟩ := h; exact ⟨vs, q, r.gr⟩
  | dk kvs => obtain ⟨vs, q, r⟩ := h; exact ⟨vs, q, r.gr⟩
  | dn lk kvs =>
    cases lk with
    | false => obtain ⟨xs, q, r⟩ := h; exact ⟨xs, q, r.gr⟩
    | true => obtain ⟨od, xs, q, r⟩ := h; exact ⟨od, xs, q, r.gr⟩
  | ins C fs => obtain ⟨dx, ws, q, r⟩ := h; exact ⟨dx, ws, q, r.gr⟩
  | dkl kvs => obtain ⟨od, ws, q, r⟩ := h; exact ⟨od, ws, q, r.gr⟩
  | fn i nd ws => obtain ⟨cl, c, vs, q, r, z, y, x⟩ := h; exact ⟨cl, c, vs, q, r, z, y.up k, x.gr⟩
  | junk => exact h
/-- no def is kept as one -/
def jk : O → O
  | .fn _ _ _ => .junk
  | o => o
def junkAll (S : Sto) : Sto := S.map jk
theorem OR.jk {a : Addr} {o : O} (h : OR ⟨f, p, w, b, t⟩ H m a o) : OR ⟨f, p, w, b', t'⟩ H m a (Ml.jk o) := by
  cases o with
  | lst xs => obtain ⟨vs, q, r⟩ := h; exact ⟨vs, q, r.gr⟩
  | dk kvs => obtain ⟨vs, q, r⟩ := h; exact ⟨vs, q, r.gr⟩
  | dn lk kvs =>
    cases lk with
    | false => obtain ⟨xs, q, r⟩ := h; exact ⟨xs, q, r.gr⟩
    | true => obtain ⟨od, xs, q, r⟩ := h; exact ⟨od, xs, q, r.gr⟩
  | ins C fs => obtain ⟨dx, ws, q, r⟩ := h; exact ⟨dx, ws, q, r.gr⟩
  | dkl kvs => obtain ⟨od, ws, q, r⟩ := h; exact ⟨od, ws, q, r.gr⟩
  | fn i nd ws => obtain ⟨cl, c, vs, q, _⟩ := h; exact ⟨_, q⟩
  | junk => exact h
theorem SR.jk {S : Sto} (h : SR ⟨f, p, w, b, t⟩ H m S) : SR ⟨f, p, w, b', t⟩ H m (junkAll S) :=
  ⟨h.tb, by rw [h.len]; exact (List.length_map ..).symm, h.nd, fun n a o e1 e2 => by
    unfold junkAll at e2
    rw [List.getElem?_map] at e2
    cases e3 : S[n]? with
    | none => rw [e3] at e2; cases e2
    | some u => rw [e3] at e2; cases e2; exact (h.at_ n a u e1 e3).jk⟩
theorem SR.up {S : Sto} (k : ∀ a o, b.get? a = some o → b'.get? a = some o) (h : SR ⟨f, p, w, b, t⟩ H m S) : SR ⟨f, p, w, b', t⟩ H m S := ⟨h.tb, h.len, h.nd, fun n a o e1 e2 => (h.at_ n a o e1 e2).up k⟩
end
/-- what a code object is nothing else is -/
theorem code_fn {P : Program} {w : World} {H : Hp} {h : Heap} {c : Addr} {q : Str} {F : NdefX.NF} (hok : HOk P w H h) (hc : H c = some (LamX.CodeO c q)) : H c ≠ some (NdefX.FnO c F) := fun e => by
  obtain ⟨⟨oc, vs, t, h1, h2, _⟩, _⟩ := hok c _ hc
  obtain ⟨od, sl, doc, pm, ctv, h3⟩ := NdefX.fnO_at hok e
  rw [h1] at h3
  cases h3
  cases h2
theorem code_out {K : Kx} {P : Program} {w : World} {H : Hp} {h : Heap} {m : List Addr} {S : Sto} {c : Addr} {q : Str} (hok : HOk P w H h) (hl : m.length = S.length) (hS : ∀ (n : Nat) (a : Addr) (o : O), m[n]? = some a → S[n]? = some o → OR K H m a o) (hc : H c = some (LamX.CodeO c q)) : c ∉ m := fun hm => by
  obtain ⟨n, hn, e⟩ := List.getElem_of_mem hm
  have hs : n < S.length := by rw [← hl]; exact hn
  have o := hS n c S[n] (by rw [List.getElem?_eq_getElem hn, e]) (List.getElem?_eq_getElem hs)
  have hcc := hc
  unfold LamX.CodeO at hc
  cases z : S[n] with
  | lst xs => rw [z] at o; obtain ⟨_, y, _⟩ := o; rw [hc] at y; cases y
  | dk xs => rw [z] at o; obtain ⟨_, y, _⟩ := o; rw [hc] at y; cases y
  | dn lk xs =>
    rw [z] at o
    cases lk with
    | false =>
      obtain ⟨xs, y, _⟩ := o
      obtain ⟨⟨oc, vs, t, h1, h2, _⟩, _⟩ := hok c _ hcc
      obtain ⟨⟨_, _, ys, _, ob, es, ep, h3, _, h4, _⟩, _⟩ := hok c _ y
      rw [h1] at h3
      cases h3
      rw [h2] at h4
      cases h4
    | true => obtain ⟨_, _, y, _⟩ := o; rw [hc] at y; cases y
  | ins C xs => rw [z] at o; obtain ⟨_, _, y, _⟩ := o; rw [hc] at y; cases y
  | dkl xs => rw [z] at o; obtain ⟨_, _, y, _⟩ := o; rw [hc] at y; cases y
  | fn i nd ws => rw [z] at o; obtain ⟨_, _, _, y, _⟩ := o; exact code_fn hok hcc y
  | junk => rw [z] at o; obtain ⟨_, y⟩ := o; exact code_fn hok hcc y
/-! ### the def's object is made -/
section
variable {tb : List NdefX.NTab} {X : Cx}
/-- the store is as before, the slot i holds the new function at f -/
def tDefX (K : Kx) (i : Nat) (mk : Addr → NdefX.NF) : TS := fun Dn σ H => ∃ m S γ, SR K H m S ∧ SLR K H m γ σ ∧ ∀ (f c' : Addr) (H1 : Hp), Ext K H m H1 m → SR K H1 m S → H1 f = some (NdefX.FnO f (mk c')) → H1 c' = some (LamX.CodeO c' (mk c').qual) → f ∉ m →
  (∀ c q, H1 c = some (LamX.CodeO c q) → c ≠ f ∧ c ∉ m) → Dn.nx (σ.set i (some (.ref f))) H1
theorem ps_defX {nd : NDef} {nm : Nat → Nat → Str} {c P : Addr} {pos : Pos} {i : Nat} (hst : nd.st = .FunctionDef nd.name (C8.fnArgs nd.st) (C8.fnBody nd.st) [] none [] (C8.fnScope nd.st) none nd.name pos) (hq : nd.qual = X.env.qual ++ nd.name)
    (TB : LamX.TabB X.base X.mg c P) (hcode : X.env.code = .ref c) (hm : (P, nm) ∈ tb) (hn : nm pos.line pos.col = X.env.qual ++ nd.name) (hu : ∀ p ∈ tb, p.1 = P → p.2 = nm)
    (hfree : ∀ y ∈ (C8.fnScope nd.st).names, y.2 = .free → X.env.scope.names.lookup y.1 = some .cell ∨ X.env.scope.names.lookup y.1 = some .free) (hd0 : (C8.fnArgs nd.st).defaults = []) (hk0 : (C8.fnArgs nd.st).kw_defaults = []) (ha : annTrees (C8.fnArgs nd.st) none X.env = [])
    (hN : X.N.Nodup) (hi : X.N[i]? = some nd.name) (hx : Loc X.env.scope nd.name) (hf : X.fn nd.name = true ∨ X.env.scope.names.lookup nd.name = some .local) :
    PS X nd.st (tDefX (kx tb X) i fun c' => nd.nf (cloFrom X.env.cells (C8.fnScope nd.st).names []) c') := by
  refine ⟨fun pins s σ H Dn I h => ?_⟩
  obtain ⟨m, S, γ, hS, hγ, h⟩ := h
  have hqn : qualnameIn X.env nd.name nd.name = X.env.qual ++ nd.name := by
    have hk : X.env.kindOf nd.name = some .local ∨ X.env.kindOf nd.name = some .cell := hx
    unfold qualnameIn; rcases hk with k | k <;> rw [k] <;> first | rfl | exact if_neg (by decide)
  have hfr : ∀ y ∈ (C8.fnScope nd.st).names, y.2 = .free → ∃ c, X.env.cells.lookup y.1 = some c := fun y hy e => (hfree y hy e).elim (fun z => I.ok.has _ (.inl z)) fun z => I.ok.has _ (.inr z)
  have hT : NdefX.TabsN tb H := fun p hp => by
    obtain ⟨ps, h1, h2, h3⟩ := hS.tb p hp
    exact ⟨ps, h1, h2, fun pos cv e => let ⟨c, e1, e2, _⟩ := h3 pos cv e; ⟨c, e1, e2⟩⟩
  rw [hst]
  refine PySem.W.nestDef_K hd0 hk0 ha ?_; rw [hqn]
  refine NdefX.ndef_make I TB hcode hm hn hu hT hfr fun f c' H1 s' I1 eN _ T1 f0 f1 c1 => ?_
  refine store_ok I1 hN hi hx (v := .ref f) rfl (fun s'' J => ⟨_, H1, J, ?_⟩) hf
  have keep : ∀ (a : Addr) (u : HO), H a = some u → (∀ ps, u ≠ .tbl ps) → H1 a = some u := fun a u e n => eN a u e n
  have sq : ∀ a vs, SqT X.K H a vs → SqT X.K H1 a vs := fun a vs z => by
    rcases z with (z | ⟨o, z⟩) | z
    · exact .inl (.inl (keep _ _ z fun ps y => by cases y))
    · exact .inl (.inr ⟨o, keep _ _ z fun ps y => by cases y⟩)
    · exact .inr z
  have x : Ext (kx tb X) H m H1 m := ⟨⟨⟨[], by simp⟩, sq, fun a vs z => by
    rcases z with ⟨o, z⟩ | z
    · exact .inl ⟨o, keep _ _ z fun ps y => by cases y⟩
    · exact .inr z⟩, fun a od u z => keep _ _ z fun ps y => by cases y⟩
  have hmf : f ∉ m := hS.none f0
  have st : ∀ (n : Nat) (a : Addr) (o : O), m[n]? = some a → S[n]? = some o → OR (kx tb X) H1 m a o := fun n a o e1 e2 => by
    have r := hS.at_ n a o e1 e2
    obtain ⟨u, hu1, hu2⟩ := r.there
    have nt : ∀ ps, u ≠ .tbl ps := fun ps y => by subst y; exact hu2
    have k : ∀ w, H a = some w → H1 a = some w := fun w z => by rw [hu1] at z; cases z; exact keep _ _ hu1 nt
    cases o with
    | lst xs => obtain ⟨vs, q, r⟩ := r; exact ⟨vs, k _ q, r.mono x⟩
    | dk kvs => obtain ⟨vs, q, r⟩ := r; exact ⟨vs, k _ q, r.mono x⟩
    | dn lk kvs =>
      cases lk with
      | false => obtain ⟨xs, q, r⟩ := r; exact ⟨xs, k _ q, r.mono x⟩
      | true => obtain ⟨od, xs, q, r⟩ := r; exact ⟨od, xs, k _ q, r.mono x⟩
    | ins C fs => obtain ⟨dx, ws, q, r⟩ := r; exact ⟨dx, ws, k _ q, r.mono x⟩
    | dkl kvs => obtain ⟨od, ws, q, r⟩ := r; exact ⟨od, ws, k _ q, r.mono x⟩
    | fn i nd ws => obtain ⟨cl, c, vs, q, r, z, y, w⟩ := r; exact ⟨cl, c, vs, k _ q, keep _ _ r LamX.codeO_ne, z, y, w.mono x⟩
    | junk => obtain ⟨F, q⟩ := r; exact ⟨F, k _ q⟩
  have out : ∀ c q, H1 c = some (LamX.CodeO c q) → c ≠ f ∧ c ∉ m := fun c q z => ⟨fun y => by subst y; exact code_fn I1.hok z f1, code_out I1.hok hS.len st z⟩
  have hS1 : SR (kx tb X) H1 m S := ⟨fun p hp => by
    obtain ⟨ps, h1, h2, h3⟩ := T1 p hp
    exact ⟨ps, h1, h2, fun pos cv e => let ⟨c, e1, e2⟩ := h3 pos cv e; ⟨c, e1, e2, (out c _ e2).2⟩⟩, hS.len, hS.nd, st⟩
  refine h f c' H1 x hS1 ?_ ?_ hmf out
  · rw [f1]
    unfold NDef.nf NdefX.NF.of
    rw [hq]
  · rw [c1]
    show some (LamX.CodeO c' (X.env.qual ++ nd.name)) = some (LamX.CodeO c' nd.qual)
    rw [hq]
end
end Ml
set_option maxHeartbeats 1000000 -- wide
/-! Ml21: .. and handed on, in the return behind it -/
namespace Ml
open L2 PyProof.Rows PySem PySem.Spec
/-- the ground with these cells in it -/
noncomputable def gnd (base h : Heap) (cs : List Addr) : Heap := hidT h fun b => if (base.get? b).isSome = true ∨ b ∈ cs then none else some (.own 0)
theorem gnd_get {base h : Heap} {cs : List Addr} {b : Addr} {o : Obj} (e : h.get? b = some o) (c : (base.get? b).isSome = true ∨ b ∈ cs) : (gnd base h cs).get? b = some o := hidT_get e (if_pos c)
theorem of_gnd {base h : Heap} {cs : List Addr} {b : Addr} {o : Obj} (e : (gnd base h cs).get? b = some o) : h.get? b = some o ∧ ((base.get? b).isSome = true ∨ b ∈ cs) := by
  obtain ⟨h1, h2⟩ := of_hidT e
  refine ⟨h1, ?_⟩
  by_cases c : (base.get? b).isSome = true ∨ b ∈ cs
  · exact c
  · have z : (if (base.get? b).isSome = true ∨ b ∈ cs then (none : Option HO) else some (.own 0)) = none := h2
    rw [if_neg c] at z
    cases z
section
variable {tb : List NdefX.NTab} {X : Cx} {pins : List (Addr × Obj)} {σ : L2.St} {H : Hp} {s : Shared}
theorem gnd_keep {cs : List Addr} (I : Inv X pins σ H s) : ∀ b o, X.base.get? b = some o → (gnd X.base s.heap cs).get? b = some o := fun b o e => gnd_get (I.bk b o e) (.inl (by rw [e]; rfl))
/-- what is asked ahead of a call: over the ground with some cells of the running frame -/
theorem env0_gnd {cs : List Addr} (I : Inv X pins σ H s) (hfn : ∀ y, X.fn y = true) (hcs : ∀ c ∈ cs, ∃ y, X.env.cells.lookup y = some c) : Env0 X.prog X.w X.K X.mg (gnd X.base s.heap cs) X.A X.stack s H := by
  have k := gnd_keep (cs := cs) I
  have e0 := I.env0
  obtain ⟨mb, h1, h2⟩ := I.mod.blt; refine ⟨e0.frames, ⟨I.mod.kin.keeps k, I.mod.glob.keeps k, ⟨mb, h1.keeps k, h2⟩, I.mod.nolimit.keeps k⟩, fun b o e => ?_, Nat.le_of_eq (hidT_size _ _), ?_, e0.frf, e0.hok, e0.bare⟩
  · obtain ⟨h3, h4 | h4⟩ := of_gnd e
    · obtain ⟨o2, h5⟩ := Option.isSome_iff_exists.mp h4
      exact ⟨h3, (I.bs b o2 h5).2⟩
    · obtain ⟨y, hy⟩ := hcs b h4
      exact ⟨h3, I.freeC y b hy⟩
  · refine funFrames_none I.stack fun L hL => ?_
    cases q : (gnd X.base s.heap cs).get? L with
    | none => rfl
    | some o =>
      obtain ⟨h3, h4 | h4⟩ := of_gnd q
      · obtain ⟨z, _⟩ := I.stack.mem hL
        rw [z] at h4
        cases h4
      · obtain ⟨y, hy⟩ := hcs L h4
        rcases List.mem_cons.mp (I.stkSub L hL) with e | e
        · exact (I.cne y L hy e).elim
        · obtain ⟨_, o', ho, _⟩ := I.ok.funs.mem e
          exact absurd (Nat.lt_of_lt_of_le (Heap.lt_size ho) (I.ok.cab y L (hfn y) hy)) (Nat.lt_irrefl _)
/-- the slots' values -/
theorem slots_of {K : Kx} {m : List Addr} {γ : Sl} (hγ : SLR K H m γ σ) : ∀ {js : List Nat} {ws : List D}, js.map (fun j => γ[j]?) = ws.map (fun w => some (some w)) → ∃ vs : List V, js.map (NdefX.slotAt σ) = vs.map some ∧ Rps K H m ws vs
  | [], [], _ => ⟨[], rfl, Rps.nil⟩
  | [], _ :: _, e => by cases e
  | _ :: _, [], e => by cases e
  | j :: js, w :: ws, e => by
    rw [List.map_cons, List.map_cons] at e; obtain ⟨e1, e2⟩ := List.cons.inj e
    obtain ⟨vs, h1, h2⟩ := slots_of hγ e2
    obtain ⟨v, h3, h4⟩ := hγ.at_ j w e1
    exact ⟨v :: vs, by rw [List.map_cons, List.map_cons, h1, NdefX.slotAt_of h3], Rps.cons h4 h2⟩
/-- what is given back by the call that a new def is handed to -/
def dretM (id : Nat) (nd : NDef) (ia : Nat) (js : List Nat) (G : List D → Sto → Option (D × Sto)) : SvM := fun γ S => match γ[ia]? with
  | some (some y) => match js.mapM (fun j => γ[j]?.join) with
    | some ws => match G [y, .ref S.length] (S ++ [.fn id nd ws]) with
      | some (d, S2) => some (.rt d, γ, junkAll S2)
      | none => none
    | none => none
  | _ => none
theorem mapM_slots {γ : Sl} : ∀ {js : List Nat} {ws : List D}, js.mapM (fun j => γ[j]?.join) = some ws → js.map (fun j => γ[j]?) = ws.map (fun w => some (some w))
  | [], ws, e => by simp at e; subst e; rfl
  | j :: js, ws, e => by
    rw [List.mapM_cons] at e
    cases h1 : γ[j]?.join with
    | none => rw [h1] at e; simp at e
    | some w =>
      cases h2 : js.mapM (fun j => γ[j]?.join) with
      | none => rw [h1, h2] at e; simp at e
      | some r =>
        rw [h1, h2] at e
        simp at e
        subst e
        have h3 : γ[j]? = some (some w) := by
          cases h4 : γ[j]? with
          | none => rw [h4] at h1; cases h1
          | some o => rw [h4] at h1; have h1 : o = some w := h1; rw [h1]
        rw [List.map_cons, List.map_cons, mapM_slots h2, h3]
variable {k i ia : Nat} {f c P : Addr} {fd : FuncData} {ps : List Str} {G : List D → Sto → Option (D × Sto)} {x xa : Str} {nd : NDef} {nm : Nat → Nat → Str} {pos pr pc px pa pq : Pos} {js : List Nat} {id : Nat}
theorem mss_dret (hst : nd.st = .FunctionDef nd.name (C8.fnArgs nd.st) (C8.fnBody nd.st) [] none [] (C8.fnScope nd.st) none nd.name pos) (hq : nd.qual = X.env.qual ++ nd.name)
    (TB : LamX.TabB X.base X.mg c P) (hcode : X.env.code = .ref c) (hm : (P, nm) ∈ tb) (hn : nm pos.line pos.col = X.env.qual ++ nd.name) (hu : ∀ p ∈ tb, p.1 = P → p.2 = nm)
    (hnd : NdefX.ndefB X.env.scope (C8.fnScope nd.st) nd.fr = true) (hd0 : (C8.fnArgs nd.st).defaults = []) (hk0 : (C8.fnArgs nd.st).kw_defaults = []) (ha : annTrees (C8.fnArgs nd.st) none X.env = [])
    (hN : X.N.Nodup) (hi : X.N[i]? = some nd.name) (hx : Loc X.env.scope nd.name) (hfn : ∀ y, X.fn y = true) (hjs : js.map (fun j => X.N[j]?) = nd.fr.map some) (hji : i ∉ js) (hia : X.N[ia]? = some xa) (hva : Vis X.env.scope xa) (hne : ia ≠ i)
    (F : ∀ base : Heap, (∀ b o, X.base.get? b = some o → base.get? b = some o) → FnOk X.prog X.w X.K X.mg base CX0 k f fd ps (spM ⟨X.K, X.prog, X.w, base, tb⟩ 2 G)) (hr : Room k X.A) (hg : Gl X x) (hmf : X.mg x = some (.ref f)) (hk : PySem.W.keepIn X.K (.ref f) = true) (hb : Binds X.K fd ps [])
    (d1 : (x == ("__debug__" : Str)) = false := by decide) (d2 : (xa == ("__debug__" : Str)) = false := by decide) (d3 : (xa == ("__classdict__" : Str)) = false := by decide) (d4 : (nd.name == ("__debug__" : Str)) = false := by decide) (d5 : (nd.name == ("__classdict__" : Str)) = false := by decide)
    (a0 : starEach [.Name xa pa, .Name nd.name pq] X.env = (false, eval (.Name xa pa) X.env) :: starEach [.Name nd.name pq] X.env := by rfl) (a1 : starEach [.Name nd.name pq] X.env = (false, eval (.Name nd.name pq) X.env) :: starEach [] X.env := by rfl)
    (hpl : (backTo pc (starEach [.Name nd.name pq] X.env)).any (·.1) = false := by rfl) :
    MSs tb X [nd.st, .Return (some (.Call (.Name x px) [.Name xa pa, .Name nd.name pq] [] pc)) pr] (dretM id nd ia js G) := by
  have hvi : Vis X.env.scope nd.name := hx.elim .inl fun z => .inr (.inl z)
  have hfree := NdefX.ndef_free hnd
  have hfr := NdefX.ndef_fr hnd
  have hD := ps_defX (tb := tb) (i := i) (nm := nm) hst hq TB hcode hm hn hu hfree hd0 hk0 ha hN hi hx (.inl (hfn _))
  refine ⟨fun pins s σ H Dn I h => ?_⟩
  obtain ⟨m, S, γ, fl, γ', S', hS, hγ, e1, q⟩ := h
  unfold dretM at e1
  split at e1
  · rename_i y h1
    split at e1
    · rename_i ws h2
      split at e1
      · rename_i d S2 h3
        cases e1
        have h2' := mapM_slots h2
        -- the call behind the def
        have hP : PE X (.Call (.Name x px) [.Name xa pa, .Name nd.name pq] [] pc) (fun σ H Q => ∃ m γ f0 c', SR (kx tb X) H m S ∧ SLR (kx tb X) H m γ σ ∧ σ[i]? = some (some (.ref f0)) ∧ H f0 = some (NdefX.FnO f0 (nd.nf (cloFrom X.env.cells (C8.fnScope nd.st).names []) c')) ∧ H c' = some (LamX.CodeO c' nd.qual) ∧ f0 ∉ m ∧
            (∀ c q, H c = some (LamX.CodeO c q) → c ≠ f0 ∧ c ∉ m) ∧ γ[ia]? = some (some y) ∧ js.map (fun j => γ[j]?) = ws.map (fun w => some (some w)) ∧ Fin (kx tb X) H m (junkAll S2) d Q) := by
          refine .mk fun pins s σ H Q I h => ?_
          obtain ⟨m, γ, f0, c', hS, hγ, hf0, f1, c1, fm, out, hy, hws, q⟩ := h
          obtain ⟨va, hva1, rya⟩ := hγ.at_ ia _ hy
          have hA : PA X [.Name xa pa, .Name nd.name pq] _ := pa_cons (pe_var (pos := pa) hia hva d2 d3) (pa_cons (pe_var (pos := pq) hi hvi d4 d5) pa_nil a1) a0
          refine wpAny_Call_Name_kw (ld_glob I hg hmf ?_ d1)
          refine PySem.W.callWith_K (h₀ := X.base) I.ok.mod.kin hk (thn (hA.run pc pins s σ H (fun vs H1 => vs = [va, .ref f0] ∧ H1 = H) I ⟨va, hva1, .ref f0, hf0, rfl, rfl⟩) fun us s1 hq => ?_) a0 hpl
          obtain ⟨vs, H1, I1, r, rfl, rfl⟩ := hq
          refine ⟨I1.kIn, ?_⟩
          have cp := NdefX.Caps.made (X := X) (js := js) I1.ok hfree hfr hjs
          have ca := NdefX.cells_of I1 cp
          obtain ⟨vs, ev, rws⟩ := slots_of hγ hws
          rw [ev] at ca
          let cs : List Addr := (cloFrom X.env.cells (C8.fnScope nd.st).names []).map (·.2)
          have hcs : ∀ c ∈ cs, ∃ y, X.env.cells.lookup y = some c := fun c hc => by
            obtain ⟨⟨y, c2⟩, h5, h6⟩ := List.mem_map.mp hc
            cases h6
            rcases cloFrom_mem h5 with z | ⟨z1, z2⟩
            · cases z
            · obtain ⟨c3, hc3⟩ := (hfree _ z1 rfl).elim (fun z => I1.ok.has _ (.inl z)) fun z => I1.ok.has _ (.inr z)
              have hc3 : X.env.cells.lookup y = some c3 := hc3
              refine ⟨y, ?_⟩
              rw [hc3]
              have : c2 = c3 := by rw [z2, hc3] <;> rfl
              show some c3 = some c2
              rw [this]
          have kk := gnd_keep (cs := cs) I1
          have inC : ∀ {y : Str} {c : Addr} {v : Option Value}, (cloFrom X.env.cells (C8.fnScope nd.st).names []).lookup y = some c → s1.heap.IsCell c v → (gnd X.base s1.heap cs).IsCell c v := fun {y c v} e ⟨o, ho, hd⟩ => ⟨o, gnd_get ho (.inr (List.mem_map.mpr ⟨_, PySem.mem_of_lookup e, rfl⟩)), hd⟩
          have ci : CellsIn (gnd X.base s1.heap cs) (cloFrom X.env.cells (C8.fnScope nd.st).names []) nd.fr vs := by
            refine ⟨ca.inj, fun y c e => ?_, by simpa using ca.len, fun j y e => ?_⟩
            · obtain ⟨v, z⟩ := (ca.all y c e).2
              exact ⟨v, inC e z⟩
            · obtain ⟨c, hc, hv⟩ := ca.has j y e
              refine ⟨c, hc, fun v ev2 => ?_⟩
              obtain ⟨u, ru, z⟩ := hv v (by rw [List.getElem?_map, ev2]; rfl)
              exact ⟨u, ru, inC hc z⟩
          have x0 : Ext (kx tb X) H1 m H1 (m ++ [f0]) := ⟨⟨⟨[f0], rfl⟩, fun _ _ z => z, fun _ _ z => z⟩, fun _ _ _ z => z⟩
          have hS2 : SR ⟨X.K, X.prog, X.w, gnd X.base s1.heap cs, tb⟩ H1 (m ++ [f0]) (S ++ [.fn id nd ws]) := by
            have hU : SR ⟨X.K, X.prog, X.w, gnd X.base s1.heap cs, tb⟩ H1 m S := SR.up kk hS
            have kc : ∀ (c : Addr) (x : HO), c ∉ m → c ≠ f0 → H1 c = some x → H1 c = some x ∧ c ∉ m ++ [f0] := fun c x z z2 q => ⟨q, fun y => by
              rcases List.mem_append.mp y with y | y
              · exact z y
              · exact z2 (by simpa using y)⟩
            refine ⟨fun p hp => ?_, by simp [hU.len], ?_, fun n a o e1 e2 => ?_⟩
            · obtain ⟨ps, h1, h2, h3⟩ := hU.tb p hp
              refine ⟨ps, h1, h2, fun pos cv e => ?_⟩
              obtain ⟨c, e1, e2, e3⟩ := h3 pos cv e
              exact ⟨c, e1, (kc _ _ e3 (out _ _ e2).1 e2).1, (kc _ _ e3 (out _ _ e2).1 e2).2⟩
            · rw [List.nodup_append]
              refine ⟨hU.nd, by simp, fun a ha b hb z => ?_⟩
              have : b = f0 := by simpa using hb
              subst this; subst z
              exact fm ha
            · by_cases hn : n < m.length
              · rw [List.getElem?_append_left hn] at e1
                rw [List.getElem?_append_left (by rw [← hU.len]; exact hn)] at e2
                have r := hU.at_ n a o e1 e2
                have x1 : Ext (⟨X.K, X.prog, X.w, gnd X.base s1.heap cs, tb⟩ : Kx) H1 m H1 (m ++ [f0]) := x0.gr
                cases o with
                | lst xs => obtain ⟨vs, q, r⟩ := r; exact ⟨vs, q, r.mono x1⟩
                | dk kvs => obtain ⟨vs, q, r⟩ := r; exact ⟨vs, q, r.mono x1⟩
                | dn lk kvs =>
                  cases lk with
                  | false => obtain ⟨xs, q, r⟩ := r; exact ⟨xs, q, r.mono x1⟩
                  | true => obtain ⟨od, xs, q, r⟩ := r; exact ⟨od, xs, q, r.mono x1⟩
                | ins C fs => obtain ⟨dx, ws, q, r⟩ := r; exact ⟨dx, ws, q, r.mono x1⟩
                | dkl kvs => obtain ⟨od, ws, q, r⟩ := r; exact ⟨od, ws, q, r.mono x1⟩
                | fn i nd ws =>
                  obtain ⟨cl, c, vs, q, r, z, y, w⟩ := r
                  exact ⟨cl, c, vs, q, r, (kc _ _ z (out _ _ r).1 r).2, y, w.mono x1⟩
                | junk => exact r
              · have hn' : m.length ≤ n := Nat.le_of_not_lt hn
                rw [List.getElem?_append_right hn'] at e1
                rw [List.getElem?_append_right (by rw [← hU.len]; exact hn')] at e2
                rw [hU.len] at e1
                cases q : n - S.length with
                | zero =>
                  rw [q] at e1 e2
                  simp at e1 e2
                  subst e1; subst e2
                  have z := out _ _ c1
                  exact ⟨_, c', vs, f1, c1, (kc _ _ z.2 z.1 c1).2, ci, (rws.mono x0).gr⟩
                | succ k =>
                  rw [q] at e1
                  simp at e1
          have F2 := F (gnd X.base s1.heap cs) kk
          have hl : (us ++ []).length = ps.length := by
            rw [List.append_nil, ← r.length]
            refine F2.len [va, .ref f0] H1 Q E0 ⟨m ++ [f0], _, [y, .ref S.length], d, S2, rfl, hS2, ?_, h3, fun w H' m' x hS' hw => ?_⟩
            · exact Rps.cons (rya.mono x0).gr (Rps.one (by rw [Rp]; exact ⟨f0, by rw [← hS.len]; simp, rfl⟩))
            · exact q w H' m' (x0.trans x.gr) (SR.jk hS') hw.gr
          refine wpAny_call (codeAny_mono (F2.run X.A X.stack s1 H1 ⟨us, []⟩ (us ++ []) ([va, .ref f0] ++ []) Q E0 hr (env0_gnd I1 hfn hcs) (hb s1 us I1.kIn hl) (r.append .nil) ⟨m ++ [f0], _, [y, .ref S.length], d, S2, rfl, hS2, ?_, h3, fun w H' m' x hS' hw => ?_⟩) fun r s' hq => ?_)
          · rw [List.append_nil]
            exact Rps.cons (rya.mono x0).gr (Rps.one (by rw [Rp]; exact ⟨f0, by rw [← hS.len]; simp, rfl⟩))
          · exact q w H' m' (x0.trans x.gr) (SR.jk hS') hw.gr
          · cases r with
            | error err => exact False.elim hq
            | ok fl =>
              cases fl with
              | ret u => exact I1.after hq
              | next => exact False.elim hq
              | brk => exact False.elim hq
              | cont => exact False.elim hq
        refine (pss_cons hD (pss_one (ps_ret (pos := pr) hP))).run pins s σ H Dn I ?_
        refine ⟨m, S, γ, hS, hγ, fun f0 c' H1 x1 hS1 f1 c1 fm out => ?_⟩
        have hil : i < σ.length := by
          rw [I.len]
          exact (List.getElem?_eq_some_iff.mp hi).1
        refine ⟨m, γ.set i none, f0, c', hS1, ?_, List.getElem?_set_self hil, f1, c1, fm, out, ?_, ?_, fun w H' m' x2 => q w H' m' (x1.trans x2)⟩
        · have z := hγ.mono x1
          refine ⟨by simp [z.len], fun j dd e => ?_⟩
          by_cases hj : j = i
          · subst hj
            rw [List.getElem?_set] at e
            simp at e
          · rw [List.getElem?_set_ne (Ne.symm hj)] at e
            rw [List.getElem?_set_ne (Ne.symm hj)]
            exact z.at_ j dd e
        · rw [List.getElem?_set_ne (Ne.symm hne)]; exact h1
        · rw [← h2']
          refine List.map_congr_left fun j hj => ?_
          exact List.getElem?_set_ne fun z => hji (by rw [z]; exact hj)
      · cases e1
    · cases e1
  · cases e1
end
end Ml
set_option maxHeartbeats 1000000 -- wide
/-! Ml22: a def that makes defs -/
namespace Ml
open L2 PyProof.Rows PySem PySem.Spec
/-- a def of the text whose code object stands at c -/
structure FunC (K : PySem.W.Frag) (x qual : Str) (st : Stmt) (f : Addr) (fd : FuncData) (c : Addr) : Prop where
  ex : ∃ (oc : Value) (od : Option Addr) (kV doc pm : Value) (an : Option Addr) (ct : Value) (osl : Array (Option Value)),
    fd = PySem.W.fnOf x qual (defArgs st) (defBody st) (defScope st) .none kV doc pm an (.ref c) ct ∧ K.lookup f = some ⟨oc, od, .func fd, osl⟩ ∧ PySem.W.codeIn K (.ref c) qual = true
section
variable {P : Program} {w : World} {K : PySem.W.Frag} {tb : List NdefX.NTab} {mg : Str → Option Value} {base : Heap}
theorem ok_defC {x qual : Str} {st : Stmt} {f c : Addr} {fd : FuncData} {N ps : List Str} {k : Nat} {s : SvM} (F : FunC K x qual st f fd c) (S : FnScope N ps (defScope st)) (hn : ps.length ≤ N.length)
    (hb : ∀ (A : Around) (outer : List Env) (s0 : Shared) (H : Hp) (E : XK), Room k (cxOf CX0 P w K mg base N qual (defScope st) f (.ref c) A outer s0 H E).A → MSs tb (cxOf CX0 P w K mg base N qual (defScope st) f (.ref c) A outer s0 H E).nox (defBody st) s) :
    FnOk P w K mg base CX0 (k + 1) f fd ps (spM ⟨K, P, w, base, tb⟩ ps.length (bodyM N.length s)) := by
  obtain ⟨oc, od, kV, doc, pm, an, ct, osl, rfl, lk, hcd⟩ := F.ex
  refine fn_of lk hcd S (fun vs H Q E h => ?_) fun A outer s0 H vs Q E hr h => ?_
  · obtain ⟨m, S, xs, d, S', h1, _, h2, _⟩ := h
    rw [h2.length, h1]
  · obtain ⟨m, S, xs, d, S', h1, hS, h2, h3, q⟩ := h
    refine ⟨_, (hb A outer s0 H E hr).nox, ?_⟩
    unfold bodyM at h3
    split at h3
    · rename_i d' γ' S1 h4
      cases h3
      exact ⟨m, S, _, .rt d, γ', _, hS, slr_start h2 (by rw [h1]; exact hn), h4, q⟩
    · rename_i γ' S1 h4
      cases h3
      exact ⟨m, S, _, .nx, γ', _, hS, slr_start h2 (by rw [h1]; exact hn), h4, fun σ' H' m' x hS' _ => q _ H' m' x hS' (by rw [Rp])⟩
    · cases h3
end
theorem tabB_keeps {base base' : Heap} {mg : Str → Option Value} {c P : Addr} (k : ∀ b o, base.get? b = some o → base'.get? b = some o) (h : LamX.TabB base mg c P) : LamX.TabB base' mg c P := ⟨h.code.keeps k, h.bm.keeps k, h.gP⟩
/-- the first store -/
theorem sr_nil {K : Kx} {H : Hp} (h : ∀ p ∈ K.t, H p.1 = some (.tbl #[])) : SR K H [] [] := ⟨fun p hp => ⟨#[], h p hp, True.intro, fun pos cv e => by
  have z : codeAmong pos [] = some cv := e
  simp [codeAmong] at z⟩, rfl, List.nodup_nil, fun n a o e => by simp at e⟩
end Ml
set_option maxHeartbeats 1000000 -- wide
/-! Ml23: the end of a law's text that makes defs within defs -/
namespace Ml
open L2 PyProof.Rows PySem PySem.Spec
theorem rps_intsD {K : Kx} {H : Hp} {m : List Addr} : ∀ ns : List Int, Rps K H m (ns.map D.int) (ns.map V.int)
  | [] => Rps.nil
  | n :: ns => Rps.cons (by rw [Rp]) (rps_intsD ns)
/-- what the law is asked -/
def spLaw (K : PySem.W.Frag) (tb : List NdefX.NTab) : Sp := fun vs H Q _ => ∃ (a : Addr) (ns : List Int), vs = [.ref a] ∧ ns.length ≤ 63 ∧ (∀ p ∈ tb, H p.1 = some (.tbl #[])) ∧ SqL K H a (ns.map V.int) ∧ ∀ H', Q (.bl true) H'
section
variable {P : Program} {w : World} {K : PySem.W.Frag} {mg : Str → Option Value} {base : Heap} {tb : List NdefX.NTab}
/-- a list that nobody writes may be locked -/
theorem hok_frz {H : Hp} {h : Heap} {a : Addr} {xs : List V} {o : Obj} (hok : HOk P w H h) (e : H a = some (.lst xs)) (ho : h.get? a = some o) : HOk P w (upd H a (.frz o (.lst xs))) h := by
  have ot : ∀ b u, b ≠ a → H b = some u → upd H a (.frz o (.lst xs)) b = some u := fun b u n z => by rw [upd_ne n]; exact z
  have ho2 : ∀ c b, H b = some (.own c) → upd H a (.frz o (.lst xs)) b = some (.own c) := fun c b z => ot _ _ (fun y => by subst y; rw [e] at z; cases z) z
  have ht : ∀ b ys, H b = some (.tup ys) → upd H a (.frz o (.lst xs)) b = some (.tup ys) := fun b ys z => ot _ _ (fun y => by subst y; rw [e] at z; cases z) z
  intro b u z
  by_cases hb : b = a
  · subst hb
    rw [upd_same] at z
    cases z
    exact ⟨ho, (hok b _ e).stay (fun _ _ _ q => q) (ho2 _) ht⟩
  · rw [upd_ne hb] at z
    exact (hok b u z).stay (fun _ _ _ q => q) (ho2 _) ht
theorem fn_law {k : Nat} {f : Addr} {fd : FuncData} {x : Str} {G : List D → Sto → Option (D × Sto)} (F : FnOk P w K mg base CX0 k f fd [x] (spM ⟨K, P, w, base, tb⟩ 1 G)) (good : ∀ ns : List Int, ns.length ≤ 63 → ∃ S, G [.rl (ns.map D.int)] [] = some (.bl true, S)) :
    FnOk P w K mg base CX0 k f fd [x] (spLaw K tb) := by
  refine ⟨fun vs H Q E h => ?_, fun A outer s H args us vs Q E hr e0 hb r h => ?_⟩
  · obtain ⟨a, ns, rfl, _⟩ := h; rfl
  · obtain ⟨a, ns, rfl, hl, hT, hS, q⟩ := h
    obtain ⟨S, e⟩ := good ns hl
    have go : ∀ H' : Hp, (∀ p ∈ tb, H' p.1 = some (.tbl #[])) → RoL K H' a (ns.map V.int) → spM ⟨K, P, w, base, tb⟩ 1 G [.ref a] H' Q E := fun H' hT' hr' => by
      refine ⟨[], [], _, _, S, rfl, sr_nil hT', Rps.one (by rw [Rp]; exact ⟨a, _, rfl, hr', rps_intsD ns⟩), e, fun v H'' m' _ _ hv => ?_⟩
      rw [Rp] at hv
      subst hv
      exact q H''
    rcases hS with (h1 | ⟨o, h1⟩) | h1
    · obtain ⟨ob, ho⟩ : ∃ ob : Obj, s.heap.get? a = some ob := by
        obtain ⟨_, its, n, _, ho⟩ := e0.hok a _ h1
        exact ⟨_, ho⟩
      have nb : ∀ b, H b = none → b ≠ a := fun b z y => by subst y; rw [h1] at z; cases z
      have hT2 : ∀ p ∈ tb, upd H a (.frz ob (.lst (ns.map V.int))) p.1 = some (.tbl #[]) := fun p hp => by
        rw [upd_ne fun y => by have := hT p hp; rw [y, h1] at this; cases this]
        exact hT p hp
      have e1 : Env0 P w K mg base A outer s (upd H a (.frz ob (.lst (ns.map V.int)))) := ⟨e0.frames, e0.mod, fun b o z => ⟨(e0.bs b o z).1, by rw [upd_ne (nb b (e0.bs b o z).2)]; exact (e0.bs b o z).2⟩, e0.bsz, e0.funs,
        fun b z => by rw [upd_ne (nb b (e0.frf b z))]; exact e0.frf b z, hok_frz e0.hok h1 ho, e0.bare⟩
      refine codeAny_mono (F.run A outer s _ args us [.ref a] Q E hr e1 hb r (go _ hT2 (.inl ⟨_, upd_same⟩))) fun res s' hres => ?_
      cases res with
      | error e => exact hres
      | ok fl =>
        cases fl with
        | ret u =>
          obtain ⟨v, H', os, bare, un, hok, rv, qq⟩ := hres
          have ot : ∀ b (u : HO), H b = some u → u ≠ .lst (ns.map V.int) → upd H a (.frz ob (.lst (ns.map V.int))) b = some u := fun b u z n => by
            rw [upd_ne fun y => by subst y; rw [h1] at z; cases z; exact n rfl]; exact z
          have no : ∀ b, H b = none → upd H a (.frz ob (.lst (ns.map V.int))) b = none := fun b z => by rw [upd_ne (nb b z)]; exact z
          exact ⟨v, H', os, bare, ⟨fun b o z n => un.keep b o z (no b n), fun b o z n => un.slot b o z (no b n), fun b o z n => un.free b o z (no b n), un.there,
            fun b ys z => un.tups b ys (ot _ _ z fun y => by cases y), fun b o u z => un.frzs b o u (ot _ _ z fun y => by cases y), fun b ps z => un.tbls b ps (ot _ _ z fun y => by cases y)⟩, hok, rv, qq⟩
        | next => exact hres
        | brk => exact hres
        | cont => exact hres
    · exact F.run A outer s H args us [.ref a] Q E hr e0 hb r (go H hT (.inl ⟨o, h1⟩))
    · exact F.run A outer s H args us [.ref a] Q E hr e0 hb r (go H hT (.inr fun _ => .inr h1))
end
end Ml
set_option maxHeartbeats 2000000 -- wide
/-! Ml24: any(x[k] == y for x in e), e a tuple of tuples, y a captured int -/
namespace Ml
open L2 PyProof.Rows PySem PySem.Spec
/-- the item k of each, an int: is it j -/
def fe (k : Nat) (j : Int) : List D → Option (List Bool)
  | [] => some []
  | .tup ys :: r => match ys[k]?, fe k j r with
    | some (.int i), some bs => some ((i == j) :: bs)
    | _, _ => none
  | _ :: _ => none
def anyFE (k iy : Nat) (e : EvM) : EvM := fun γ S => match e γ S with
  | some (.tup xs, S') => match γ[iy]? with
    | some (some (.int j)) => match fe k j xs with
      | some bs => some (.bl (bs.any id), S')
      | none => none
    | _ => none
  | _ => none
/-- an item's test, of the heap h -/
def FeV (h : Heap) (k : Nat) (j : Int) (v : Value) (b : Bool) : Prop := ∃ (a : Addr) (its : Array Value) (i : Int) (t : Tok), v = .ref a ∧ IsTup h a its ∧ its.size ≤ sizeLine ∧ its[k]? = some (.int i t) ∧ b = (i == j)
theorem fe_vals {tb : List NdefX.NTab} {X : Cx} {pins : List (Addr × Obj)} {σ : L2.St} {H : Hp} {s : Shared} (I : Inv X pins σ H s) {m : List Addr} {k : Nat} {j : Int} : ∀ {xs : List D} {vs : List V} {us : List Value} {bs : List Bool}, Rps (kx tb X) H m xs vs → Vals vs us → fe k j xs = some bs →
    bs.length = us.length ∧ ∀ (i : Nat) (v : Value), us[i]? = some v → ∃ b, bs[i]? = some b ∧ FeV s.heap k j v b
  | [], vs, us, bs, h, r, e => by
    rw [Rps] at h
    subst h
    cases r
    cases e
    exact ⟨rfl, fun i v e => by simp at e⟩
  | x :: xs, vs, us, bs, h, r, e => by
    rw [Rps] at h
    obtain ⟨w, r0, rfl, h1, h2⟩ := h
    cases r with
    | cons rw rr =>
      cases x <;> simp only [fe, reduceCtorEq] at e
      rename_i ys
      split at e
      · rename_i i0 bs0 e1 e2
        cases e
        obtain ⟨l, f⟩ := fe_vals I h2 rr e2
        refine ⟨by simp [l], fun i v ev => ?_⟩
        cases i with
        | zero =>
          simp at ev
          subst ev
          rw [Rp] at h1
          obtain ⟨a, ws, rfl, ha, hw⟩ := h1
          cases rw
          obtain ⟨its, rv, pl, hz⟩ := I.tuple ha
          obtain ⟨v2, g1, g2⟩ := hw.get e1
          rw [Rp] at g2
          subst g2
          obtain ⟨u2, g3, g4⟩ := rv.get g1
          obtain ⟨t, rfl⟩ := g4
          refine ⟨_, rfl, a, its.toArray, i0, t, rfl, pl, ?_, by simpa using g3, rfl⟩
          rw [List.size_toArray, ← rv.length]
          exact hz
        | succ i =>
          obtain ⟨b, g1, g2⟩ := f i v (by simpa using ev)
          exact ⟨b, by simpa using g1, g2⟩
      · cases e
/-- what the test says at place i -/
def trB (bs : List Bool) (i : Nat) : Bool := bs.getD i false
theorem any_trB : ∀ (bs : List Bool), (List.range bs.length).any (trB bs) = bs.any id := fun bs => by
  rw [Bool.eq_iff_iff, List.any_eq_true, List.any_eq_true]; constructor
  · rintro ⟨i, hi, h⟩
    have hi' := List.mem_range.mp hi; unfold trB at h
    rw [List.getD_eq_getElem?_getD, List.getElem?_eq_getElem hi'] at h
    exact ⟨bs[i], List.getElem_mem hi', h⟩
  · rintro ⟨b, hb, h⟩
    obtain ⟨i, hi, e⟩ := List.getElem_of_mem hb; refine ⟨i, List.mem_range.mpr hi, ?_⟩
    unfold trB
    rw [List.getD_eq_getElem?_getD, List.getElem?_eq_getElem hi, e]
    exact h
section
variable {prog : Program}
variable {w : World}
/-- the element at a frame of the generator -/
theorem elt_fe {scope : Scope} {x y : Str} {k : Nat} {jj : Nat} {p1 p2 p3 p4 p5 : Pos} {cenv : Env} {A' : Around} {E' : Value → Shared → Prop} {v : Value} {b : Bool} {j : Int} {t0 : Tok} {c : Addr} {s₂ : Shared} {m₂ : Str → Option Value}
    (hs : cenv.scope = scope) (hk : scope.kind = .function) (hl : scope.names.lookup x = some .local) (hf : scope.names.lookup y = some .free) (hc : cenv.cells.lookup y = some c) (hcell : s₂.heap.IsCell c (some (.int j t0))) (hv : FeV s₂.heap k j v b) (hkn : k < 1000) (hn : s₂.heap.Ns cenv.locals m₂) (hm : m₂ x = some v)
    (hd : (x == ("__debug__" : Str)) = false := by decide) (hd2 : (y == ("__debug__" : Str)) = false := by decide) (hd3 : (y == ("__classdict__" : Str)) = false := by decide) :
    wpAny (model prog w) A' (eval (.Compare (.Subscript (.Name x p1) (.Constant (.int (k : Int)) jj p2) p3) [.Eq] [.Name y p4] p5) cenv) (fun r s₃ => r = .bool b ∧ Keeps s₂ s₃) E' s₂ := by
  obtain ⟨a, its, i, t, rfl, ht, hz, hi, rfl⟩ := hv
  refine wpAny_Compare1 ?_
  refine wpAny_Subscript_Constant_late ?_
  refine wpAny_Name (wpAny_loadName_local (by rw [hs]; exact hk) (show cenv.scope.names.lookup x = some .local by rw [hs]; exact hl) hn hm ?_) hd; refine wpAny_Constant_int ?_
  have hlt : k < its.size := (Array.getElem?_eq_some_iff.mp hi).1
  have hline := line63
  refine ⟨"tuple", _, slot_tuple_getitem.lookup, ht.typeIs, getItem_tuple (j := k) ht (by omega) (by omega) (seqIndex_of (Int.natCast_nonneg _) (by omega)) hi ?_⟩
  refine wpAny_Name (wpAny_loadName_free (by rw [hs]; exact hk) (show cenv.scope.names.lookup y = some .free by rw [hs]; exact hf) hc hcell ?_ hd3) hd2
  refine PySem.P.eq_int ⟨rfl, ⟨s₂.heap, _, rfl, fun _ _ e => e⟩⟩
end
/-- the looks at the scope of the generator -/
structure GSc (sc scope : Scope) (x y : Str) : Prop where
  (kind : scope.kind = .function) (co : scope.isCoroutine = false) (cell : ∀ z ∈ scope.names, z.2 ≠ .cell) (dot : scope.names.lookup (".0" : Str) = some NameKind.local) (loc : scope.names.lookup x = some .local) (fr : scope.names.lookup y = some .free) (up : sc.names.lookup y = some .cell) (free : ∀ z ∈ scope.names, z.2 = .free → sc.names.lookup z.1 = some .cell ∨ sc.names.lookup z.1 = some .free)
def gscB (sc scope : Scope) (x y : Str) : Bool := decide (scope.kind = .function) && !scope.isCoroutine && scope.names.all (fun z => !decide (z.2 = .cell)) && decide (scope.names.lookup (".0" : Str) = some NameKind.local) && decide (scope.names.lookup x = some .local) && decide (scope.names.lookup y = some .free) && decide (sc.names.lookup y = some .cell) &&
  scope.names.all (fun z => !decide (z.2 = .free) || decide (sc.names.lookup z.1 = some .cell) || decide (sc.names.lookup z.1 = some .free))
theorem gsc_by {sc scope : Scope} {x y : Str} (h : gscB sc scope x y = true) : GSc sc scope x y := by
  unfold gscB at h
  simp only [Bool.and_eq_true, Bool.not_eq_true', decide_eq_true_eq, List.all_eq_true, Bool.or_eq_true, decide_eq_false_iff_not] at h; obtain ⟨⟨⟨⟨⟨⟨⟨h1, h2⟩, h3⟩, h4⟩, h5⟩, h6⟩, h7⟩, h8⟩ := h
  exact ⟨h1, h2, h3, h4, h5, h6, h7, fun z hz e => by
    rcases h8 z hz with (q | q) | q
    · exact (q e).elim
    · exact .inl q
    · exact .inr q⟩
/-- what a growing table leaves -/
theorem sr_tab {K : Kx} {H H1 : Hp} {m : List Addr} {S : Sto} (hS : SR K H m S) (keep : ∀ (a : Addr) (u : HO), H a = some u → (∀ ps, u ≠ .tbl ps) → H1 a = some u) :
    Ext K H m H1 m ∧ ∀ (n : Nat) (a : Addr) (o : O), m[n]? = some a → S[n]? = some o → OR K H1 m a o := by
  have x : Ext K H m H1 m := ⟨⟨⟨[], by simp⟩, fun a vs z => by
    rcases z with (z | ⟨o, z⟩) | z
    · exact .inl (.inl (keep _ _ z fun ps y => by cases y))
    · exact .inl (.inr ⟨o, keep _ _ z fun ps y => by cases y⟩)
    · exact .inr z, fun a vs z => by
    rcases z with ⟨o, z⟩ | z
    · exact .inl ⟨o, keep _ _ z fun ps y => by cases y⟩
    · exact .inr z⟩, fun a od u z => keep _ _ z fun ps y => by cases y⟩
  refine ⟨x, fun n a o e1 e2 => ?_⟩
  have r := hS.at_ n a o e1 e2
  obtain ⟨u, hu1, hu2⟩ := r.there
  have k : ∀ w, H a = some w → H1 a = some w := fun w z => by rw [hu1] at z; cases z; exact keep _ _ hu1 fun ps y => by subst y; exact hu2
  cases o with
  | lst xs => obtain ⟨vs, q, r⟩ := r; exact ⟨vs, k _ q, r.mono x⟩
  | dk kvs => obtain ⟨vs, q, r⟩ := r; exact ⟨vs, k _ q, r.mono x⟩
  | dn lk kvs =>
    cases lk with
    | false => obtain ⟨xs, q, r⟩ := r; exact ⟨xs, k _ q, r.mono x⟩
    | true => obtain ⟨od, xs, q, r⟩ := r; exact ⟨od, xs, k _ q, r.mono x⟩
  | ins C fs => obtain ⟨dx, ws, q, r⟩ := r; exact ⟨dx, ws, k _ q, r.mono x⟩
  | dkl kvs => obtain ⟨od, ws, q, r⟩ := r; exact ⟨od, ws, k _ q, r.mono x⟩
  | fn i nd ws => obtain ⟨cl, c, vs, q, r, z, y, w⟩ := r; exact ⟨cl, c, vs, k _ q, keep _ _ r LamX.codeO_ne, z, y, w.mono x⟩
  | junk => obtain ⟨F, q⟩ := r; exact ⟨F, k _ q⟩
section
variable {tb : List NdefX.NTab} {X : Cx} {x y : Str} {k iy jj n : Nat} {p p1 p2 p3 p4 p5 px pos gpos : Pos} {iter : Expr} {ea : EvM} {scope : Scope} {c P : Addr} {nm : Nat → Nat → Str}
theorem me_anyFE (hr : Room n X.A) (hg : Gl X "any") (hm : X.mg "any" = none) (TB : LamX.TabB X.base X.mg c P) (hcode : X.env.code = .ref c) (hmT : (P, nm) ∈ tb) (hnm : nm gpos.line gpos.col = X.env.qual ++ "<genexpr>") (hu : ∀ p ∈ tb, p.1 = P → p.2 = nm)
    (G : GSc X.env.scope scope x y) (hN : X.N[iy]? = some y) (hkn : k < 1000) (hi : ME tb X iter ea) (hs : ∀ v, genFold iter X.env v = pure v)
    (hd : (x == ("__debug__" : Str)) = false := by decide) (hd2 : (y == ("__debug__" : Str)) = false := by decide) (hd3 : (y == ("__classdict__" : Str)) = false := by decide)
    (he : starEach [.GeneratorExp (.Compare (.Subscript (.Name x p1) (.Constant (.int (k : Int)) jj p2) p3) [.Eq] [.Name y p4] p5) [⟨.Name x px, iter, [], 0⟩] scope gpos] X.env = (false, eval (.GeneratorExp (.Compare (.Subscript (.Name x p1) (.Constant (.int (k : Int)) jj p2) p3) [.Eq] [.Name y p4] p5) [⟨.Name x px, iter, [], 0⟩] scope gpos) X.env) :: starEach [] X.env := by rfl) :
    ME tb X (.Call (.Name "any" p) [.GeneratorExp (.Compare (.Subscript (.Name x p1) (.Constant (.int (k : Int)) jj p2) p3) [.Eq] [.Name y p4] p5) [⟨.Name x px, iter, [], 0⟩] scope gpos] [] pos) (anyFE k iy ea) := by
  refine .mk fun pins s σ H Q I h => ?_
  obtain ⟨m, S, γ, d, S', hS, hγ, e1, q⟩ := h
  unfold anyFE at e1
  split at e1
  · rename_i xs S1 h1
    split at e1
    · rename_i j h2
      split at e1
      · rename_i bs h3
        cases e1
        obtain ⟨vj, hvj, rj⟩ := hγ.at_ iy _ h2
        rw [Rp] at rj
        subst rj
        refine wpAny_Call_Name_kw (ld_blt I hg hm boot_any ?_); refine PyProof.Rows.callWith_builtin1 ?_ he (by rfl)
        rw [he]
        show wpAny _ _ (spliced ((false, eval (.GeneratorExp (.Compare (.Subscript (.Name x p1) (.Constant (.int (k : Int)) jj p2) p3) [.Eq] [.Name y p4] p5) [⟨.Name x px, iter, [], 0⟩] scope gpos) X.env) :: backTo pos (starEach [] X.env))) _ _ s
        have hfree : ∀ z ∈ scope.names, z.2 = .free → ∃ c, X.env.cells.lookup z.1 = some c := fun z hz e => (G.free z hz e).elim (fun w => I.ok.has _ (.inl w)) fun w => I.ok.has _ (.inr w)
        refine Calls.spliced_cons ?_
        refine wpAny_GeneratorExp_walksQ hr.hd G.co (closure_ok hfree) G.cell G.dot G.loc G.kind (by have := hr.dp; omega) ?_ hs
        refine thn (hi.run pins s σ H (fun v H1 => ∃ m1, Ext (kx tb X) H m H1 m1 ∧ SR (kx tb X) H1 m1 S' ∧ Rp (kx tb X) H1 m1 (.tup xs) v) I ⟨m, S, γ, _, _, hS, hγ, h1, fun w H1 m1 x1 hS1 hw => ⟨m1, x1, hS1, hw⟩⟩) fun xv s1 ⟨v, H1, I1, r1, m1, x1, hS1, hv⟩ => ?_
        rw [Rp] at hv
        obtain ⟨a, vs, rfl, ha, hvs⟩ := hv
        cases r1
        obtain ⟨its, rv, pl, hz⟩ := I1.tuple ha
        obtain ⟨hbl, hfe⟩ := fe_vals I1 hvs rv h3
        -- the cell of y
        obtain ⟨cc, hcc⟩ := I1.ok.has y (.inl G.up)
        obtain ⟨t0, hcell⟩ : ∃ t0, s1.heap.IsCell cc (some (.int j t0)) := by
          obtain ⟨mm, hn, hl⟩ := I1.loc
          obtain ⟨u, r, l⟩ := hl iy y (.int j) hN hvj (.inr (.inl G.up))
          obtain ⟨t, rfl⟩ := r
          rcases l with ⟨z, _⟩ | ⟨_, a', ha', hc'⟩
          · have z' : X.env.scope.names.lookup y = some .local := z; rw [G.up] at z'
            cases z'
          · rw [hcc] at ha'
            cases ha'
            exact ⟨t, hc'⟩
        refine wpAny_pyIter_tuple pl ?_
        obtain ⟨ps, hP, htr, hco⟩ := hS1.tb (P, nm) hmT
        have hPs : s1.heap.get? P = some { cls := .none, data := .fields ps } := I1.hok P _ hP; have hPlt : P < s1.heap.objs.size := Heap.lt_size hPs
        -- behind all: the table has grown by more, the store stands
        have back : ∀ (H2 : Hp) (s' : Shared), Inv X pins σ H2 s' → (∀ (a : Addr) (u : HO), H1 a = some u → (∀ ps, u ≠ .tbl ps) → H2 a = some u) → TbOk tb H2 m1 → Q (.bl (bs.any id)) H2 := fun H2 s' J keep ht => by
          obtain ⟨x2, st⟩ := sr_tab hS1 keep
          exact q _ H2 m1 (x1.trans x2) ⟨ht, hS1.len, hS1.nd, st⟩ (by rw [Rp])
        generalize ho : ({ cls := .type "tuple_iterator", data := .fields #[.ref a, .int 0 0] } : Obj) = o
        have hP2 : (s1.heap.push o).get? P = some { cls := .none, data := .fields ps } := Heap.get?_push_of_some _ hPs; have cd : PySem.W.CodeHd (s1.heap.push o) c P := TB.code.keeps fun b u e => Heap.get?_push_of_some _ (I1.bk b u e)
        have lim2 : (s1.heap.push o).NoLimit := I1.nolimit.push o; have sz2 : (s1.heap.push o).objs.size = s1.heap.objs.size + 1 := Heap.size_push ..
        have hit : (s1.heap.push o).IsTupleIter s1.heap.objs.size a 0 := ⟨o, Heap.get?_push_size _ (by rw [← ho]; rfl), by rw [← ho], by rw [← ho]; rfl⟩
        have alt : a < s1.heap.objs.size := pl.lt
        -- what follows the code object: H2 is known at the end
        have cont : ∀ (code : Value) (h3 : Heap) (tk : Nat) (ps' : Array Value), Heap.ExtBut P (s1.heap.push o) h3 → (s1.heap.push o).objs.size ≤ h3.objs.size → h3.get? P = some { cls := .none, data := .fields ps' } →
            (∀ s' : Shared, (∀ b u, b ≠ s1.heap.objs.size → b < h3.objs.size → h3.get? b = some u → s'.heap.get? b = some u) → AllBare s'.gens → s'.os = s1.os → ∃ H2, Inv X pins σ H2 s' ∧ (∀ (a : Addr) (u : HO), H1 a = some u → (∀ ps, u ≠ .tbl ps) → H2 a = some u) ∧ TbOk tb H2 m1) →
            wpAny (model X.prog X.w) X.A (builtinsFor X.env.globals X.env.builtins) (fun bi s₄ => ∃ Ia fp wr n₀ Pf St₀ pz F, Value.ref s1.heap.objs.size = .ref Ia ∧ (∀ A' : Around, A'.handled = none → PySem.Walks X.prog X.w A' Ia fp wr n₀ Pf St₀) ∧ St₀ 0 s₄.heap ∧ (∀ b ∈ fp, b < s₄.heap.objs.size) ∧ s₄.heap.NoLimit ∧ cStatics ∉ wr ∧
              (∀ href : Heap, (∀ b o, s₄.heap.get? b = some o → href.get? b = some o) → QuietGen X.prog X.w (genEnv scope (cloFrom X.env.cells scope.names []) s₄.heap.objs.size code bi X.env) x [] (.Compare (.Subscript (.Name x p1) (.Constant (.int (k : Int)) jj p2) p3) [.Eq] [.Name y p4] p5) (List.range s₄.heap.objs.size) wr Pf pz F href) ∧ (∀ a h₅ tk gs, gs.bare = true → s₄.heap.objs.size < a → h₅.objs.size = a + 1 → (∀ b o, s₄.heap.get? b = some o → h₅.get? b = some o) →
                WalksS X.prog X.w X.A.in4 a (a :: s₄.heap.objs.size :: List.range s₄.heap.objs.size) (s₄.heap.objs.size :: wr) (GenOnlyQ s₄.gens.size) (passing pz n₀ 0).length (fun j y => ∃ i, (passing pz n₀ 0)[j]? = some i ∧ F i y) (GenAt X.prog X.w X.A.in4 a s₄.gens.size s₄.heap.objs.size (List.range s₄.heap.objs.size) wr pz n₀ F) →
                GenAt X.prog X.w X.A.in4 a s₄.gens.size s₄.heap.objs.size (List.range s₄.heap.objs.size) wr pz n₀ F 0 { s₄ with gens := s₄.gens.push gs, toks := tk, heap := h₅ } → wpAny (model X.prog X.w) X.A (spliced (backTo pos (starEach [] X.env))) (fun us s' => wpAny (model X.prog X.w) X.A (call (.builtin "any") (Value.ref a :: us)) (EP X pins σ Q) X.xe s') X.xe { s₄ with gens := s₄.gens.push gs, toks := tk, heap := h₅ })) X.xe { s1 with heap := h3, toks := tk } := by
          intro code h3 tk ps' hx hsz hP3 hend
          obtain ⟨bm, ob, e1, e2, e3, e4, e5, e6, e7, e8⟩ := TB.bm; have hcP : cStatics ≠ P := fun e => by
            obtain ⟨_, hns, _⟩ := I1.nolimit; obtain ⟨o', es, ep, ho, hd, _⟩ := hns
            rw [e, hPs] at ho
            cases ho
            cases hd
          have hcl : cStatics < s1.heap.objs.size := let ⟨_, hns, _⟩ := I1.nolimit; hns.lt; have keep3 : ∀ b u, b ≠ P → s1.heap.get? b = some u → h3.get? b = some u := fun b u hb e => hx b u hb (Heap.get?_push_of_some _ e)
          refine wpAny_builtinsFor (m := X.mg) (by rw [I1.ok.glob]; exact ((I1.mod.glob.keeps I1.bk).push o).extBut hx TB.gP) e1 e2 (keep3 _ _ e4 (I1.bk _ _ e5)) e6 e7 e8 ?_; refine ⟨s1.heap.objs.size, [s1.heap.objs.size, a], [s1.heap.objs.size], its.toArray.size, (fun i v => its.toArray[i]? = some v), _, (fun _ => true), (fun i r => r = .bool (trB bs i)), rfl, fun A' hA => PySem.Walks.tuple hA _ _ (Nat.ne_of_lt alt) _, ?_, ?_, lim2.extBut hx hcP, ?_, ?_, ?_⟩
          · refine ⟨hit.extBut hx (Ne.symm (Nat.ne_of_lt hPlt)), ?_⟩
            obtain ⟨ob, g1, g2⟩ := pl
            refine ⟨ob, keep3 _ _ (fun z => ?_) g1, g2⟩
            subst z
            rw [hPs] at g1
            cases g1
            obtain ⟨g3, _⟩ := g2
            cases g3
          · intro b hb
            show b < h3.objs.size
            have hsz' := hsz
            rw [sz2] at hsz'
            simp at hb
            rcases hb with z | z
            · rw [z]; exact Nat.lt_of_lt_of_le (Nat.lt_succ_self _) hsz'
            · rw [z]; exact Nat.lt_of_lt_of_le (Nat.lt_succ_of_lt alt) hsz'
          · intro z
            simp at z
            exact Nat.ne_of_lt hcl z
          · intro href hhref; refine ⟨fun A' E' i v s₂ m₂ hA hPv hn hm hk => ?_, fun A' E' i v s₂ m₂ hA hPv hp hn hm hk => ?_⟩
            · simp only [List.forIn_nil]
              exact wpAny_pure ⟨rfl, s₂.heap, s₂.toks, rfl, fun _ _ e => e⟩
            · have up : ∀ b u, b ≠ P → s1.heap.get? b = some u → s₂.heap.get? b = some u := fun b u hb e => by
                have e3 := keep3 b u hb e
                exact hk b (List.mem_range.mpr (Heap.lt_size e3)) (fun z => by simp at z; exact Nat.ne_of_lt (Heap.lt_size e) z) u (hhref b u e3)
              obtain ⟨b, hb, a1, its1, i1, t1, rfl, g1, g2, g3, g4⟩ := hfe i v (by simpa using hPv)
              have hFe : FeV s₂.heap k j (.ref a1) b := by
                obtain ⟨ob, w1, w2, w3⟩ := g1
                refine ⟨a1, its1, i1, t1, rfl, ⟨ob, up _ _ (fun z => ?_) w1, w2, w3⟩, g2, g3, g4⟩
                subst z
                rw [hPs] at w1
                cases w1
                cases w2
              have hC2 : s₂.heap.IsCell cc (some (.int j t0)) := by
                obtain ⟨ob, w1, w2⟩ := hcell
                refine ⟨ob, up _ _ (fun z => ?_) w1, w2⟩
                subst z
                rw [hPs] at w1
                cases w1
                cases w2
              have htr : trB bs i = b := by
                unfold trB
                rw [List.getD_eq_getElem?_getD, hb]; rfl
              refine wpAny_mono (elt_fe (scope := scope) rfl G.kind G.loc G.fr (NdefX.clo_has hfree (PySem.mem_of_lookup G.fr) hcc) hC2 hFe hkn hn hm hd hd2 hd3) (fun r s3 hr3 => ⟨by rw [htr]; exact hr3.1, hr3.2⟩) fun _ _ e => e
          · intro g h5 tk5 gs hgb hag hsz5 hk5 W5 hat; simp only [GxR.passing_true, List.length_range] at W5
            refine Calls.spliced_nil ?_
            have W := W5.in4_1
            refine call_any_walkS (W.self 0 _ _ _ hat ⟨g, _, _, _, _, _, _, trB bs, rfl, W, hat, fun i v s Q E hP hQ => ?_, fun s' hmv => ?_⟩)
            · obtain ⟨i', hi', rfl⟩ := hP
              obtain ⟨hj', ej'⟩ := List.getElem?_eq_some_iff.mp hi'
              rw [List.getElem_range] at ej'
              subst ej'
              exact wpAny_truthy_bool hQ
            · obtain ⟨H2, J, keep, ht⟩ := hend s' (fun b u hb hlt e => hmv.heap b u (fun z => by
                rcases (List.mem_cons.mp z) with zh | z
                · rw [zh] at hlt
                  exact Nat.lt_irrefl _ hlt
                · exact hb (by simpa using z)) (hk5 b u e)) (AllBare.movedS (I1.bare.push hgb) hmv) hmv.os
              refine ⟨.bl _, H2, J, rfl, ?_⟩; have : its.toArray.size = bs.length := by rw [List.size_toArray, hbl]
              rw [this, any_trB]
              exact back H2 s' J keep ht
        refine ⟨lim2, ?_⟩
        have nN : ∀ b, H1 b = none → b ≠ P := fun b e z => by rw [z, hP] at e; cases e
        have szl : ∀ b u, s1.heap.get? b = some u → b ≠ s1.heap.objs.size := fun b u e => Nat.ne_of_lt (Heap.lt_size e); cases hf : codeAmong gpos ps.toList with
        | none =>
          refine wpAny_genexprCodeX hcode (cd.code hP2 htr) (cd.tab hP2) hf fun c' h' tk hx hge hlt hco' hrec htab' _ => ?_
          refine cont _ h' tk _ hx (Nat.le_trans hge (Nat.le_of_lt hlt)) htab'.2 fun s' hk hb hos => ?_
          have hge' : s1.heap.objs.size < c' := by
            have z := hge
            rw [sz2] at z
            exact z
          have nC : H1 c' = none := I1.hok.fresh (Nat.le_of_lt hge')
          obtain ⟨c2, oc, vs2, t2, e2, hoc, hd2', hv2⟩ := hrec
          cases e2
          have kk : ∀ b u, b ≠ P → s1.heap.get? b = some u → s'.heap.get? b = some u := fun b u hb e => by
            have e3 := hx b u hb (Heap.get?_push_of_some _ e)
            exact hk b u (szl b u e) (Heap.lt_size e3) e3
          have hPe : s'.heap.get? P = some { cls := .none, data := .fields (ps ++ #[rawInt gpos.line, rawInt gpos.col, .ref c']) } := hk P _ (Nat.ne_of_lt hPlt) (Heap.lt_size htab'.2) htab'.2
          have hCe : s'.heap.get? c' = some oc := hk c' _ (Nat.ne_of_gt hge') hlt hoc
          have J0 := LamX.inv_table (t' := s'.toks) (more := #[rawInt gpos.line, rawInt gpos.col, .ref c']) (h' := s'.heap) I1 hP kk hPe (Nat.le_of_lt hge') ⟨oc, vs2, t2, hCe, hd2', hv2⟩
          have nPc : P ≠ c' := fun z => by rw [← z, hP] at nC; cases nC
          have hP3 : upd (upd H1 P (.tbl (ps ++ #[rawInt gpos.line, rawInt gpos.col, .ref c']))) c' (LamX.CodeO c' (X.env.qual ++ "<genexpr>")) P = some (.tbl (ps ++ #[rawInt gpos.line, rawInt gpos.col, .ref c'])) := by rw [upd_ne nPc, upd_same]
          have J1 := GxR.inv_tab (more := #[]) (h' := s'.heap) (g' := s'.gens) (d' := s'.drawn) (t' := s'.toks) J0 hP3 (fun b u _ e => e) (by rw [Array.append_empty]; exact hPe) hb
          have es := GxR.sh_eta s1 s' hos
          rw [Array.append_empty] at J1
          have keep : ∀ (a : Addr) (u : HO), H1 a = some u → (∀ ps, u ≠ .tbl ps) → upd (upd (upd H1 P (.tbl (ps ++ #[rawInt gpos.line, rawInt gpos.col, .ref c']))) c' (LamX.CodeO c' (X.env.qual ++ "<genexpr>"))) P (.tbl (ps ++ #[rawInt gpos.line, rawInt gpos.col, .ref c'])) a = some u := fun a u e n => by
            have h1 : a ≠ P := fun z => by rw [z, hP] at e; cases e; exact n _ rfl
            rw [upd_ne h1, upd_ne (ne_of_none e nC), upd_ne h1]; exact e
          have cm : c' ∉ m1 := hS1.none nC
          refine ⟨_, (by rw [← es]; exact J1), keep, fun pp hpp => ?_⟩
          by_cases hpe : pp.1 = P
          · refine ⟨_, by rw [hpe]; exact upd_same, ?_, fun pos' cv e => ?_⟩
            · have : (ps ++ #[rawInt gpos.line, rawInt gpos.col, .ref c']).toList = ps.toList ++ [rawInt gpos.line, rawInt gpos.col, .ref c'] := by simp
              rw [this]
              exact PySem.TriplesOk_snoc _ _ _ _ htr
            · have : (ps ++ #[rawInt gpos.line, rawInt gpos.col, .ref c']).toList = ps.toList ++ [rawInt gpos.line, rawInt gpos.col, .ref c'] := by simp
              rw [this] at e
              rw [hu pp hpp hpe]
              rcases NdefX.among_app2 _ htr e with z | ⟨z, z1, z2⟩
              · obtain ⟨c0, w1, w2, w3⟩ := hco pos' cv z
                exact ⟨c0, w1, keep _ _ w2 LamX.codeO_ne, w3⟩
              · refine ⟨c', z, ?_, cm⟩
                rw [← z1, ← z2]
                show upd _ P _ c' = some (LamX.CodeO c' (nm gpos.line gpos.col))
                rw [upd_ne (Ne.symm nPc), upd_same, hnm]
          · obtain ⟨ps2, w1, w2, w3⟩ := hS1.tb pp hpp
            refine ⟨ps2, ?_, w2, fun pos' cv e => ?_⟩
            · rw [upd_ne hpe, upd_ne (ne_of_none w1 nC), upd_ne hpe]; exact w1
            · obtain ⟨c0, v1, v2, v3⟩ := w3 pos' cv e
              exact ⟨c0, v1, keep _ _ v2 LamX.codeO_ne, v3⟩
        | some cv =>
          refine wpAny_genexprCode_hit hcode (cd.code hP2 htr) hf ?_
          refine cont cv (s1.heap.push o) s1.toks ps (Heap.ExtBut.refl _ _) (Nat.le_refl _) hP2 fun s' hk hb hos => ?_
          have kk : ∀ b u, s1.heap.get? b = some u → s'.heap.get? b = some u := fun b u e => by
            have e3 : (s1.heap.push o).get? b = some u := Heap.get?_push_of_some _ e
            exact hk b u (szl b u e) (Heap.lt_size e3) e3
          have J1 := GxR.inv_tab (more := #[]) (h' := s'.heap) (g' := s'.gens) (d' := s'.drawn) (t' := s'.toks) I1 hP (fun b u _ e => kk b u e) (by rw [Array.append_empty]; exact kk P _ hPs) hb
          have es := GxR.sh_eta s1 s' hos
          rw [Array.append_empty] at J1
          have heq : upd H1 P (.tbl ps) = H1 := by
            funext b
            by_cases hb : b = P
            · rw [hb, upd_same, hP]
            · rw [upd_ne hb]
          rw [heq, es] at J1
          exact ⟨H1, J1, fun _ _ e _ => e, hS1.tb⟩
      · cases e1
    · cases e1
  · cases e1
end
end Ml
set_option maxHeartbeats 1000000 -- wide
/-! Ml25: the written part without some tables -/
namespace Ml
open L2 PyProof.Rows PySem PySem.Spec
theorem hu1b {k : Nat} {A : Around} (hr : Room k A) : A.units + 1 < cLine := by have := hr.un; omega
/-- without these -/
def less (K : PySem.W.Frag) (ts : List Addr) : PySem.W.Frag := K.filter fun p => !ts.contains p.1
theorem less_get {ts : List Addr} {a : Addr} (h : a ∉ ts) : ∀ K : PySem.W.Frag, (less K ts).lookup a = K.lookup a
  | [] => rfl
  | (b, o) :: K => by
    have ih := less_get h K
    unfold less at ih ⊢
    by_cases hb : b ∈ ts
    · rw [List.filter_cons_of_neg (by simpa using hb), ih]
      have : (a == b) = false := by
        rw [beq_eq_false_iff_ne]
        exact fun z => h (by rw [z]; exact hb)
      rw [List.lookup_cons, this]
    · rw [List.filter_cons_of_pos (by simpa using hb), List.lookup_cons, List.lookup_cons, ih]
theorem less_none {ts : List Addr} {a : Addr} (h : a ∈ ts) : ∀ K : PySem.W.Frag, (less K ts).lookup a = none
  | [] => rfl
  | (b, o) :: K => by
    have ih := less_none h K
    unfold less at ih ⊢
    by_cases hb : b ∈ ts
    · rw [List.filter_cons_of_neg (by simpa using hb), ih]
    · have : (a == b) = false := by
        rw [beq_eq_false_iff_ne]
        exact fun z => hb (by rw [← z]; exact h)
      rw [List.filter_cons_of_pos (by simpa using hb), List.lookup_cons, this, ih]
/-- all but empty tables is told still -/
structure Less (K K' : PySem.W.Frag) : Prop where
  up : ∀ a o, K.lookup a = some o → o ≠ PySem.W.tabObj #[] → K'.lookup a = some o
  dn : ∀ a o, K'.lookup a = some o → K.lookup a = some o
theorem less_ok {K : PySem.W.Frag} {ts : List Addr} (h : ∀ a ∈ ts, K.lookup a = some (PySem.W.tabObj #[])) : Less K (less K ts) := by
  refine ⟨fun a o e n => ?_, fun a o e => ?_⟩
  · by_cases ha : a ∈ ts
    · rw [h a ha] at e; cases e; exact (n rfl).elim
    · rw [less_get ha]; exact e
  · by_cases ha : a ∈ ts
    · rw [less_none ha] at e; cases e
    · rw [less_get ha] at e; exact e
section
variable {K K' : PySem.W.Frag}
theorem Less.inn (L : Less K K') {h : Heap} (X : K.In h) : K'.In h := fun a o e => X a o (L.dn a o e)
theorem Less.ns (L : Less K K') {a : Addr} {n : Str} {r : Option Value} (e : PySem.W.nsIn K a n = some r) : PySem.W.nsIn K' a n = some r := by
  unfold PySem.W.nsIn at e ⊢
  split at e
  · rename_i c d es n' sl q
    rw [L.up _ _ q fun z => by cases z]
    exact e
  · cases e
theorem Less.look (L : Less K K') {a : Addr} {o : Obj} (e : K.lookup a = some o) (n : o.data ≠ .fields #[]) : K'.lookup a = some o := L.up a o e fun z => n (by rw [z])
theorem Less.code (L : Less K K') {cd : Value} {q : Str} (e : PySem.W.codeIn K cd q = true) : PySem.W.codeIn K' cd q = true := by
  unfold PySem.W.codeIn at e ⊢
  split at e
  · rename_i c
    split at e
    · rename_i d1 d2 vs sl h
      rw [L.up _ _ h fun z => by cases z; simp at e]
      exact e
    · cases e
  · cases e
theorem Less.hd (L : Less K K') {c P : Addr} (e : PySem.W.codeHdIn K c P = true) : PySem.W.codeHdIn K' c P = true := by
  unfold PySem.W.codeHdIn at e ⊢
  split at e
  · rename_i d vs sl h
    rw [L.up _ _ h fun z => by cases z]
    exact e
  · cases e
theorem Less.keep (L : Less K K') {a : Addr} {oc : Value} {od : Option Addr} {fd : FuncData} {sl : Array (Option Value)} (l : K.lookup a = some ⟨oc, od, .func fd, sl⟩) : PySem.W.keepIn K' (.ref a) = true := by
  have e := L.up _ _ l fun z => by cases z
  unfold PySem.W.keepIn
  simp only [e]
end
end Ml
set_option maxHeartbeats 1000000 -- wide
/-! Ml26: a text's facts by names -/
namespace Ml
open L2 PyProof.Rows PySem PySem.Spec
/-- a written scalar -/
def litB : D → Value → Bool
  | .non, .none => true
  | .bl b, .bool c => b == c
  | .int di, .int vi _ => decide (di = vi)
  | .str dx, .str vx _ => decide (dx = vx)
  | _, _ => false
def litAll : List D → List Value → Bool
  | [], [] => true
  | d :: ds, u :: us => litB d u && litAll ds us
  | _, _ => false
theorem litB_ok {d : D} {u : Value} (h : litB d u = true) : ∃ v, RelV v u ∧ ∀ (K : Kx) (H : Hp) (m : List Addr), Rp K H m d v := by
  unfold litB at h
  split at h
  · exact ⟨.non, rfl, fun _ _ _ => by rw [Rp]⟩
  · rename_i b c; rw [eq_of_beq h]; exact ⟨.bl c, rfl, fun _ _ _ => by rw [Rp]⟩
  · rename_i i j t; rw [of_decide_eq_true h]; exact ⟨.int j, ⟨t, rfl⟩, fun _ _ _ => by rw [Rp]⟩
  · rename_i x y t; rw [of_decide_eq_true h]; exact ⟨.str y, ⟨t, rfl⟩, fun _ _ _ => by rw [Rp]⟩
  · cases h
theorem litAll_ok : ∀ {ds : List D} {us : List Value}, litAll ds us = true → ∃ vs, Vals vs us ∧ ∀ (K : Kx) (H : Hp) (m : List Addr), Rps K H m ds vs
  | [], [], _ => ⟨[], .nil, fun _ _ _ => Rps.nil⟩
  | [], _ :: _, h => by cases h
  | _ :: _, [], h => by cases h
  | d :: ds, u :: us, h => by
    have h' : (litB d u && litAll ds us) = true := h
    rw [Bool.and_eq_true] at h'
    obtain ⟨v, r1, r2⟩ := litB_ok h'.1
    obtain ⟨vs, s1, s2⟩ := litAll_ok h'.2
    exact ⟨v :: vs, .cons r1 s1, fun K H m => Rps.cons (r2 K H m) (s2 K H m)⟩
/-- a written tuple -/
def tupAt (K : PySem.W.Frag) (a : Addr) (xs : List D) : Bool := match K.lookup a with
  | some ⟨.type c, _, .seq its _, _⟩ => decide (c = "tuple") && (decide (its.size ≤ sizeLine) && litAll xs its.toList)
  | _ => false
theorem tupAt_ok {K : PySem.W.Frag} {a : Addr} {xs : List D} (h : tupAt K a xs = true) (P : Program) (w : World) (b : Heap) (t : List NdefX.NTab) (H : Hp) (m : List Addr) : Rp ⟨K, P, w, b, t⟩ H m (.tup xs) (.ref a) := by
  unfold tupAt at h
  split at h
  · rename_i c d its n sl q
    rw [Bool.and_eq_true, Bool.and_eq_true] at h
    obtain ⟨h1, h2, h3⟩ := h
    obtain ⟨vs, s1, s2⟩ := litAll_ok h3
    rw [Rp]
    exact ⟨a, vs, rfl, .inr ⟨_, its, n, q, congrArg Value.type (of_decide_eq_true h1), rfl, of_decide_eq_true h2, s1⟩, s2 _ H m⟩
  · cases h
/-- a written dict's entries: tuples, or none -/
def entAt (K : PySem.W.Frag) (a : Addr) (p : Str × Option D) : Bool := match PySem.W.nsIn K a p.1, p.2 with
  | some (some (.ref t)), some (.tup xs) => tupAt K t xs
  | some none, none => true
  | _, _ => false
theorem cdict_of {K : PySem.W.Frag} {w : World} {a : Addr} {tbl : List (Str × Option D)} (h : ∃ es n, KDict K w a es n) (e : tbl.all (entAt K a) = true) : CDict K w a tbl := by
  obtain ⟨es, n, h⟩ := h
  refine ⟨⟨es, n, h.at_, h.lit⟩, h.low, fun z r hz => ?_⟩
  have e1 := List.all_eq_true.mp e _ hz
  unfold entAt at e1
  split at e1
  · rename_i t xs q1 q2
    have q2' : r = some (.tup xs) := q2
    subst q2'
    exact ⟨_, .ref t, q1, rfl, fun P b t0 H m => tupAt_ok e1 P w b t0 H m⟩
  · rename_i q1 q2
    have q2' : r = none := q2
    subst q2'
    exact q1
  · cases e1
section
variable {K : PySem.W.Frag} {x qual : Str} {st : Stmt} {f : Addr} {fd : FuncData}
theorem fun_of (F : FunD K x qual (defArgs st) (defBody st) (defScope st) [] [] f fd) : Fun K x qual st f fd := by
  obtain ⟨oc, od, dV, kV, doc, pm, an, cdv, ct, osl, e, l, c, d, k⟩ := F.ex
  rcases d with ⟨_, rfl⟩ | ⟨n, _⟩
  · exact ⟨⟨oc, od, kV, doc, pm, an, cdv, ct, osl, e, l, c⟩, F.kp⟩
  · exact (n rfl).elim
theorem funC_of {p : Str × Option Str} (F : FunD K x qual (defArgs st) (defBody st) (defScope st) [] [] (He.fAd K p) fd) : FunC K x qual st (He.fAd K p) fd (He.cT K p).1 := by
  obtain ⟨oc, od, dV, kV, doc, pm, an, cdv, ct, osl, e, l, c, d, k⟩ := F.ex
  rcases d with ⟨_, rfl⟩ | ⟨n, _⟩
  · obtain ⟨c0, rfl⟩ := He.codeIn_ref c
    have : (He.cT K p).1 = c0 := He.codeOf_eq l (by rw [e])
    rw [this]
    exact ⟨oc, od, kV, doc, pm, an, ct, osl, e, l, c⟩
  · exact (n rfl).elim
end
end Ml
/-! Ml27: x is a bool, x a bool, an int, a text or None. -/
namespace Ml
open L2 PyProof.Rows PySem PySem.Spec
def sameF : D → Bool → Option Bool
  | .non, _ => some false
  | .bl a, b => some (decide (a = b))
  | .int _, _ => some false
  | .str _, _ => some false
  | _, _ => none
def isT (neg : Bool) : D → D → Sto → Option (D × Sto) := fun x y S => match y with
  | .bl b => match sameF x b with
    | some r => some (.bl (if neg then !r else r), S)
    | none => none
  | _ => none
/-- what `is` tells of plain values -/
def sameV : V → Bool → Option Bool
  | .non, _ => some false
  | .bl a, b => some (decide (a = b))
  | .int _, _ => some false
  | .str _, _ => some false
  | _, _ => none
def rIsT (neg : Bool) : R2 := fun x y H Q => ∃ b r, y = .bl b ∧ sameV x b = some r ∧ Q (.bl (if neg then !r else r)) H
theorem op_isT {X : Cx} : OpR X (compareOp .Is) (rIsT false) := fun pins s σ H x y vx vy Q I rx ry h => by
  obtain ⟨b, r, rfl, hr, q⟩ := h
  cases x <;> simp only [sameV, Option.some.injEq, reduceCtorEq] at hr
  case bl a => exact op_is_bl pins s σ H _ _ _ _ Q I rx ry ⟨a, b, rfl, rfl, by rw [hr]; exact q⟩
  all_goals
    cases ry
    subst hr
    first | obtain ⟨t, rfl⟩ := rx | cases rx
    exact wpAny_is_other rfl (fun z => by cases z) ⟨.bl false, H, I, rfl, q⟩
theorem op_isnotT {X : Cx} : OpR X (compareOp .IsNot) (rIsT true) := fun pins s σ H x y vx vy Q I rx ry h => by
  obtain ⟨b, r, rfl, hr, q⟩ := h
  cases x <;> simp only [sameV, Option.some.injEq, reduceCtorEq] at hr
  case bl a => exact op_isnot_bl pins s σ H _ _ _ _ Q I rx ry ⟨a, b, rfl, rfl, by rw [hr]; exact q⟩
  all_goals
    cases ry
    subst hr
    first | obtain ⟨t, rfl⟩ := rx | cases rx
    exact wpAny_isNot_other rfl (fun z => by cases z) ⟨.bl true, H, I, rfl, q⟩
theorem isT_ok {K : Kx} {neg : Bool} : FOk2 K (isT neg) (rIsT neg) := by
  intro x y S d S' e H m vx vy Q hS hx hy q
  unfold isT at e
  split at e
  · rename_i b
    rw [Rp] at hy
    subst hy
    split at e
    · rename_i r hr
      cases e
      cases x <;> simp only [sameF, Option.some.injEq, reduceCtorEq] at hr <;> (rw [Rp] at hx; subst hx; exact ⟨b, r, rfl, by simpa [sameV] using hr, fin_bl hS q⟩)
    · cases e
  · cases e
theorem isNT_ok {K : Kx} : FOk2 K (isT true) (rIsT true) := isT_ok
theorem isPT_ok {K : Kx} : FOk2 K (isT false) (rIsT false) := isT_ok
end Ml
/-! Ml28: d[k] of a dict that may be locked. -/
namespace Ml
open L2 PyProof.Rows PySem PySem.Spec
def dkAt : O → Option (List (Key × D))
  | .dk kvs => some kvs
  | .dkl kvs => some kvs
  | _ => none
def getL : D → D → Sto → Option (D × Sto)
  | .ref n, y, S => match (S[n]?).bind dkAt, keyD y with
    | some kvs, some k => match valD kvs k with
      | some d => some (d, S)
      | none => none
    | _, _ => none
  | _, _, _ => none
theorem SR.dkAt {K : Kx} {H : Hp} {m : List Addr} {S : Sto} {n : Nat} {kvs : List (Key × D)} (hS : SR K H m S) (e : (S[n]?).bind dkAt = some kvs) {a : Addr} (ha : m[n]? = some a) : ∃ ws, Rd H a (.dK ws) ∧ Rkv K H m kvs ws := by
  cases h : S[n]? with
  | none => rw [h] at e; cases e
  | some o =>
    rw [h] at e
    have r := hS.at_ n a o ha h
    cases o <;> simp [Ml.dkAt] at e
    · subst e
      obtain ⟨ws, r1, r2⟩ := r
      exact ⟨ws, .inl r1, r2⟩
    · subst e
      obtain ⟨od, ws, r1, r2⟩ := r
      exact ⟨ws, .inr ⟨od, r1⟩, r2⟩
theorem me_getL {tb : List NdefX.NTab} {X : Cx} {a b : Expr} {ea eb : EvM} {pos : Pos} (hu : X.A.units + 1 < cLine) (ha : ME tb X a ea) (hb : ME tb X b eb) (hs : NoSl b := by exact fun _ _ => rfl) : ME tb X (.Subscript a b pos) (binM getL ea eb) := PE.imp (pe_dget hu ha hb hs) fun σ H Q h => by
  obtain ⟨m, S, γ, d, S', hS, hγ, e, q⟩ := h
  unfold binM at e
  split at e
  · cases e
  · rename_i x S1 h1
    split at e
    · cases e
    · rename_i y S2 h2
      refine ⟨m, S, γ, _, _, hS, hγ, h1, fun w H1 m1 x1 hS1 hw => ?_⟩
      refine ⟨m1, S1, γ, _, _, hS1, hγ.mono x1, h2, fun u H2 m2 x2 hS2 hv => ?_⟩
      unfold getL at e
      split at e
      · rename_i n
        split at e
        · rename_i kvs k h3 h4
          split at e
          · rename_i d2 h5
            cases e
            have hw2 := hw.mono x2
            rw [Rp] at hw2
            obtain ⟨c, hc, rfl⟩ := hw2
            obtain ⟨ws, g1, g2⟩ := hS2.dkAt h3 hc
            rcases g2.valK k with ⟨z, _⟩ | ⟨d3, v, z1, z2, r⟩
            · rw [h5] at z; cases z
            · rw [h5] at z1; cases z1
              rw [keyD_ok hv h4]
              exact ⟨c, v, rfl, .inl ⟨ws, k, g1, rfl, z2.symm⟩, q v H2 m2 (x1.trans x2) hS2 r⟩
          · cases e
        · cases e
      · cases e
end Ml
/-! Ml29: a, b = a list. -/
namespace Ml
open L2 PyProof.Rows PySem PySem.Spec
def lstG (n : Nat) (g : List D → Sl → Sto → Option (Sl × Sto)) : TvM := fun d γ S => match d with
  | .ref r => match S[r]? with
    | some (.lst xs) => if xs.length = n then g xs γ S else none
    | _ => none
  | _ => none
theorem mg_lst {tb : List NdefX.NTab} {X : Cx} {es : List Expr} {pos : Pos} {k n : Nat} {g : List D → Sl → Sto → Option (Sl × Sto)} (hc : X.calm = true) (h : MGs tb X es g) (hn : (assignEach es X.env).length = n := by rfl) (hst : (assignEach es X.env).findIdx? (·.1) = none := by rfl) : MG tb X (.Tuple es k pos) (lstG n g) :=
  PG.imp (pg_lst hc h hn hst) fun v σ H Q hw => by
    obtain ⟨m, S, γ, d, γ', S', hS, hγ, hd, e, q⟩ := hw
    unfold lstG at e
    split at e
    · rename_i r
      split at e
      · rename_i xs h1
        split at e
        · rename_i hl
          rw [Rp] at hd
          obtain ⟨a, ea, rfl⟩ := hd
          obtain ⟨a', ws, m1, k1, r1⟩ := hS.lst h1
          rw [ea] at m1; cases m1
          exact ⟨a, ws, rfl, .inl (.inl k1), by rw [r1.length]; exact hl, m, S, γ, xs, γ', S', hS, hγ, r1, e, q⟩
        · cases e
      · cases e
    · cases e
end Ml
/-! Mw: what must hold for a piece to compute a value with a wanted property; one rule for each piece. -/
namespace Ml
open L2 PyProof.Rows PySem PySem.Spec
structure wE (e : EvM) (γ : Sl) (S : Sto) (Q : D → Sto → Prop) : Prop where
  ex : ∃ d S', e γ S = some (d, S') ∧ Q d S'
structure wC (c : CvM) (γ : Sl) (S : Sto) (Q : Bool → Sto → Prop) : Prop where
  ex : ∃ d S', c γ S = some (d, S') ∧ Q d S'
structure wA (r : AvM) (γ : Sl) (S : Sto) (Q : List D → Sto → Prop) : Prop where
  ex : ∃ d S', r γ S = some (d, S') ∧ Q d S'
structure wO (r : OvM) (γ : Sl) (S : Sto) (Q : Option Int → Sto → Prop) : Prop where
  ex : ∃ d S', r γ S = some (d, S') ∧ Q d S'
structure wI (r : IvM) (γ : Sl) (S : Sto) (Q : Option (Nat × O) → List D → Sto → Prop) : Prop where
  ex : ∃ ck xs S', r γ S = some (ck, xs, S') ∧ Q ck xs S'
structure wG (g : TvM) (d : D) (γ : Sl) (S : Sto) (Q : Sl → Sto → Prop) : Prop where
  ex : ∃ γ' S', g d γ S = some (γ', S') ∧ Q γ' S'
structure wGs (g : List D → Sl → Sto → Option (Sl × Sto)) (d : List D) (γ : Sl) (S : Sto) (Q : Sl → Sto → Prop) : Prop where
  ex : ∃ γ' S', g d γ S = some (γ', S') ∧ Q γ' S'
structure wS (s : SvM) (γ : Sl) (S : Sto) (Q : Fl → Sl → Sto → Prop) : Prop where
  ex : ∃ f γ' S', s γ S = some (f, γ', S') ∧ Q f γ' S'
structure w1 (F : List D → Sto → Option (D × Sto)) (xs : List D) (S : Sto) (Q : D → Sto → Prop) : Prop where
  ex : ∃ d S', F xs S = some (d, S') ∧ Q d S'
structure w2 (F : D → D → Sto → Option (D × Sto)) (x y : D) (S : Sto) (Q : D → Sto → Prop) : Prop where
  ex : ∃ d S', F x y S = some (d, S') ∧ Q d S'
structure wM (F : D → List D → Sto → Option (D × Sto)) (x : D) (xs : List D) (S : Sto) (Q : D → Sto → Prop) : Prop where
  ex : ∃ d S', F x xs S = some (d, S') ∧ Q d S'
structure wFor (ck : Option (Nat × O)) (g : TvM) (b : SvM) (xs : List D) (γ : Sl) (S : Sto) (Q : Fl → Sl → Sto → Prop) : Prop where
  ex : ∃ f γ' S', forI ck g b xs γ S = some (f, γ', S') ∧ Q f γ' S'
structure wWh (c : CvM) (b : SvM) (n : Nat) (γ : Sl) (S : Sto) (Q : Fl → Sl → Sto → Prop) : Prop where
  ex : ∃ f γ' S', whileN c b n γ S = some (f, γ', S') ∧ Q f γ' S'
structure wK (ck : Option (Nat × O)) (tgt : Tgt) (t : CvM) (e : EvM) (γ : Sl) (n : Nat) (xs : List D) (S : Sto) (Q : Sto → Prop) : Prop where
  ex : ∃ S', compI ck tgt t e γ n xs S = some S' ∧ Q S'
structure wK2 (ck : Option (Nat × O)) (tgt : Tgt) (t : CvM) (iv1 : IvM) (tgt1 : Tgt) (t1 : CvM) (e : EvM) (γ : Sl) (vs1 : List Nat) (n : Nat) (xs : List D) (S : Sto) (Q : Sto → Prop) : Prop where
  ex : ∃ S', comp2I ck tgt t iv1 tgt1 t1 e γ vs1 n xs S = some S' ∧ Q S'
/-- a value of one form, and what is wanted then -/
structure isBl (d : D) (Q : Bool → Prop) : Prop where
  ex : ∃ b, d = .bl b ∧ Q b
structure isInt (d : D) (Q : Int → Prop) : Prop where
  ex : ∃ b, d = .int b ∧ Q b
structure isStr (d : D) (Q : Str → Prop) : Prop where
  ex : ∃ b, d = .str b ∧ Q b
structure isTup (d : D) (Q : List D → Prop) : Prop where
  ex : ∃ b, d = .tup b ∧ Q b
structure isRef (d : D) (Q : Nat → Prop) : Prop where
  ex : ∃ b, d = .ref b ∧ Q b
structure iff2 (b : Bool) (P Q : Prop) : Prop where
  ex : (b = true → P) ∧ (b = false → Q)
/-- a test's truth -/
structure tru (S : Sto) (d : D) (Q : Bool → Prop) : Prop where
  ex : ∃ b, truB S d = some b ∧ Q b
structure sq (d : D) (S : Sto) (Q : Option (Nat × O) → List D → Sto → Prop) : Prop where
  ex : (∃ xs, d = .tup xs ∧ Q none xs S) ∨ ∃ (n : Nat) (xs : List D), d = .ref n ∧ S[n]? = some (.lst xs) ∧ Q (some (n, .lst xs)) xs S
section
variable {γ : Sl} {S : Sto} {e ea eb ec : EvM} {c c1 c2 : CvM} {r ra rk : AvM} {Q : D → Sto → Prop} {d x y : D}
theorem wE.mono {Q' : D → Sto → Prop} (h : wE e γ S Q) (i : ∀ d S, Q d S → Q' d S) : wE e γ S Q' := let ⟨d, S', a, b⟩ := h; ⟨d, S', a, i _ _ b⟩
theorem w1.mono {F} {xs : List D} {Q' : D → Sto → Prop} (h : w1 F xs S Q) (i : ∀ d S, Q d S → Q' d S) : w1 F xs S Q' := let ⟨d, S', a, b⟩ := h; ⟨d, S', a, i _ _ b⟩
theorem bl_i {b} {Q : Bool → Prop} (h : Q b) : isBl (.bl b) Q := ⟨b, rfl, h⟩
theorem int_i {b} {Q : Int → Prop} (h : Q b) : isInt (.int b) Q := ⟨b, rfl, h⟩
theorem str_i {b} {Q : Str → Prop} (h : Q b) : isStr (.str b) Q := ⟨b, rfl, h⟩
theorem tup_i {b} {Q : List D → Prop} (h : Q b) : isTup (.tup b) Q := ⟨b, rfl, h⟩
theorem ref_i {b} {Q : Nat → Prop} (h : Q b) : isRef (.ref b) Q := ⟨b, rfl, h⟩
theorem iff_t {P Q : Prop} (h : P) : iff2 true P Q := ⟨fun _ => h, fun z => by cases z⟩
theorem iff_f {P Q : Prop} (h : Q) : iff2 false P Q := ⟨fun z => (by cases z), fun _ => h⟩
theorem iff_d {p : Prop} [Decidable p] {P Q : Prop} (h : p → P) (h' : ¬ p → Q) : iff2 (decide p) P Q := ⟨fun z => h (of_decide_eq_true z), fun z => h' (of_decide_eq_false z)⟩
theorem iff_b {b : Bool} {P Q : Prop} (h : b = true → P) (h' : b = false → Q) : iff2 b P Q := ⟨h, h'⟩
theorem iff_n {b : Bool} {P Q : Prop} (h : iff2 b Q P) : iff2 (!b) P Q := by cases b; exact iff_t (h.ex.2 rfl); exact iff_f (h.ex.1 rfl)
theorem v_var {i : Nat} (h : γ[i]? = some (some d)) (q : Q d S) : wE (varM i) γ S Q := ⟨d, S, by unfold varM; rw [h], q⟩
theorem v_con (q : Q d S) : wE (conM d) γ S Q := ⟨d, S, rfl, q⟩
theorem v_bin {F} (h : wE ea γ S fun x S1 => wE eb γ S1 fun y S2 => w2 F x y S2 Q) : wE (binM F ea eb) γ S Q := by
  obtain ⟨x, S1, e1, y, S2, e2, d, S3, e3, q⟩ := h
  exact ⟨d, S3, by unfold binM; simp only [e1, e2, e3], q⟩
theorem v_app {F} (h : wA r γ S fun xs S1 => w1 F xs S1 Q) : wE (appM F r) γ S Q := by
  obtain ⟨x, S1, e1, d, S3, e3, q⟩ := h
  exact ⟨d, S3, by unfold appM; simp only [e1, e3], q⟩
theorem v_call {F n} (h : wA r γ S fun xs S1 => xs.length = n ∧ w1 F xs S1 Q) : wE (callM n F r) γ S Q := by
  obtain ⟨x, S1, e1, hn, d, S3, e3, q⟩ := h
  exact ⟨d, S3, by unfold callM; simp only [e1, if_pos hn, e3], q⟩
theorem v_tup (h : wA r γ S fun xs S1 => xs.length ≤ sizeLine ∧ Q (.tup xs) S1) : wE (tupM r) γ S Q := by
  obtain ⟨x, S1, e1, hn, q⟩ := h
  exact ⟨_, S1, by unfold tupM; simp only [e1, if_pos hn], q⟩
theorem v_lst (h : wA r γ S fun xs S1 => xs.length ≤ sizeLine ∧ Q (.ref S1.length) (S1 ++ [.lst xs])) : wE (lstM r) γ S Q := by
  obtain ⟨x, S1, e1, hn, q⟩ := h
  exact ⟨_, _, by unfold lstM; simp only [e1, if_pos hn], q⟩
theorem v_neg (h : wE e γ S fun d S1 => isInt d fun i => Q (.int (-i)) S1) : wE (negM e) γ S Q := by
  obtain ⟨x, S1, e1, i, rfl, q⟩ := h
  exact ⟨_, _, by unfold negM; simp only [e1], q⟩
theorem v_if (h : wC c γ S fun b S1 => iff2 b (wE ea γ S1 Q) (wE eb γ S1 Q)) : wE (ifM c ea eb) γ S Q := by
  obtain ⟨b, S1, e1, h1, h2⟩ := h
  cases b with
  | true => obtain ⟨d, S2, e2, q⟩ := h1 rfl; exact ⟨d, S2, by unfold ifM; simp only [e1, e2], q⟩
  | false => obtain ⟨d, S2, e2, q⟩ := h2 rfl; exact ⟨d, S2, by unfold ifM; simp only [e1, e2], q⟩
theorem v_and (h : wE ea γ S fun d S1 => isBl d fun b => iff2 b (wE eb γ S1 Q) (Q (.bl false) S1)) : wE (andV ea eb) γ S Q := by
  obtain ⟨b, S1, e1, b, rfl, h1, h2⟩ := h
  cases b with
  | true => obtain ⟨d, S2, e2, q⟩ := h1 rfl; exact ⟨d, S2, by unfold andV; simp only [e1, e2], q⟩
  | false => exact ⟨_, _, by unfold andV; simp only [e1], h2 rfl⟩
theorem v_or (h : wE ea γ S fun d S1 => isBl d fun b => iff2 b (Q (.bl true) S1) (wE eb γ S1 Q)) : wE (orV ea eb) γ S Q := by
  obtain ⟨b, S1, e1, b, rfl, h1, h2⟩ := h
  cases b with
  | false => obtain ⟨d, S2, e2, q⟩ := h2 rfl; exact ⟨d, S2, by unfold orV; simp only [e1, e2], q⟩
  | true => exact ⟨_, _, by unfold orV; simp only [e1], h1 rfl⟩
theorem v_not (h : wE ea γ S fun d S1 => isBl d fun b => Q (.bl (!b)) S1) : wE (notV ea) γ S Q := by
  obtain ⟨b, S1, e1, b, rfl, h1⟩ := h
  exact ⟨_, _, by unfold notV; simp only [e1], h1⟩
structure tyQ (T : String) (S : Sto) (d : D) (Q : Bool → Prop) : Prop where
  ex : ∃ t b, tyN S d = some t ∧ kitB t T = some b ∧ Q b
theorem v_isi {T} (h : wE ea γ S fun d S1 => tyQ T S1 d fun b => Q (.bl b) S1) : wE (isiM T ea) γ S Q := by
  obtain ⟨d, S1, e1, t, b, e2, e3, q⟩ := h
  exact ⟨_, _, by unfold isiM; simp only [e1, e2, e3], q⟩
theorem v_met {T F} {eo} (h : wE eo γ S fun x S1 => tyB T S1 x = true ∧ wA ra γ S1 fun xs S2 => wM F x xs S2 Q) : wE (metM T F eo ra) γ S Q := by
  obtain ⟨d, S1, e1, ht, xs, S2, e2, d2, S3, e3, q⟩ := h
  exact ⟨_, _, by unfold metM; simp only [e1, e2, e3, if_pos ht], q⟩
structure slQ (x : D) (lo hi : Option Int) (S : Sto) (Q : D → Sto → Prop) : Prop where
  ex : ∃ d S', slF x lo hi S = some (d, S') ∧ Q d S'
theorem v_sl {l h : OvM} (q : wE ea γ S fun x S1 => wO l γ S1 fun lo S2 => wO h γ S2 fun hi S3 => slQ x lo hi S3 Q) : wE (slM ea l h) γ S Q := by
  obtain ⟨d, S1, e1, lo, S2, e2, hi, S3, e3, d', S4, e4, q⟩ := q
  exact ⟨_, _, by unfold slM; simp only [e1, e2, e3, e4], q⟩
theorem sl_t {xs lo hi} (q : Q (.tup (cutX xs lo hi)) S) : slQ (.tup xs) lo hi S Q := ⟨_, _, rfl, q⟩
theorem sl_l {n xs lo hi} (h : S[n]? = some (.lst xs)) (q : Q (.ref S.length) (S ++ [.lst (cutX xs lo hi)])) : slQ (.ref n) lo hi S Q := ⟨_, _, by unfold slF; simp only [h], q⟩
theorem v_lrev (h : wE ea γ S fun d S1 => isRef d fun n => ∃ xs, S1[n]? = some (.lst xs) ∧ Q (.ref S1.length) (S1 ++ [.lst xs.reverse])) : wE (lrevM ea) γ S Q := by
  obtain ⟨d, S1, e1, n, rfl, xs, e2, q⟩ := h
  exact ⟨_, _, by unfold lrevM revM; simp only [e1, e2], q⟩
theorem v_revT (h : wE ea γ S fun d S1 => isTup d fun xs => Q (.tup xs.reverse) S1) : wE (revTM ea) γ S Q := by
  obtain ⟨d, S1, e1, xs, rfl, q⟩ := h
  exact ⟨_, _, by unfold revTM; simp only [e1], q⟩
theorem v_comp {iv tgt t vs} (h : wI iv γ S fun ck xs S1 => wK ck tgt t e (wipeD γ vs) S1.length xs (S1 ++ [.lst []]) fun S2 => Q (.ref S1.length) S2) : wE (compM iv tgt t e vs) γ S Q := by
  obtain ⟨ck, xs, S1, e1, S2, e2, q⟩ := h
  exact ⟨_, _, by unfold compM; simp only [e1, e2], q⟩
theorem v_comp2 {iv tgt t vs iv1 tgt1 t1 vs1} (h : wI iv γ S fun ck xs S1 => wK2 ck tgt t iv1 tgt1 t1 e (wipeD γ vs) vs1 S1.length xs (S1 ++ [.lst []]) fun S2 => Q (.ref S1.length) S2) : wE (comp2M iv tgt t iv1 tgt1 t1 e vs vs1) γ S Q := by
  obtain ⟨ck, xs, S1, e1, S2, e2, q⟩ := h
  exact ⟨_, _, by unfold comp2M; simp only [e1, e2], q⟩
theorem v_getOr {eo ee ef : EvM} (h : wE eo γ S fun d S1 => isRef d fun n => ∃ lk kvs, S1[n]? = some (.dn lk kvs) ∧ wE ee γ S1 fun k S2 => isTup k fun ks => wE ef γ S2 fun x S3 => ∃ lk' kvs' kk, S3[n]? = some (.dn lk' kvs') ∧ keyN ks = some kk ∧ Q ((lookN kvs' kk).getD x) S3) : wE (getOrM eo ee ef) γ S Q := by
  obtain ⟨d, S1, e1, n, rfl, lk, kvs, e2, k, S2, e3, ks, rfl, x, S3, e4, lk', kvs', kk, e5, e6, q⟩ := h
  exact ⟨_, _, by unfold getOrM; simp only [e1, e2, e3, e4, e5, e6], q⟩
theorem v_cget {tbl} {ee ef : EvM} (h : wE ee γ S fun d S1 => isStr d fun z => wE ef γ S1 fun x S2 => ∃ r, tbl.lookup z = some r ∧ Q (r.getD x) S2) : wE (cgetM tbl ee ef) γ S Q := by
  obtain ⟨d, S1, e1, z, rfl, x, S2, e2, r, e3, q⟩ := h
  exact ⟨_, _, by unfold cgetM; simp only [e1, e2, e3], q⟩
theorem v_newD (q : Q (.ref S.length) (S ++ [.dn false []])) : wE newD γ S Q := ⟨_, _, rfl, q⟩
/-- an item of a list told on the spot -/
theorem v_pick (h : wA r γ S fun xs S1 => xs.length ≤ sizeLine ∧ wE e γ (S1 ++ [.lst xs]) fun d S2 => isInt d fun i => S2[S1.length]? = some (.lst xs) ∧ ∃ x, atI xs i = some x ∧ Q x S2) : wE (binM ixF (lstM r) e) γ S Q := by
  obtain ⟨xs, S1, e1, hl, d, S2, e2, i, rfl, e3, x, e4, q⟩ := h
  exact ⟨_, _, by unfold binM lstM; simp only [e1, if_pos hl, e2]; unfold ixF; simp only [e3, e4], q⟩
theorem c_tst {Q : Bool → Sto → Prop} (h : wE e γ S fun d S1 => isBl d fun b => Q b S1) : wC (tstM e) γ S Q := by
  obtain ⟨d, S1, e1, b, rfl, q⟩ := h
  exact ⟨b, S1, by unfold tstM; simp only [e1], q⟩
theorem c_tru {Q : Bool → Sto → Prop} (h : wE e γ S fun d S1 => tru S1 d fun b => Q b S1) : wC (truC e) γ S Q := by
  obtain ⟨d, S1, e1, b, e2, q⟩ := h
  exact ⟨b, S1, by unfold truC; simp only [e1, e2], q⟩
theorem c_not {Q : Bool → Sto → Prop} (h : wC c γ S fun b S1 => Q (!b) S1) : wC (notC c) γ S Q := by
  obtain ⟨b, S1, e1, q⟩ := h
  exact ⟨_, S1, by unfold notC; simp only [e1], q⟩
theorem c_and {Q : Bool → Sto → Prop} (h : wC c1 γ S fun b S1 => iff2 b (wC c2 γ S1 Q) (Q false S1)) : wC (andC c1 c2) γ S Q := by
  obtain ⟨b, S1, e1, h1, h2⟩ := h
  cases b with
  | true => obtain ⟨d, S2, e2, q⟩ := h1 rfl; exact ⟨d, S2, by unfold andC; simp only [e1, e2], q⟩
  | false => exact ⟨_, _, by unfold andC; simp only [e1], h2 rfl⟩
theorem c_or {Q : Bool → Sto → Prop} (h : wC c1 γ S fun b S1 => iff2 b (Q true S1) (wC c2 γ S1 Q)) : wC (orC c1 c2) γ S Q := by
  obtain ⟨b, S1, e1, h1, h2⟩ := h
  cases b with
  | false => obtain ⟨d, S2, e2, q⟩ := h2 rfl; exact ⟨d, S2, by unfold orC; simp only [e1, e2], q⟩
  | true => exact ⟨_, _, by unfold orC; simp only [e1], h1 rfl⟩
theorem c_yes {Q : Bool → Sto → Prop} (q : Q true S) : wC yesC γ S Q := ⟨_, _, rfl, q⟩
theorem tru_bl {b} {Q : Bool → Prop} (q : Q b) : tru S (.bl b) Q := ⟨_, rfl, q⟩
theorem tru_tup {xs} {Q : Bool → Prop} (q : Q (!xs.isEmpty)) : tru S (.tup xs) Q := ⟨_, rfl, q⟩
theorem tru_lst {n xs} {Q : Bool → Prop} (h : S[n]? = some (.lst xs)) (q : Q (!xs.isEmpty)) : tru S (.ref n) Q := ⟨_, by unfold truB; simp only [h], q⟩
theorem a_nil {Q : List D → Sto → Prop} (q : Q [] S) : wA nilA γ S Q := ⟨_, _, rfl, q⟩
theorem a_cons {Q : List D → Sto → Prop} (h : wE e γ S fun x S1 => wA r γ S1 fun xs S2 => Q (x :: xs) S2) : wA (consA e r) γ S Q := by
  obtain ⟨x, S1, e1, xs, S2, e2, q⟩ := h
  exact ⟨_, _, by unfold consA; simp only [e1, e2], q⟩
theorem o_no {Q : Option Int → Sto → Prop} (q : Q none S) : wO noM γ S Q := ⟨_, _, rfl, q⟩
theorem o_part {Q : Option Int → Sto → Prop} (h : wE e γ S fun d S1 => isInt d fun i => Q (some i) S1) : wO (partM e) γ S Q := by
  obtain ⟨x, S1, e1, i, rfl, q⟩ := h
  exact ⟨_, _, by unfold partM; simp only [e1], q⟩
theorem i_seq {Q : Option (Nat × O) → List D → Sto → Prop} (h : wE e γ S fun d S1 => sq d S1 Q) : wI (seqI e) γ S Q := by
  obtain ⟨d, S1, e1, ⟨⟨xs, rfl, q⟩ | ⟨n, xs, rfl, e2, q⟩⟩⟩ := h
  · exact ⟨_, _, S1, by unfold seqI; simp only [e1], q⟩
  · exact ⟨_, _, S1, by unfold seqI; simp only [e1, e2], q⟩
theorem sq_tup {xs} {Q : Option (Nat × O) → List D → Sto → Prop} (q : Q none xs S) : sq (.tup xs) S Q := ⟨.inl ⟨xs, rfl, q⟩⟩
theorem sq_lst {n xs} {Q : Option (Nat × O) → List D → Sto → Prop} (h : S[n]? = some (.lst xs)) (q : Q (some (n, .lst xs)) xs S) : sq (.ref n) S Q := ⟨.inr ⟨n, xs, rfl, h, q⟩⟩
structure one1 (xs : List D) (Q : Int → Prop) : Prop where
  ex : ∃ i, xs = [.int i] ∧ Q i
theorem one_i {i} {Q : Int → Prop} (q : Q i) : one1 [.int i] Q := ⟨_, rfl, q⟩
theorem i_rng1 {Q : Option (Nat × O) → List D → Sto → Prop} (h : wA r γ S fun xs S1 => one1 xs fun j => (-(2 ^ 62) ≤ j ∧ j < 2 ^ 62) ∧ Q none (rngD 0 j.toNat) S1) : wI (rng1I r) γ S Q := by
  obtain ⟨xs, S1, e1, j, rfl, hj, q⟩ := h
  exact ⟨_, _, S1, by unfold rng1I; simp only [e1, if_pos hj], q⟩
theorem i_rngD {Q : Option (Nat × O) → List D → Sto → Prop} (h : wA r γ S fun xs S1 => ∃ i j, xs = [.int i, .int j, .int (-1)] ∧ (-(2 ^ 62) ≤ i ∧ i < 2 ^ 62 ∧ -(2 ^ 62) ≤ j ∧ j < 2 ^ 62) ∧ Q none (rngDown i (i - j).toNat) S1) : wI (rngDI r) γ S Q := by
  obtain ⟨xs, S1, e1, i, j, rfl, hj, q⟩ := h
  exact ⟨_, _, S1, by unfold rngDI; simp only [e1, true_and, if_pos hj], q⟩
theorem i_keys {Q : Option (Nat × O) → List D → Sto → Prop} (h : wE e γ S fun d S1 => isRef d fun n => ∃ kvs, S1[n]? = some (.dn true kvs) ∧ Q (some (n, .dn true kvs)) (kvs.map (·.1)) S1) : wI (keysI e) γ S Q := by
  obtain ⟨d, S1, e1, n, rfl, kvs, e2, q⟩ := h
  exact ⟨_, _, S1, by unfold keysI; simp only [e1, e2], q⟩
theorem g_name {i} {Q : Sl → Sto → Prop} (q : Q (γ.set i (some d)) S) : wG (nameG i) d γ S Q := ⟨_, _, rfl, q⟩
theorem g_tup {n g} {xs : List D} {Q : Sl → Sto → Prop} (h : xs.length = n) (q : wGs g xs γ S Q) : wG (tupG n g) (.tup xs) γ S Q := by
  obtain ⟨γ', S', e1, q⟩ := q
  exact ⟨_, _, by unfold tupG; simp only [if_pos h, e1], q⟩
theorem gs_nil {Q : Sl → Sto → Prop} (q : Q γ S) : wGs nilG [] γ S Q := ⟨_, _, rfl, q⟩
theorem gs_cons {g gr} {xs : List D} {Q : Sl → Sto → Prop} (q : wG g d γ S fun γ' S' => wGs gr xs γ' S' Q) : wGs (consG g gr) (d :: xs) γ S Q := by
  obtain ⟨γ', S', e1, γ2, S2, e2, q⟩ := q
  exact ⟨_, _, by unfold consG; simp only [e1, e2], q⟩
theorem g_subL {eo ei : EvM} {Q : Sl → Sto → Prop} (h : wE eo γ S fun x S1 => isRef x fun n => wE ei γ S1 fun y S2 => isInt y fun k => ∃ xs, S2[n]? = some (.lst xs) ∧ ∃ j, ixN xs.length k = some j ∧ Q γ (S2.set n (.lst (xs.set j d)))) : wG (subL eo ei) d γ S Q := by
  obtain ⟨x, S1, e1, n, rfl, y, S2, e2, k, rfl, xs, e3, j, e4, q⟩ := h
  exact ⟨_, _, by unfold subL; simp only [e1, e2, e3, e4], q⟩
theorem g_subD {eo ei : EvM} {Q : Sl → Sto → Prop} (h : wE eo γ S fun x S1 => isRef x fun n => wE ei γ S1 fun y S2 => isTup y fun ks => ∃ kvs, S2[n]? = some (.dn false kvs) ∧ ∃ k, keyN ks = some k ∧ kvs.length < sizeLine ∧ Q γ (S2.set n (.dn false (setN kvs (.tup ks) k d)))) : wG (subD eo ei) d γ S Q := by
  obtain ⟨x, S1, e1, n, rfl, y, S2, e2, ks, rfl, kvs, e3, k, e4, hl, q⟩ := h
  exact ⟨_, _, by unfold subD; simp only [e1, e2, e3, e4, if_pos hl], q⟩
end
section
variable {γ : Sl} {S : Sto} {e ea eb ec : EvM} {c : CvM} {s t b : SvM} {Q : Fl → Sl → Sto → Prop} {d x y : D}
inductive thenQ (t : SvM) (Q : Fl → Sl → Sto → Prop) : Fl → Sl → Sto → Prop
  | nx {γ1 : Sl} {S1 : Sto} (h : wS t γ1 S1 Q) : thenQ t Q .nx γ1 S1
  | rt {d1 : D} {γ1 : Sl} {S1 : Sto} (h : Q (.rt d1) γ1 S1) : thenQ t Q (.rt d1) γ1 S1
  | bk {γ1 : Sl} {S1 : Sto} (h : Q .bk γ1 S1) : thenQ t Q .bk γ1 S1
  | ct {γ1 : Sl} {S1 : Sto} (h : Q .ct γ1 S1) : thenQ t Q .ct γ1 S1
theorem wS.mono {Q' : Fl → Sl → Sto → Prop} (h : wS s γ S Q) (i : ∀ f γ S, Q f γ S → Q' f γ S) : wS s γ S Q' := let ⟨f, γ', S', a, b⟩ := h; ⟨f, γ', S', a, i _ _ _ b⟩
theorem th_nx (h : wS t γ S Q) : thenQ t Q .nx γ S := .nx h
theorem th_rt (h : Q (.rt d) γ S) : thenQ t Q (.rt d) γ S := .rt h
theorem th_bk (h : Q .bk γ S) : thenQ t Q .bk γ S := .bk h
theorem th_ct (h : Q .ct γ S) : thenQ t Q .ct γ S := .ct h
theorem s_seq (h : wS s γ S (thenQ t Q)) : wS (seqM s t) γ S Q := by
  obtain ⟨f, γ', S', e1, q⟩ := h
  cases f with
  | nx => cases q with | nx q => obtain ⟨f, γ2, S2, e2, q⟩ := q; exact ⟨f, γ2, S2, by unfold seqM; simp only [e1, e2], q⟩
  | rt d => cases q with | rt q => exact ⟨_, _, _, by unfold seqM; simp only [e1], q⟩
  | bk => cases q with | bk q => exact ⟨_, _, _, by unfold seqM; simp only [e1], q⟩
  | ct => cases q with | ct q => exact ⟨_, _, _, by unfold seqM; simp only [e1], q⟩
theorem s_nx (q : Q .nx γ S) : wS nxM γ S Q := ⟨_, _, _, rfl, q⟩
theorem s_bk (q : Q .bk γ S) : wS bkM γ S Q := ⟨_, _, _, rfl, q⟩
theorem s_ct (q : Q .ct γ S) : wS ctM γ S Q := ⟨_, _, _, rfl, q⟩
theorem s_rtN (q : Q (.rt .non) γ S) : wS rtN γ S Q := ⟨_, _, _, rfl, q⟩
theorem s_ex (h : wE e γ S fun _ S1 => Q .nx γ S1) : wS (exM e) γ S Q := by
  obtain ⟨d, S1, e1, q⟩ := h
  exact ⟨_, _, _, by unfold exM; simp only [e1], q⟩
theorem s_rt (h : wE e γ S fun d S1 => Q (.rt d) γ S1) : wS (rtM e) γ S Q := by
  obtain ⟨d, S1, e1, q⟩ := h
  exact ⟨_, _, _, by unfold rtM; simp only [e1], q⟩
theorem s_if (h : wC c γ S fun b S1 => iff2 b (wS s γ S1 Q) (wS t γ S1 Q)) : wS (ifS c s t) γ S Q := by
  obtain ⟨b, S1, e1, h1, h2⟩ := h
  cases b with
  | true => obtain ⟨f, γ2, S2, e2, q⟩ := h1 rfl; exact ⟨f, γ2, S2, by unfold ifS; simp only [e1, e2], q⟩
  | false => obtain ⟨f, γ2, S2, e2, q⟩ := h2 rfl; exact ⟨f, γ2, S2, by unfold ifS; simp only [e1, e2], q⟩
theorem s_asg {g} (h : wE ea γ S fun d S1 => wG g d γ S1 fun γ' S2 => Q .nx γ' S2) : wS (asgM ea g) γ S Q := by
  obtain ⟨d, S1, e1, γ', S2, e2, q⟩ := h
  exact ⟨_, _, _, by unfold asgM; simp only [e1, e2], q⟩
theorem s_aug {i F} (hx : γ[i]? = some (some x)) (h : wE ea γ S fun y S1 => w2 F x y S1 fun d S2 => Q .nx (γ.set i (some d)) S2) : wS (augM i F ea) γ S Q := by
  obtain ⟨y, S1, e1, d, S2, e2, q⟩ := h
  exact ⟨_, _, _, by unfold augM; simp only [hx, e1, e2], q⟩
theorem s_for {iv g} (h : wI iv γ S fun ck xs S1 => wFor ck g b xs γ S1 Q) : wS (forM iv g b) γ S Q := by
  obtain ⟨ck, xs, S1, e1, f, γ', S', e2, q⟩ := h
  exact ⟨_, _, _, by unfold forM; simp only [e1, e2], q⟩
theorem s_while (h : wWh c b turns γ S Q) : wS (whileM c b) γ S Q := let ⟨f, γ', S', e, q⟩ := h; ⟨f, γ', S', e, q⟩
/-- a for loop: what holds ahead of each turn, told by what is still to be walked -/
inductive turnQ (I : Sl → Sto → Prop) (Q : Fl → Sl → Sto → Prop) : Fl → Sl → Sto → Prop
  | nx {γ1 : Sl} {S1 : Sto} (h : I γ1 S1) : turnQ I Q .nx γ1 S1
  | ct {γ1 : Sl} {S1 : Sto} (h : I γ1 S1) : turnQ I Q .ct γ1 S1
  | bk {γ1 : Sl} {S1 : Sto} (h : Q .nx γ1 S1) : turnQ I Q .bk γ1 S1
  | rt {d1 : D} {γ1 : Sl} {S1 : Sto} (h : Q (.rt d1) γ1 S1) : turnQ I Q (.rt d1) γ1 S1
theorem tu_nx {I : Sl → Sto → Prop} (h : I γ S) : turnQ I Q .nx γ S := .nx h
theorem tu_ct {I : Sl → Sto → Prop} (h : I γ S) : turnQ I Q .ct γ S := .ct h
theorem tu_bk {I : Sl → Sto → Prop} (h : Q .nx γ S) : turnQ I Q .bk γ S := .bk h
theorem tu_rt {I : Sl → Sto → Prop} (h : Q (.rt d) γ S) : turnQ I Q (.rt d) γ S := .rt h
theorem for_inv {ck g} (I : List D → Sl → Sto → Prop)
    (step : ∀ x r γ S, I (x :: r) γ S → Chk ck S ∧ wG g x γ S fun γ1 S1 => wS b γ1 S1 (turnQ (I r) Q))
    (stop : ∀ γ S, I [] γ S → Chk ck S ∧ Q .nx γ S) : ∀ xs γ S, I xs γ S → wFor ck g b xs γ S Q
  | [], γ, S, h => by
    obtain ⟨hc, q⟩ := stop γ S h
    exact ⟨_, _, _, by unfold forI; rw [if_pos hc], q⟩
  | x :: r, γ, S, h => by
    obtain ⟨hc, γ1, S1, e1, f, γ2, S2, e2, q⟩ := step x r γ S h
    cases f with
    | nx => cases q with | nx q => obtain ⟨f, γ3, S3, e3, q⟩ := for_inv I step stop r γ2 S2 q; exact ⟨f, γ3, S3, by unfold forI; rw [if_pos hc]; simp only [e1, e2, e3], q⟩
    | ct => cases q with | ct q => obtain ⟨f, γ3, S3, e3, q⟩ := for_inv I step stop r γ2 S2 q; exact ⟨f, γ3, S3, by unfold forI; rw [if_pos hc]; simp only [e1, e2, e3], q⟩
    | bk => cases q with | bk q => exact ⟨_, _, _, by unfold forI; rw [if_pos hc]; simp only [e1, e2], q⟩
    | rt d => cases q with | rt q => exact ⟨_, _, _, by unfold forI; rw [if_pos hc]; simp only [e1, e2], q⟩
/-- a while loop: I n, n falls by one or more with each turn -/
theorem wh_inv (I : Nat → Sl → Sto → Prop)
    (step : ∀ n γ S, I n γ S → wC c γ S fun k S1 => iff2 k (wS b γ S1 (turnQ (fun γ2 S2 => ∃ m, m < n ∧ I m γ2 S2) Q)) (Q .nx γ S1)) : ∀ n m γ S, I m γ S → m < n → wWh c b n γ S Q
  | 0, m, γ, S, h, l => by omega
  | n + 1, m, γ, S, h, l => by
    obtain ⟨k, S1, e1, h1, h2⟩ := step m γ S h
    cases k with
    | false => exact ⟨_, _, _, by unfold whileN; simp only [e1], h2 rfl⟩
    | true =>
      obtain ⟨f, γ2, S2, e2, q⟩ := h1 rfl
      cases f with
      | nx => cases q with | nx q => obtain ⟨m', hm, q⟩ := q; obtain ⟨f, γ3, S3, e3, q⟩ := wh_inv I step n m' γ2 S2 q (by omega); exact ⟨f, γ3, S3, by unfold whileN; simp only [e1, e2, e3], q⟩
      | ct => cases q with | ct q => obtain ⟨m', hm, q⟩ := q; obtain ⟨f, γ3, S3, e3, q⟩ := wh_inv I step n m' γ2 S2 q (by omega); exact ⟨f, γ3, S3, by unfold whileN; simp only [e1, e2, e3], q⟩
      | bk => cases q with | bk q => exact ⟨_, _, _, by unfold whileN; simp only [e1, e2], q⟩
      | rt d => cases q with | rt q => exact ⟨_, _, _, by unfold whileN; simp only [e1, e2], q⟩
/-- a comprehension: I tells what is still to be walked, the list so far, the store -/
theorem k_inv {ck tgt} {tt : CvM} {n : Nat} {Q : Sto → Prop} (I : List D → Sto → Prop)
    (step : ∀ x r S, I (x :: r) S → Chk ck S ∧ ∃ γ1, bindT tgt x γ = some γ1 ∧ wC tt γ1 S fun k S1 => iff2 k (wE e γ1 S1 fun y S2 => ∃ acc, S2[n]? = some (.lst acc) ∧ acc.length < sizeLine ∧ I r (S2.set n (.lst (acc ++ [y])))) (I r S1))
    (stop : ∀ S, I [] S → Chk ck S ∧ Q S) : ∀ xs S, I xs S → wK ck tgt tt e γ n xs S Q
  | [], S, h => by
    obtain ⟨hc, q⟩ := stop S h
    exact ⟨_, by unfold compI; rw [if_pos hc], q⟩
  | x :: r, S, h => by
    obtain ⟨hc, γ1, e1, k, S1, e2, h1, h2⟩ := step x r S h
    cases k with
    | false => obtain ⟨S2, e3, q⟩ := k_inv I step stop r S1 (h2 rfl); exact ⟨S2, by unfold compI; rw [if_pos hc]; simp only [e1, e2, e3], q⟩
    | true =>
      obtain ⟨y, S2, e3, acc, e4, hl, hi⟩ := h1 rfl
      obtain ⟨S3, e5, q⟩ := k_inv I step stop r _ hi
      exact ⟨S3, by unfold compI; rw [if_pos hc]; simp only [e1, e2, e3, e4, if_pos hl, e5], q⟩
theorem k2_inv {ck tgt iv1 tgt1 vs1} {tt t1 : CvM} {n : Nat} {Q : Sto → Prop} (I : List D → Sto → Prop)
    (step : ∀ x r S, I (x :: r) S → Chk ck S ∧ ∃ γ1, bindT tgt x γ = some γ1 ∧ wC tt γ1 S fun k S1 => iff2 k (wI iv1 γ1 S1 fun ck1 xs1 S2 => wK ck1 tgt1 t1 e (wipeD γ1 vs1) n xs1 S2 (I r)) (I r S1))
    (stop : ∀ S, I [] S → Chk ck S ∧ Q S) : ∀ xs S, I xs S → wK2 ck tgt tt iv1 tgt1 t1 e γ vs1 n xs S Q
  | [], S, h => by
    obtain ⟨hc, q⟩ := stop S h
    exact ⟨_, by unfold comp2I; rw [if_pos hc], q⟩
  | x :: r, S, h => by
    obtain ⟨hc, γ1, e1, k, S1, e2, h1, h2⟩ := step x r S h
    cases k with
    | false => obtain ⟨S2, e3, q⟩ := k2_inv I step stop r S1 (h2 rfl); exact ⟨S2, by unfold comp2I; rw [if_pos hc]; simp only [e1, e2, e3], q⟩
    | true =>
      obtain ⟨ck1, xs1, S2, e3, S3, e4, hi⟩ := h1 rfl
      obtain ⟨S4, e5, q⟩ := k2_inv I step stop r _ hi
      exact ⟨S4, by unfold comp2I; rw [if_pos hc]; simp only [e1, e2, e3, e4, e5], q⟩
/-- a dict is locked meanwhile -/
theorem v_lock {i n kvs} {Q : D → Sto → Prop} (hx : γ[i]? = some (some (.ref n))) (hn : S[n]? = some (.dn false kvs))
    (h : wE e γ (S.set n (.dn true kvs)) fun d S1 => ∃ kvs', S1[n]? = some (.dn true kvs') ∧ Q d (S1.set n (.dn false kvs'))) : wE (lockM i e) γ S Q := by
  obtain ⟨d, S1, e1, kvs', e2, q⟩ := h
  exact ⟨_, _, by unfold lockM; simp only [hx, hn, e1, e2], q⟩
theorem s_lock {i n kvs} (hx : γ[i]? = some (some (.ref n))) (hn : S[n]? = some (.dn false kvs))
    (h : wS s γ (S.set n (.dn true kvs)) fun f γ1 S1 => ∃ kvs', S1[n]? = some (.dn true kvs') ∧ Q f γ1 (S1.set n (.dn false kvs'))) : wS (lockS i s) γ S Q := by
  obtain ⟨d, γ1, S1, e1, kvs', e2, q⟩ := h
  exact ⟨_, _, _, by unfold lockS; simp only [hx, hn, e1, e2], q⟩
/-- a def's body -/
inductive retQ (Q : D → Sto → Prop) : Fl → Sl → Sto → Prop
  | rt {d1 : D} {γ1 : Sl} {S1 : Sto} (h : Q d1 S1) : retQ Q (.rt d1) γ1 S1
  | nx {γ1 : Sl} {S1 : Sto} (h : Q .non S1) : retQ Q .nx γ1 S1
theorem re_rt {Q : D → Sto → Prop} (h : Q d S) : retQ Q (.rt d) γ S := .rt h
theorem re_nx {Q : D → Sto → Prop} (h : Q .non S) : retQ Q .nx γ S := .nx h
theorem w_body {n} {xs : List D} {Q : D → Sto → Prop} (h : wS s (xs.map some ++ List.replicate (n - xs.length) none) S (retQ Q)) : w1 (bodyM n s) xs S Q := by
  obtain ⟨f, γ', S', e1, q⟩ := h
  cases f with
  | rt d => cases q with | rt q => exact ⟨_, _, by unfold bodyM; simp only [e1], q⟩
  | nx => cases q with | nx q => exact ⟨_, _, by unfold bodyM; simp only [e1], q⟩
  | bk => cases q
  | ct => cases q
end
/-! ### the operators and builtins -/
section
variable {S : Sto} {Q : D → Sto → Prop} {x y d : D} {i j : Int} {z w : Str} {n m : Nat} {xs ys : List D}
theorem o_eqI (q : Q (.bl (i == j)) S) : w2 eqF (.int i) (.int j) S Q := ⟨_, _, rfl, q⟩
theorem o_eqS (q : Q (.bl (z == w)) S) : w2 eqF (.str z) (.str w) S Q := ⟨_, _, rfl, q⟩
theorem o_eqB {a b : Bool} (q : Q (.bl (a == b)) S) : w2 eqF (.bl a) (.bl b) S Q := ⟨_, _, rfl, q⟩
theorem o_neS (q : Q (.bl (!(z == w))) S) : w2 neF (.str z) (.str w) S Q := ⟨_, _, rfl, q⟩
theorem o_is (q : Q (.bl (isN x)) S) : w2 (isF false) x .non S Q := ⟨_, _, by unfold isF; rfl, q⟩
theorem o_isn (q : Q (.bl (!isN x)) S) : w2 (isF true) x .non S Q := ⟨_, _, by unfold isF; rfl, q⟩
theorem o_lt (q : Q (.bl (decide (i < j))) S) : w2 ltF (.int i) (.int j) S Q := ⟨_, _, rfl, q⟩
theorem o_le (q : Q (.bl (decide (i ≤ j))) S) : w2 leF (.int i) (.int j) S Q := ⟨_, _, rfl, q⟩
theorem o_gt (q : Q (.bl (decide (j < i))) S) : w2 gtF (.int i) (.int j) S Q := ⟨_, _, rfl, q⟩
theorem o_ge (q : Q (.bl (decide (j ≤ i))) S) : w2 geF (.int i) (.int j) S Q := ⟨_, _, rfl, q⟩
theorem o_ixT (h : atI xs i = some d) (q : Q d S) : w2 ixF (.tup xs) (.int i) S Q := ⟨_, _, by unfold ixF; simp only [h], q⟩
theorem o_ixR (h : atI xs i = some d) (q : Q d S) : w2 ixF (.rl xs) (.int i) S Q := ⟨_, _, by unfold ixF; simp only [h], q⟩
theorem o_ixL (hn : S[n]? = some (.lst xs)) (h : atI xs i = some d) (q : Q d S) : w2 ixF (.ref n) (.int i) S Q := ⟨_, _, by unfold ixF; simp only [hn, h], q⟩
theorem o_addI (q : Q (.int (i + j)) S) : w2 addF (.int i) (.int j) S Q := ⟨_, _, rfl, q⟩
theorem o_addS (h : z.length + w.length ≤ sizeLine) (q : Q (.str (z ++ w)) S) : w2 addF (.str z) (.str w) S Q := ⟨_, _, by unfold addF; simp only [if_pos h], q⟩
theorem o_addT (h : xs.length + ys.length ≤ sizeLine) (q : Q (.tup (xs ++ ys)) S) : w2 addF (.tup xs) (.tup ys) S Q := ⟨_, _, by unfold addF; simp only [if_pos h], q⟩
theorem o_addL (hn : S[n]? = some (.lst xs)) (hm : S[m]? = some (.lst ys)) (h : xs.length + ys.length ≤ sizeLine) (q : Q (.ref S.length) (S ++ [.lst (xs ++ ys)])) : w2 addF (.ref n) (.ref m) S Q := ⟨_, _, by unfold addF; simp only [hn, hm, if_pos h], q⟩
theorem o_sub (q : Q (.int (i - j)) S) : w2 subF (.int i) (.int j) S Q := ⟨_, _, rfl, q⟩
theorem o_iadd (q : Q (.int (i + j)) S) : w2 iaddF (.int i) (.int j) S Q := ⟨_, _, rfl, q⟩
theorem o_isub (q : Q (.int (i - j)) S) : w2 isubF (.int i) (.int j) S Q := ⟨_, _, rfl, q⟩
theorem o_mul (h : mulOk i j = true) (q : Q (.int (i * j)) S) : w2 mulF (.int i) (.int j) S Q := ⟨_, _, by unfold mulF; simp only [if_pos h], q⟩
theorem o_div (h : 0 < j ∧ j.natAbs.log2 < 9000) (q : Q (.int (i / j)) S) : w2 fdivF (.int i) (.int j) S Q := ⟨_, _, by unfold fdivF; simp only [if_pos h], q⟩
theorem o_mod (h : 0 < j) (q : Q (.int (i % j)) S) : w2 modF (.int i) (.int j) S Q := ⟨_, _, by unfold modF; simp only [if_pos h], q⟩
theorem o_pow (h : 0 ≤ j ∧ j ≤ 1000000 ∧ i.natAbs < 2 ^ 64) (q : Q (.int (i ^ j.toNat)) S) : w2 powF (.int i) (.int j) S Q := ⟨_, _, by unfold powF; simp only [if_pos h], q⟩
theorem o_rep (hn : S[n]? = some (.lst xs)) (h : 0 ≤ j ∧ j < 2 ^ 63 ∧ xs.length * j.toNat ≤ sizeLine) (q : Q (.ref S.length) (S ++ [.lst (List.replicate j.toNat xs).flatten])) : w2 repF (.ref n) (.int j) S Q := ⟨_, _, by unfold repF; simp only [hn, if_pos h], q⟩
theorem o_get {lk kvs kk} (hn : S[n]? = some (.dn lk kvs)) (hk : keyN xs = some kk) (hl : lookN kvs kk = some d) (q : Q d S) : w2 getF (.ref n) (.tup xs) S Q := ⟨_, _, by unfold getF; simp only [hn, hk, hl], q⟩
theorem o_inD {lk kvs kk} (hn : S[n]? = some (.dn lk kvs)) (hk : keyN xs = some kk) (q : Q (.bl (lookN kvs kk).isSome) S) : w2 (inD false) (.tup xs) (.ref n) S Q := ⟨_, _, by unfold inD; simp only [hn, hk]; rfl, q⟩
theorem f_lenT (q : Q (.int xs.length) S) : w1 lenF [.tup xs] S Q := ⟨_, _, rfl, q⟩
theorem f_lenR (q : Q (.int xs.length) S) : w1 lenF [.rl xs] S Q := ⟨_, _, rfl, q⟩
theorem f_lenL (hn : S[n]? = some (.lst xs)) (q : Q (.int xs.length) S) : w1 lenF [.ref n] S Q := ⟨_, _, by unfold lenF; simp only [hn], q⟩
theorem f_intI (q : Q (.int i) S) : w1 intF [.int i] S Q := ⟨_, _, rfl, q⟩
theorem f_intB {b} (q : Q (.int (if b then 1 else 0)) S) : w1 intF [.bl b] S Q := ⟨_, _, rfl, q⟩
theorem f_abs (q : Q (.int (if i < 0 then -i else i)) S) : w1 absF [.int i] S Q := ⟨_, _, rfl, q⟩
theorem f_max (q : Q (.int (if j > i then j else i)) S) : w1 maxF [.int i, .int j] S Q := ⟨_, _, rfl, q⟩
theorem f_min (q : Q (.int (if j < i then j else i)) S) : w1 minF [.int i, .int j] S Q := ⟨_, _, rfl, q⟩
theorem f_str (h : i.natAbs.log2 < 1920) (q : Q (.str (toString i)) S) : w1 strF [.int i] S Q := ⟨_, _, by unfold strF; simp only [if_pos h], q⟩
theorem f_listT (q : Q (.ref S.length) (S ++ [.lst xs])) : w1 listF [.tup xs] S Q := ⟨_, _, rfl, q⟩
theorem f_listL (hn : S[n]? = some (.lst xs)) (q : Q (.ref S.length) (S ++ [.lst xs])) : w1 listF [.ref n] S Q := ⟨_, _, by unfold listF; simp only [hn], q⟩
theorem f_tupT (q : Q (.tup xs) S) : w1 tupleF [.tup xs] S Q := ⟨_, _, rfl, q⟩
theorem f_tupL (hn : S[n]? = some (.lst xs)) (q : Q (.tup xs) S) : w1 tupleF [.ref n] S Q := ⟨_, _, by unfold tupleF; simp only [hn], q⟩
theorem f_all {bs} (hn : S[n]? = some (.lst xs)) (hb : blsD xs = some bs) (q : Q (.bl (bs.all id)) S) : w1 allF [.ref n] S Q := ⟨_, _, by unfold allF; simp only [hn, hb], q⟩
theorem f_dict {l} (hn : S[n]? = some (.lst xs)) (hb : pairsN xs = some l) (q : Q (.ref S.length) (S ++ [.dn false (putAll l [])])) : w1 dictF [.ref n] S Q := ⟨_, _, by unfold dictF; simp only [hn, hb], q⟩
theorem m_append (hn : S[n]? = some (.lst xs)) (h : xs.length < sizeLine) (q : Q .non (S.set n (.lst (xs ++ [y])))) : wM appendF (.ref n) [y] S Q := ⟨_, _, by unfold appendF; simp only [hn, if_pos h], q⟩
theorem m_pop (hn : S[n]? = some (.lst (xs ++ [y]))) (q : Q y (S.set n (.lst xs))) : wM popF (.ref n) [] S Q := ⟨_, _, by unfold popF; simp [hn], q⟩
theorem m_extT (hn : S[n]? = some (.lst xs)) (h : xs.length + ys.length ≤ sizeLine) (q : Q .non (S.set n (.lst (xs ++ ys)))) : wM extendF (.ref n) [.tup ys] S Q := ⟨_, _, by unfold extendF; simp only [hn, if_pos h], q⟩
theorem m_extL (hn : S[n]? = some (.lst xs)) (hm : S[m]? = some (.lst ys)) (h : xs.length + ys.length ≤ sizeLine) (q : Q .non (S.set n (.lst (xs ++ ys)))) : wM extendF (.ref n) [.ref m] S Q := ⟨_, _, by unfold extendF; simp only [hn, hm, if_pos h], q⟩
theorem ty_lst (hn : S[n]? = some (.lst xs)) : tyB "list" S (.ref n) = true := by unfold tyB; simp [hn]
/-- x not in a list of things -/
def memB (x : D) (ys : List D) : Bool := match pyD x, pyDs ys with
  | some p, some ds => ds.any fun z => PyData.eqv z p
  | _, _ => false
theorem o_notin {p ds} (hn : S[n]? = some (.lst ys)) (hx : pyD x = some p) (hy : pyDs ys = some ds) (h1 : SeqAt.shaped p = true) (h2 : SeqAt.shaped (.list ds) = true) (q : Q (.bl (!memB x ys)) S) : w2 (inF true) x (.ref n) S Q := by
  refine ⟨_, _, ?_, q⟩
  unfold inF inT inB memB
  simp [hx, hy, pyO, hn, h1, h2]
theorem ty_tup : tyQ "tuple" S (.tup xs) Q' ↔ Q' true := by
  constructor
  · rintro ⟨t, b, e1, e2, q⟩
    cases e1
    rw [show kitB "tuple" "tuple" = some true from by unfold kitB; simp] at e2
    cases e2; exact q
  · intro q; exact ⟨_, _, rfl, by unfold kitB; simp, q⟩
end
/-! ### the store -/
section
variable {S S' : Sto} {n m : Nat} {o u : O}
theorem lk_app {J : Sto} (h : S[n]? = some o) : (S ++ J)[n]? = some o := by rw [List.getElem?_append_left (lt_of h)]; exact h
theorem lk_new : (S ++ [o])[S.length]? = some o := by simp
theorem lk_set (h : S[n]? = some u) : (S.set n o)[n]? = some o := List.getElem?_set_self (lt_of h)
theorem lk_ne (hne : n ≠ m) (h : S[n]? = some o) : (S.set m u)[n]? = some o := by rw [List.getElem?_set_ne (Ne.symm hne)]; exact h
/-- all that stood there still stands there -/
def Kp (S S' : Sto) : Prop := ∀ (i : Nat) (o : O), S[i]? = some o → S'[i]? = some o
theorem Kp.refl : Kp S S := fun _ _ h => h
theorem Kp.trans {S1 S2 S3 : Sto} (a : Kp S1 S2) (b : Kp S2 S3) : Kp S1 S3 := fun i o h => b i o (a i o h)
theorem Kp.app {J : Sto} (h : Kp S S') : Kp S (S' ++ J) := fun i o e => lk_app (h i o e)
theorem Kp.set (h : Kp S S') (hn : S[n]? = none) : Kp S (S'.set n u) := fun i o e => lk_ne (fun z => by subst z; rw [hn] at e; cases e) (h i o e)
theorem none_len : S[S.length]? = none := by simp
theorem Kp.ne (h : S[n]? = some o) : n ≠ S.length := fun z => by subst z; simp at h
theorem Kp.len (h : Kp S S') : S.length ≤ S'.length := by
  rcases Nat.lt_or_ge S'.length S.length with l | l
  · have := h _ _ (List.getElem?_eq_getElem l)
    simp at this
  · exact l
end
end Ml
/-! Mw2: .. of defs as values -/
namespace Ml
open L2 PyProof.Rows PySem PySem.Spec
section
variable {γ : Sl} {S S' : Sto} {Q : D → Sto → Prop} {ra : AvM} {i n id : Nat} {nd : NDef} {ws : List D}
theorem v_callN {tab : Nat → Option NDef} {G : Nat → List D → Sto → Option (D × Sto)} (h1 : γ[i]? = some (some (.ref n))) (h2 : S[n]? = some (.fn id nd ws)) (ht : tab id = some nd) (hw : ws.length = nd.fr.length)
    (h : wA ra γ S fun xs S1 => S1[n]? = some (.fn id nd ws) ∧ xs.length = nd.ps.length ∧ w1 (G id) (xs ++ ws) S1 Q) : wE (callNM i tab G ra) γ S Q := by
  obtain ⟨xs, S1, e1, e2, e3, d, S2, e4, q⟩ := h
  refine ⟨d, S2, ?_, q⟩
  unfold callNM
  simp only [h1, h2, e1, e2]
  rw [if_pos ⟨ht, e3, hw⟩]
  exact e4
theorem v_callG {k : Nat} {cands : Str → Option (List D → Sto → Option (D × Sto))} {z : Str} {G : List D → Sto → Option (D × Sto)} (h1 : γ[i]? = some (some (.gl z))) (h2 : cands z = some G) (h : wA ra γ S fun xs S1 => xs.length = k ∧ w1 G xs S1 Q) : wE (callGM i k cands ra) γ S Q := by
  obtain ⟨xs, S1, e1, e3, d, S2, e4, q⟩ := h
  refine ⟨d, S2, ?_, q⟩
  unfold callGM
  simp only [h1, h2, e1]
  rw [if_pos e3]
  exact e4
theorem s_dret {ia : Nat} {js : List Nat} {G : List D → Sto → Option (D × Sto)} {y : D} {Q : Fl → Sl → Sto → Prop} (h1 : γ[ia]? = some (some y)) (h2 : js.mapM (fun j => γ[j]?.join) = some ws) (h : w1 G [y, .ref S.length] (S ++ [.fn id nd ws]) fun d S2 => Q (.rt d) γ (junkAll S2)) : wS (dretM id nd ia js G) γ S Q := by
  obtain ⟨d, S2, e4, q⟩ := h
  refine ⟨_, _, _, ?_, q⟩
  unfold dretM
  simp only [h1, h2, e4]
/-- all that stood there still stands there, but for defs -/
def Kj (S S' : Sto) : Prop := ∀ (i : Nat) (o : O), S[i]? = some o → jk o = o → S'[i]? = some o
theorem Kp.kj (h : Kp S S') : Kj S S' := fun i o e _ => h i o e
theorem Kj.trans {S1 S2 S3 : Sto} (a : Kj S1 S2) (b : Kj S2 S3) : Kj S1 S3 := fun i o e z => b i o (a i o e z) z
theorem Kj.junk (h : Kj S S') : Kj S (junkAll S') := fun i o e z => by
  unfold junkAll
  rw [List.getElem?_map, h i o e z]
  show some (jk o) = some o
  rw [z]
end
/-- rules of what must hold -/
theorem o_isT {S : Sto} {Q : D → Sto → Prop} {x : D} {b r : Bool} (h : sameF x b = some r) (q : Q (.bl r) S) : w2 (isT false) x (.bl b) S Q := ⟨_, _, by unfold isT; simp only [h]; rfl, q⟩
theorem o_isnT {S : Sto} {Q : D → Sto → Prop} {x : D} {b r : Bool} (h : sameF x b = some r) (q : Q (.bl (!r)) S) : w2 (isT true) x (.bl b) S Q := ⟨_, _, by unfold isT; simp only [h]; rfl, q⟩
theorem g_lst {γ : Sl} {S : Sto} {n r : Nat} {g : List D → Sl → Sto → Option (Sl × Sto)} {xs : List D} {Q : Sl → Sto → Prop} (hn : S[r]? = some (.lst xs)) (h : xs.length = n) (q : wGs g xs γ S Q) : wG (lstG n g) (.ref r) γ S Q := by
  obtain ⟨γ', S', e1, q⟩ := q
  exact ⟨_, _, by unfold lstG; simp only [hn, if_pos h, e1], q⟩
end Ml
/-! Mw3: loops by the place reached. -/
namespace Ml
open L2 PyProof.Rows PySem PySem.Spec
section
variable {γ : Sl} {S : Sto} {b : SvM} {g : TvM} {e : EvM}
theorem drop_at {α : Type} {xs : List α} {j : Nat} {x : α} {r : List α} (h : xs.drop j = x :: r) : xs[j]? = some x ∧ xs.drop (j + 1) = r := by
  have hj : j < xs.length := by
    rcases Nat.lt_or_ge j xs.length with l | l
    · exact l
    · rw [List.drop_of_length_le l] at h; cases h
  rw [List.drop_eq_getElem_cons hj] at h
  obtain ⟨h1, h2⟩ := List.cons.inj h
  exact ⟨by rw [List.getElem?_eq_getElem hj, h1], h2⟩
theorem for_seq {ck : Option (Nat × O)} {xs : List D} {Q : Fl → Sl → Sto → Prop} (I : Nat → Sl → Sto → Prop)
    (step : ∀ j x γ S, xs[j]? = some x → I j γ S → Chk ck S ∧ wG g x γ S fun γ1 S1 => wS b γ1 S1 (turnQ (I (j + 1)) Q))
    (stop : ∀ γ S, I xs.length γ S → Chk ck S ∧ Q .nx γ S) (h0 : I 0 γ S) : wFor ck g b xs γ S Q := by
  refine for_inv (fun rest γ S => ∃ j, xs.drop j = rest ∧ j ≤ xs.length ∧ I j γ S) ?_ ?_ _ _ _ ⟨0, rfl, Nat.zero_le _, h0⟩
  · rintro x r γ S ⟨j, hd, hj, hi⟩
    obtain ⟨h1, h2⟩ := drop_at hd
    obtain ⟨hc, γ1, S1, e1, q⟩ := step j x γ S h1 hi
    refine ⟨hc, γ1, S1, e1, q.mono fun f γ2 S2 t => ?_⟩
    cases t with
    | nx h => exact .nx ⟨j + 1, h2, lt_of h1, h⟩
    | ct h => exact .ct ⟨j + 1, h2, lt_of h1, h⟩
    | bk h => exact .bk h
    | rt h => exact .rt h
  · rintro γ S ⟨j, hd, hj, hi⟩
    have : j = xs.length := by
      have := congrArg List.length hd
      simp at this; omega
    subst this
    exact stop γ S hi
theorem for_rng {N : Nat} {Q : Fl → Sl → Sto → Prop} (I : Nat → Sl → Sto → Prop)
    (step : ∀ j γ S, j < N → I j γ S → wG g (.int j) γ S fun γ1 S1 => wS b γ1 S1 (turnQ (I (j + 1)) Q))
    (stop : ∀ γ S, I N γ S → Q .nx γ S) (h0 : I 0 γ S) : wFor none g b (rngD 0 N) γ S Q := by
  have hl : (rngD 0 N).length = N := by simp [rngD]
  refine for_seq I ?_ ?_ h0
  · intro j x γ S hx hi
    have hj := lt_of hx
    rw [hl] at hj
    have : x = .int j := by
      simp [rngD, hj] at hx
      exact hx.symm
    subst this
    exact ⟨trivial, step j γ S hj hi⟩
  · intro γ S hi
    rw [hl] at hi
    exact ⟨trivial, stop γ S hi⟩
/-- a list told item by item -/
theorem comp_seq {ck : Option (Nat × O)} {tgt : Tgt} {n : Nat} {xs : List D} {Q : Sto → Prop} (I : Nat → List D → Sto → Prop)
    (step : ∀ j x acc T, xs[j]? = some x → acc.length = j → T[n]? = some (.lst acc) → I j acc T → Chk ck T ∧ ∃ γ1, bindT tgt x γ = some γ1 ∧ wE e γ1 T fun y T' => T'[n]? = some (.lst acc) ∧ I (j + 1) (acc ++ [y]) (T'.set n (.lst (acc ++ [y]))))
    (stop : ∀ acc T, acc.length = xs.length → T[n]? = some (.lst acc) → I xs.length acc T → Chk ck T ∧ Q T) (hl : xs.length ≤ 1000000) (hn : S[n]? = some (.lst [])) (h0 : I 0 [] S) : wK ck tgt yesC e γ n xs S Q := by
  refine k_inv (fun rest T => ∃ j acc, xs.drop j = rest ∧ j ≤ xs.length ∧ acc.length = j ∧ T[n]? = some (.lst acc) ∧ I j acc T) ?_ ?_ _ _ ⟨0, [], rfl, Nat.zero_le _, rfl, hn, h0⟩
  · rintro x r T ⟨j, acc, hd, hj, ha, hT, hi⟩
    obtain ⟨h1, h2⟩ := drop_at hd
    obtain ⟨hc, γ1, e1, q⟩ := step j x acc T h1 ha hT hi
    refine ⟨hc, γ1, e1, c_yes (iff_t (q.mono fun y T' h => ?_))⟩
    refine ⟨acc, h.1, by have := lt_of h1; simp only [sizeLine]; omega, j + 1, _, h2, lt_of h1, by simp [ha], lk_set h.1, h.2⟩
  · rintro T ⟨j, acc, hd, hj, ha, hT, hi⟩
    have : j = xs.length := by
      have := congrArg List.length hd
      simp at this; omega
    subst this
    exact stop acc T ha hT hi
theorem comp_rng {N : Nat} {i n : Nat} {Q : Sto → Prop} (I : Nat → List D → Sto → Prop)
    (step : ∀ j acc T, j < N → acc.length = j → T[n]? = some (.lst acc) → I j acc T → wE e (γ.set i (some (.int j))) T fun y T' => T'[n]? = some (.lst acc) ∧ I (j + 1) (acc ++ [y]) (T'.set n (.lst (acc ++ [y]))))
    (stop : ∀ acc T, acc.length = N → T[n]? = some (.lst acc) → I N acc T → Q T) (hl : N ≤ 1000000) (hn : S[n]? = some (.lst [])) (h0 : I 0 [] S) : wK none (.one i) yesC e γ n (rngD 0 N) S Q := by
  have hl2 : (rngD 0 N).length = N := by simp [rngD]
  refine comp_seq I ?_ ?_ (by omega) hn h0
  · intro j x acc T hx ha hT hi
    have hj := lt_of hx
    rw [hl2] at hj
    have : x = .int j := by
      simp [rngD, hj] at hx
      exact hx.symm
    subst this
    exact ⟨trivial, _, rfl, step j acc T hj ha hT hi⟩
  · intro acc T ha hT hi
    rw [hl2] at ha hi
    exact ⟨trivial, stop acc T ha hT hi⟩
end
end Ml
namespace Gn
open PySem L2 Ml
inductive Fn where
  | parts_of
  | reduced
  | columns_in
  | leaves_of
  | columns_at
  | is_column
  | negated
  | perhaps
  | both
  | either
  | compared
  | possible
  | never_on_nulls
  | truths_of
  | truths_alone
  | has_column_of
  | reckoned
  | truth_joined
  | mark_value
  | mark_truth
  | worth_of_one
  | _law_deck
  | _law_pick
  | _law_number
  | _law_word
  | _law_part
  | _law_expr
  | _law_leaf
  | _law_joined
  | _law_level
  | _law_told
  | _law_value
  | _law_leaf_level
  | _law_marked
  | _law_same
  | _law_truth_same
  | _law_values
  | _law_at_values
  | _law_unit
  | law
  | mark_value__step
  | mark_truth__step
def isTop : Fn → Bool
  | .mark_value__step => false
  | .mark_truth__step => false
  | _ => true
def topS (i : Nat) : Stmt := PySem.Challenge.pw_leastplans_k35_possible_truths.main.body.getD i (.Pass ⟨0, 0, 0, 0⟩)
abbrev nst_mark_value__step : Stmt := (defBody (topS 28)).getD 0 (.Pass ⟨0, 0, 0, 0⟩)
abbrev nd_mark_value__step : NDef := ⟨"step", "mark_value.<locals>.step", nst_mark_value__step, ["one", "sides"], ["worth", "folds"]⟩
abbrev nst_mark_truth__step : Stmt := (defBody (topS 29)).getD 0 (.Pass ⟨0, 0, 0, 0⟩)
abbrev nd_mark_truth__step : NDef := ⟨"step", "mark_truth.<locals>.step", nst_mark_truth__step, ["one", "sides"], ["worth", "folds"]⟩
def tabN : Nat → Option NDef
  | 0 => some nd_mark_value__step
  | 1 => some nd_mark_truth__step
  | _ => none
def gN (F : Fn → List D → Sto → Option (D × Sto)) : Nat → List D → Sto → Option (D × Sto)
  | 0 => F .mark_value__step
  | 1 => F .mark_truth__step
  | _ => fun _ _ => none
def c_LINKS : D := .tup [.str "not", .str "maybe", .str "and", .str "or"]
def c_NO_PLACES : D := .tup [.int 1, .int 1]
def c_PART_PLACES : List (Str × Option D) := [("add", some (.tup [.int 1, .int 3])), ("sub", some (.tup [.int 1, .int 3])), ("mul", some (.tup [.int 1, .int 3])), ("neg", some (.tup [.int 1, .int 2])), ("cmp", some (.tup [.int 2, .int 4])), ("null", some (.tup [.int 1, .int 2])), ("in", some (.tup [.int 1, .int 2])), ("not", some (.tup [.int 1, .int 2])), ("maybe", some (.tup [.int 1, .int 2])), ("and", some (.tup [.int 1, .int 3])), ("or", some (.tup [.int 1, .int 3])), ("num", none), ("text", none), ("col", none), ("agg", none), ("mark", none)]
def c_TRUTHS : D := .tup [.bl true, .bl false, .non]
noncomputable def b_parts_of (F : Fn → List D → Sto → Option (D × Sto)) : SvM :=
  seqM (asgM (cgetM c_PART_PLACES (binM ixF (varM 0) (conM (.int 0))) (conM c_NO_PLACES)) (tupG 2 (consG (nameG 1) (consG (nameG 2) (nilG))))) (rtM (slM (varM 0) (partM (varM 1)) (partM (varM 2))))
noncomputable def b_reduced (F : Fn → List D → Sto → Option (D × Sto)) : SvM :=
  seqM (asgM (lstM (consA (varM 0) (nilA))) (nameG 2)) (seqM (asgM (lstM (nilA)) (nameG 3)) (seqM (asgM (conM (.int 0)) (nameG 4)) (seqM (whileM (tstM (binM ltF (varM 4) (appM lenF (consA (varM 2) (nilA))))) (seqM (exM (metM "list" appendF (varM 3) (consA (appM lenF (consA (varM 2) (nilA))) (nilA)))) (seqM (exM (metM "list" extendF (varM 2) (consA (callM 1 (F .parts_of) (consA (binM ixF (varM 2) (varM 4)) (nilA))) (nilA)))) (augM 4 iaddF (conM (.int 1)))))) (seqM (asgM (binM repF (lstM (consA (conM .non) (nilA))) (appM lenF (consA (varM 2) (nilA)))) (nameG 5)) (seqM (forM (rngDI (consA (binM subF (appM lenF (consA (varM 2) (nilA))) (conM (.int 1))) (consA (negM (conM (.int 1))) (consA (negM (conM (.int 1))) (nilA))))) (nameG 4) (seqM (asgM (appM lenF (consA (callM 1 (F .parts_of) (consA (binM ixF (varM 2) (varM 4)) (nilA))) (nilA))) (nameG 6)) (asgM (callNM 1 tabN (gN F) (consA (binM ixF (varM 2) (varM 4)) (consA (slM (varM 5) (partM (binM ixF (varM 3) (varM 4))) (partM (binM addF (binM ixF (varM 3) (varM 4)) (varM 6)))) (nilA)))) (subL (varM 5) (varM 4))))) (rtM (binM ixF (varM 5) (conM (.int 0)))))))))
noncomputable def b_columns_in (F : Fn → List D → Sto → Option (D × Sto)) : SvM :=
  seqM (asgM (lstM (nilA)) (nameG 1)) (seqM (forM (seqI (callM 1 (F .leaves_of) (consA (varM 0) (nilA)))) (nameG 2) (forM (seqI (callM 1 (F .columns_at) (consA (varM 2) (nilA)))) (nameG 3) (ifS (tstM (binM (inF true) (varM 3) (varM 1))) (exM (metM "list" appendF (varM 1) (consA (varM 3) (nilA)))) (nxM)))) (rtM (appM tupleF (consA (varM 1) (nilA)))))
noncomputable def b_leaves_of (F : Fn → List D → Sto → Option (D × Sto)) : SvM :=
  seqM (asgM (lstM (nilA)) (nameG 1)) (seqM (asgM (ifM (tstM (binM (isF false) (varM 0) (conM .non))) (lstM (nilA)) (lstM (consA (varM 0) (nilA)))) (nameG 2)) (seqM (whileM (truC (varM 2)) (seqM (asgM (metM "list" popF (varM 2) nilA) (nameG 3)) (seqM (asgM (callM 1 (F .parts_of) (consA (varM 3) (nilA))) (nameG 4)) (seqM (exM (metM "list" extendF (varM 2) (consA (revTM (varM 4)) (nilA)))) (ifS (notC (truC (varM 4))) (exM (metM "list" appendF (varM 1) (consA (varM 3) (nilA)))) (nxM)))))) (rtM (varM 1))))
noncomputable def b_columns_at (F : Fn → List D → Sto → Option (D × Sto)) : SvM :=
  seqM (ifS (tstM (binM eqF (binM ixF (varM 0) (conM (.int 0))) (conM (.str "col")))) (rtM (lstM (consA (varM 0) (nilA)))) (nxM)) (seqM (ifS (tstM (binM eqF (binM ixF (varM 0) (conM (.int 0))) (conM (.str "agg")))) (rtM (compM (seqI (varM 0)) (.one 1) (truC (callM 1 (F .is_column) (consA (varM 1) (nilA)))) (varM 1) [1])) (nxM)) (rtM (lstM (nilA))))
noncomputable def b_is_column (F : Fn → List D → Sto → Option (D × Sto)) : SvM :=
  rtM (andV (isiM "tuple" (varM 0)) (binM eqF (binM ixF (varM 0) (conM (.int 0))) (conM (.str "col"))))
noncomputable def b_negated (F : Fn → List D → Sto → Option (D × Sto)) : SvM :=
  rtM (ifM (tstM (binM (isF false) (varM 0) (conM .non))) (conM .non) (notV (varM 0)))
noncomputable def b_perhaps (F : Fn → List D → Sto → Option (D × Sto)) : SvM :=
  rtM (binM (isT true) (varM 0) (conM (.bl false)))
noncomputable def b_both (F : Fn → List D → Sto → Option (D × Sto)) : SvM :=
  seqM (ifS (orC (tstM (binM (isT false) (varM 0) (conM (.bl false)))) (tstM (binM (isT false) (varM 1) (conM (.bl false))))) (rtM (conM (.bl false))) (nxM)) (rtM (ifM (orC (tstM (binM (isF false) (varM 0) (conM .non))) (tstM (binM (isF false) (varM 1) (conM .non)))) (conM .non) (conM (.bl true))))
noncomputable def b_either (F : Fn → List D → Sto → Option (D × Sto)) : SvM :=
  seqM (ifS (orC (tstM (binM (isT false) (varM 0) (conM (.bl true)))) (tstM (binM (isT false) (varM 1) (conM (.bl true))))) (rtM (conM (.bl true))) (nxM)) (rtM (ifM (orC (tstM (binM (isF false) (varM 0) (conM .non))) (tstM (binM (isF false) (varM 1) (conM .non)))) (conM .non) (conM (.bl false))))
noncomputable def b_compared (F : Fn → List D → Sto → Option (D × Sto)) : SvM :=
  seqM (ifS (orC (tstM (binM (isF false) (varM 1) (conM .non))) (tstM (binM (isF false) (varM 2) (conM .non)))) (rtM (conM .non)) (nxM)) (seqM (ifS (tstM (binM eqF (varM 0) (conM (.str "=")))) (rtM (binM eqF (varM 1) (varM 2))) (nxM)) (seqM (ifS (tstM (binM eqF (varM 0) (conM (.str "<>")))) (rtM (binM neF (varM 1) (varM 2))) (nxM)) (seqM (ifS (tstM (binM eqF (varM 0) (conM (.str "<")))) (rtM (binM ltF (varM 1) (varM 2))) (nxM)) (seqM (ifS (tstM (binM eqF (varM 0) (conM (.str "<=")))) (rtM (binM leF (varM 1) (varM 2))) (nxM)) (seqM (ifS (tstM (binM eqF (varM 0) (conM (.str ">")))) (rtM (binM gtF (varM 1) (varM 2))) (nxM)) (rtM (binM geF (varM 1) (varM 2))))))))
noncomputable def b_possible (F : Fn → List D → Sto → Option (D × Sto)) : SvM :=
  seqM (asgM (callM 2 (F .truths_of) (consA (varM 0) (consA (varM 1) (nilA)))) (nameG 2)) (rtM (appM tupleF (consA (compM (seqI (conM c_TRUTHS)) (.one 3) (yesC) (binM (inF false) (varM 3) (varM 2)) [3]) (nilA))))
noncomputable def b_never_on_nulls (F : Fn → List D → Sto → Option (D × Sto)) : SvM :=
  rtM (notV (binM ixF (callM 2 (F .possible) (consA (varM 0) (consA (varM 1) (nilA)))) (conM (.int 0))))
noncomputable def b_truths_of (F : Fn → List D → Sto → Option (D × Sto)) : SvM :=
  seqM (asgM (binM ixF (varM 0) (conM (.int 0))) (nameG 2)) (seqM (ifS (tstM (binM (inF false) (varM 2) (tupM (consA (conM (.str "cmp")) (consA (conM (.str "null")) (nilA)))))) (rtM (callM 2 (F .truths_alone) (consA (varM 2) (consA (callM 2 (F .has_column_of) (consA (varM 0) (consA (varM 1) (nilA)))) (nilA))))) (nxM)) (seqM (asgM (compM (seqI (callM 1 (F .parts_of) (consA (varM 0) (nilA)))) (.one 6) (yesC) (callM 2 (F .truths_of) (consA (varM 6) (consA (varM 1) (nilA)))) [6]) (nameG 3)) (seqM (ifS (tstM (binM eqF (varM 2) (conM (.str "not")))) (asgM (compM (seqI (binM ixF (varM 3) (conM (.int 0)))) (.one 7) (yesC) (callM 1 (F .negated) (consA (varM 7) (nilA))) [7]) (nameG 4)) (ifS (tstM (binM eqF (varM 2) (conM (.str "maybe")))) (asgM (compM (seqI (binM ixF (varM 3) (conM (.int 0)))) (.one 7) (yesC) (callM 1 (F .perhaps) (consA (varM 7) (nilA))) [7]) (nameG 4)) (seqM (asgM (ifM (tstM (binM eqF (varM 2) (conM (.str "and")))) (conM (.gl "both")) (conM (.gl "either"))) (nameG 5)) (asgM (comp2M (seqI (binM ixF (varM 3) (conM (.int 0)))) (.one 8) yesC (seqI (binM ixF (varM 3) (conM (.int 1)))) (.one 9) yesC (callGM 5 2 (fun z => if z = "both" then some (F .both) else if z = "either" then some (F .either) else none) (consA (varM 8) (consA (varM 9) (nilA)))) [8, 9] [9]) (nameG 4))))) (rtM (compM (seqI (conM c_TRUTHS)) (.one 7) (tstM (binM (inF false) (varM 7) (varM 4))) (varM 7) [7])))))
noncomputable def b_truths_alone (F : Fn → List D → Sto → Option (D × Sto)) : SvM :=
  seqM (ifS (tstM (binM eqF (varM 0) (conM (.str "cmp")))) (rtM (ifM (truC (varM 1)) (lstM (consA (conM .non) (nilA))) (lstM (consA (conM (.bl true)) (consA (conM (.bl false)) (consA (conM .non) (nilA))))))) (nxM)) (rtM (ifM (truC (varM 1)) (lstM (consA (conM (.bl true)) (nilA))) (lstM (consA (conM (.bl true)) (consA (conM (.bl false)) (nilA))))))
noncomputable def b_has_column_of (F : Fn → List D → Sto → Option (D × Sto)) : SvM :=
  rtM (anyFE 1 1 (callM 1 (F .columns_in) (consA (varM 0) (nilA))))
noncomputable def b_reckoned (F : Fn → List D → Sto → Option (D × Sto)) : SvM :=
  seqM (ifS (tstM (binM eqF (varM 0) (conM (.str "neg")))) (rtM (negM (binM ixF (varM 1) (conM (.int 0))))) (nxM)) (seqM (asgM (varM 1) (lstG 2 (consG (nameG 2) (consG (nameG 3) (nilG))))) (seqM (ifS (tstM (binM eqF (varM 0) (conM (.str "add")))) (rtM (binM addF (varM 2) (varM 3))) (nxM)) (rtM (ifM (tstM (binM eqF (varM 0) (conM (.str "sub")))) (binM subF (varM 2) (varM 3)) (binM mulF (varM 2) (varM 3))))))
noncomputable def b_truth_joined (F : Fn → List D → Sto → Option (D × Sto)) : SvM :=
  seqM (ifS (tstM (binM eqF (varM 0) (conM (.str "not")))) (rtM (callM 1 (F .negated) (consA (binM ixF (varM 1) (conM (.int 0))) (nilA)))) (nxM)) (seqM (ifS (tstM (binM eqF (varM 0) (conM (.str "maybe")))) (rtM (callM 1 (F .perhaps) (consA (binM ixF (varM 1) (conM (.int 0))) (nilA)))) (nxM)) (rtM (ifM (tstM (binM eqF (varM 0) (conM (.str "and")))) (callM 2 (F .both) (consA (binM ixF (varM 1) (conM (.int 0))) (consA (binM ixF (varM 1) (conM (.int 1))) (nilA)))) (callM 2 (F .either) (consA (binM ixF (varM 1) (conM (.int 0))) (consA (binM ixF (varM 1) (conM (.int 1))) (nilA)))))))
noncomputable def b_mark_value (F : Fn → List D → Sto → Option (D × Sto)) : SvM :=
  dretM 0 nd_mark_value__step 0 [1, 2] (F .reduced)
noncomputable def b_mark_truth (F : Fn → List D → Sto → Option (D × Sto)) : SvM :=
  dretM 1 nd_mark_truth__step 0 [1, 2] (F .reduced)
noncomputable def b_worth_of_one (F : Fn → List D → Sto → Option (D × Sto)) : SvM :=
  seqM (ifS (tstM (binM (inF false) (binM ixF (varM 0) (conM (.int 0))) (tupM (consA (conM (.str "num")) (consA (conM (.str "text")) (nilA)))))) (rtM (binM ixF (varM 0) (conM (.int 1)))) (nxM)) (seqM (ifS (tstM (binM eqF (binM ixF (varM 0) (conM (.int 0))) (conM (.str "mark")))) (rtM (binM getL (varM 2) (binM ixF (varM 0) (conM (.int 1))))) (nxM)) (seqM (ifS (tstM (binM eqF (binM ixF (varM 0) (conM (.int 0))) (conM (.str "agg")))) (rtM (binM ixF (varM 3) (binM ixF (varM 0) (conM (.int 1))))) (nxM)) (rtM (ifM (tstM (binM (inF false) (conM .non) (varM 1))) (conM .non) (callM 2 (F .reckoned) (consA (binM ixF (varM 0) (conM (.int 0))) (consA (varM 1) (nilA))))))))
noncomputable def b__law_deck (F : Fn → List D → Sto → Option (D × Sto)) : SvM :=
  seqM (asgM (lstM (nilA)) (nameG 1)) (seqM (asgM (binM addF (conM (.int 5003)) (binM mulF (conM (.int 17)) (appM lenF (consA (varM 0) (nilA))))) (nameG 2)) (seqM (forM (rlI (varM 0)) (nameG 3) (seqM (asgM (appM absF (consA (appM intF (consA (varM 3) (nilA))) (nilA))) (nameG 4)) (seqM (asgM (binM modF (appM intF (consA (binM addF (binM addF (binM mulF (varM 2) (conM (.int 131))) (binM modF (varM 4) (conM (.int 999983)))) (binM mulF (conM (.int 7)) (appM intF (consA (binM ltF (varM 3) (conM (.int 0))) (nilA))))) (nilA))) (conM (.int 999983))) (nameG 2)) (ifS (tstM (binM geF (varM 4) (binM powF (conM (.int 10)) (conM (.int 18))))) (forM (rng1I (consA (conM (.int 60)) (nilA))) (nameG 5) (ifS (tstM (binM gtF (varM 4) (conM (.int 0)))) (seqM (exM (metM "list" appendF (varM 1) (consA (binM modF (appM intF (consA (varM 4) (nilA))) (conM (.int 5040))) (nilA)))) (asgM (binM fdivF (varM 4) (conM (.int 5040))) (nameG 4))) (nxM))) (nxM))))) (seqM (forM (rng1I (consA (conM (.int 330)) (nilA))) (nameG 5) (seqM (asgM (binM modF (appM intF (consA (binM addF (binM addF (binM mulF (varM 2) (conM (.int 48271))) (binM mulF (conM (.int 8191)) (varM 5))) (conM (.int 29))) (nilA))) (conM (.int 2147483647))) (nameG 2)) (exM (metM "list" appendF (varM 1) (consA (binM modF (appM intF (consA (binM fdivF (varM 2) (conM (.int 13))) (nilA))) (conM (.int 5040))) (nilA)))))) (seqM (exM (metM "list" reverseF (varM 1) nilA)) (rtM (varM 1))))))
noncomputable def b__law_pick (F : Fn → List D → Sto → Option (D × Sto)) : SvM :=
  seqM (ifS (notC (truC (varM 0))) (rtM (conM (.int 0))) (nxM)) (rtM (binM modF (appM intF (consA (metM "list" popF (varM 0) nilA) (nilA))) (varM 1)))
noncomputable def b__law_number (F : Fn → List D → Sto → Option (D × Sto)) : SvM :=
  seqM (ifS (tstM (binM eqF (callM 2 (F ._law_pick) (consA (varM 0) (consA (conM (.int 6)) (nilA)))) (conM (.int 5)))) (rtM (binM subF (conM (.int 999999999)) (callM 2 (F ._law_pick) (consA (varM 0) (consA (conM (.int 5000)) (nilA)))))) (nxM)) (rtM (callM 2 (F ._law_pick) (consA (varM 0) (consA (conM (.int 4)) (nilA)))))
noncomputable def b__law_word (F : Fn → List D → Sto → Option (D × Sto)) : SvM :=
  rtM (binM ixF (lstM (consA (conM (.str "")) (consA (conM (.str "a")) (consA (conM (.str "ab")) (consA (conM (.str "b")) (consA (conM (.str "Zeta 9")) (nilA))))))) (callM 2 (F ._law_pick) (consA (varM 0) (consA (conM (.int 5)) (nilA)))))
noncomputable def b__law_part (F : Fn → List D → Sto → Option (D × Sto)) : SvM :=
  seqM (ifS (tstM (binM eqF (callM 2 (F ._law_pick) (consA (varM 0) (consA (conM (.int 4)) (nilA)))) (conM (.int 0)))) (seqM (ifS (truC (varM 1)) (rtM (tupM (consA (conM (.str "text")) (consA (callM 1 (F ._law_word) (consA (varM 0) (nilA))) (nilA))))) (nxM)) (rtM (tupM (consA (conM (.str "num")) (consA (callM 1 (F ._law_number) (consA (varM 0) (nilA))) (nilA)))))) (nxM)) (seqM (asgM (callM 2 (F ._law_pick) (consA (varM 0) (consA (conM (.int 4)) (nilA)))) (nameG 3)) (seqM (asgM (ifM (truC (varM 1)) (conM (.int 2)) (callM 2 (F ._law_pick) (consA (varM 0) (consA (conM (.int 2)) (nilA))))) (nameG 4)) (seqM (exM (metM "list" appendF (varM 2) (consA (tupM (consA (varM 3) (consA (varM 4) (nilA)))) (nilA)))) (rtM (tupM (consA (conM (.str "col")) (consA (varM 3) (consA (varM 4) (nilA)))))))))
noncomputable def b__law_expr (F : Fn → List D → Sto → Option (D × Sto)) : SvM :=
  seqM (asgM (callM 3 (F ._law_part) (consA (varM 0) (consA (varM 1) (consA (varM 2) (nilA))))) (nameG 3)) (seqM (ifS (truC (varM 1)) (rtM (varM 3)) (nxM)) (seqM (forM (rng1I (consA (binM ixF (lstM (consA (conM (.int 0)) (consA (conM (.int 0)) (consA (conM (.int 0)) (consA (conM (.int 1)) (consA (conM (.int 1)) (consA (conM (.int 2)) (consA (conM (.int 3)) (nilA))))))))) (callM 2 (F ._law_pick) (consA (varM 0) (consA (conM (.int 7)) (nilA))))) (nilA))) (nameG 4) (seqM (asgM (callM 2 (F ._law_pick) (consA (varM 0) (consA (conM (.int 5)) (nilA)))) (nameG 5)) (ifS (tstM (binM eqF (varM 5) (conM (.int 4)))) (asgM (tupM (consA (conM (.str "neg")) (consA (varM 3) (nilA)))) (nameG 3)) (ifS (tstM (binM eqF (varM 5) (conM (.int 3)))) (asgM (tupM (consA (conM (.str "sub")) (consA (callM 3 (F ._law_part) (consA (varM 0) (consA (conM (.bl false)) (consA (varM 2) (nilA))))) (consA (varM 3) (nilA))))) (nameG 3)) (asgM (tupM (consA (binM ixF (lstM (consA (conM (.str "add")) (consA (conM (.str "sub")) (consA (conM (.str "mul")) (nilA))))) (varM 5)) (consA (varM 3) (consA (callM 3 (F ._law_part) (consA (varM 0) (consA (conM (.bl false)) (consA (varM 2) (nilA))))) (nilA))))) (nameG 3)))))) (rtM (varM 3))))
noncomputable def b__law_leaf (F : Fn → List D → Sto → Option (D × Sto)) : SvM :=
  seqM (asgM (lstM (nilA)) (nameG 1)) (seqM (asgM (binM eqF (callM 2 (F ._law_pick) (consA (varM 0) (consA (conM (.int 5)) (nilA)))) (conM (.int 0))) (nameG 2)) (seqM (ifS (tstM (binM eqF (callM 2 (F ._law_pick) (consA (varM 0) (consA (conM (.int 3)) (nilA)))) (conM (.int 0)))) (rtM (tupM (consA (tupM (consA (conM (.str "null")) (consA (callM 3 (F ._law_expr) (consA (varM 0) (consA (varM 2) (consA (varM 1) (nilA))))) (nilA)))) (consA (varM 1) (nilA))))) (nxM)) (seqM (asgM (callM 3 (F ._law_expr) (consA (varM 0) (consA (varM 2) (consA (varM 1) (nilA))))) (nameG 3)) (seqM (asgM (callM 3 (F ._law_expr) (consA (varM 0) (consA (varM 2) (consA (varM 1) (nilA))))) (nameG 4)) (rtM (tupM (consA (tupM (consA (conM (.str "cmp")) (consA (binM ixF (lstM (consA (conM (.str "=")) (consA (conM (.str "<>")) (consA (conM (.str "<")) (consA (conM (.str "<=")) (consA (conM (.str ">")) (consA (conM (.str ">=")) (nilA)))))))) (callM 2 (F ._law_pick) (consA (varM 0) (consA (conM (.int 6)) (nilA))))) (consA (varM 3) (consA (varM 4) (nilA)))))) (consA (varM 1) (nilA)))))))))
noncomputable def b__law_joined (F : Fn → List D → Sto → Option (D × Sto)) : SvM :=
  seqM (asgM (compM (seqI (varM 1)) (.one 8) (yesC) (binM ixF (varM 8) (conM (.int 0))) [8]) (nameG 2)) (seqM (asgM (compM (rng1I (consA (appM lenF (consA (varM 1) (nilA))) (nilA))) (.one 5) (yesC) (tupM (consA (conM (.str "leaf")) (consA (varM 5) (nilA)))) [5]) (nameG 3)) (seqM (forM (rng1I (consA (binM mulF (conM (.int 3)) (appM lenF (consA (varM 1) (nilA)))) (nilA))) (nameG 4) (seqM (asgM (callM 2 (F ._law_pick) (consA (varM 0) (consA (appM lenF (consA (varM 2) (nilA))) (nilA)))) (nameG 5)) (seqM (asgM (callM 2 (F ._law_pick) (consA (varM 0) (consA (conM (.int 4)) (nilA)))) (nameG 6)) (ifS (tstM (binM ltF (varM 6) (conM (.int 2)))) (seqM (asgM (binM ixF (lstM (consA (conM (.str "not")) (consA (conM (.str "maybe")) (nilA)))) (varM 6)) (nameG 7)) (seqM (asgM (tupM (consA (varM 7) (consA (binM ixF (varM 2) (varM 5)) (nilA)))) (subL (varM 2) (varM 5))) (asgM (tupM (consA (varM 7) (consA (binM ixF (varM 3) (varM 5)) (nilA)))) (subL (varM 3) (varM 5))))) (ifS (tstM (binM gtF (appM lenF (consA (varM 2) (nilA))) (conM (.int 1)))) (seqM (asgM (appM minF (consA (varM 5) (consA (binM subF (appM lenF (consA (varM 2) (nilA))) (conM (.int 2))) (nilA)))) (nameG 5)) (seqM (asgM (binM ixF (lstM (consA (conM (.str "and")) (consA (conM (.str "or")) (nilA)))) (binM subF (varM 6) (conM (.int 2)))) (nameG 7)) (seqM (asgM (tupM (consA (varM 7) (consA (binM ixF (varM 2) (varM 5)) (consA (binM ixF (varM 2) (binM addF (varM 5) (conM (.int 1)))) (nilA))))) (subL (varM 2) (varM 5))) (seqM (asgM (tupM (consA (varM 7) (consA (binM ixF (varM 3) (varM 5)) (consA (binM ixF (varM 3) (binM addF (varM 5) (conM (.int 1)))) (nilA))))) (subL (varM 3) (varM 5))) (seqM (asgM (binM addF (slM (varM 2) (noM) (partM (binM addF (varM 5) (conM (.int 1))))) (slM (varM 2) (partM (binM addF (varM 5) (conM (.int 2)))) (noM))) (nameG 2)) (asgM (binM addF (slM (varM 3) (noM) (partM (binM addF (varM 5) (conM (.int 1))))) (slM (varM 3) (partM (binM addF (varM 5) (conM (.int 2)))) (noM))) (nameG 3))))))) (nxM)))))) (seqM (whileM (tstM (binM gtF (appM lenF (consA (varM 2) (nilA))) (conM (.int 1)))) (seqM (asgM (binM addF (lstM (consA (tupM (consA (conM (.str "or")) (consA (binM ixF (varM 2) (conM (.int 0))) (consA (binM ixF (varM 2) (conM (.int 1))) (nilA))))) (nilA))) (slM (varM 2) (partM (conM (.int 2))) (noM))) (nameG 2)) (asgM (binM addF (lstM (consA (tupM (consA (conM (.str "or")) (consA (binM ixF (varM 3) (conM (.int 0))) (consA (binM ixF (varM 3) (conM (.int 1))) (nilA))))) (nilA))) (slM (varM 3) (partM (conM (.int 2))) (noM))) (nameG 3)))) (rtM (tupM (consA (binM ixF (varM 2) (conM (.int 0))) (consA (binM ixF (varM 3) (conM (.int 0))) (nilA))))))))
noncomputable def b__law_level (F : Fn → List D → Sto → Option (D × Sto)) : SvM :=
  seqM (ifS (tstM (binM eqF (binM ixF (varM 0) (conM (.int 0))) (conM (.str "leaf")))) (rtM (binM ixF (varM 1) (binM ixF (varM 0) (conM (.int 1))))) (nxM)) (seqM (asgM (callM 2 (F ._law_level) (consA (binM ixF (varM 0) (conM (.int 1))) (consA (varM 1) (nilA)))) (nameG 2)) (seqM (ifS (tstM (binM eqF (binM ixF (varM 0) (conM (.int 0))) (conM (.str "not")))) (rtM (binM subF (conM (.int 2)) (varM 2))) (nxM)) (seqM (ifS (tstM (binM eqF (binM ixF (varM 0) (conM (.int 0))) (conM (.str "maybe")))) (rtM (binM mulF (conM (.int 2)) (appM intF (consA (binM gtF (varM 2) (conM (.int 0))) (nilA))))) (nxM)) (seqM (asgM (callM 2 (F ._law_level) (consA (binM ixF (varM 0) (conM (.int 2))) (consA (varM 1) (nilA)))) (nameG 3)) (rtM (ifM (tstM (binM eqF (binM ixF (varM 0) (conM (.int 0))) (conM (.str "and")))) (appM minF (consA (varM 2) (consA (varM 3) (nilA)))) (appM maxF (consA (varM 2) (consA (varM 3) (nilA))))))))))
noncomputable def b__law_told (F : Fn → List D → Sto → Option (D × Sto)) : SvM :=
  seqM (asgM (lstM (nilA)) (nameG 3)) (seqM (forM (seqI (varM 0)) (nameG 4) (seqM (asgM (binM gtF (appM lenF (consA (compM (seqI (binM ixF (varM 4) (conM (.int 1)))) (.one 12) (tstM (binM eqF (binM ixF (varM 12) (conM (.int 0))) (varM 2))) (varM 12) [12]) (nilA))) (conM (.int 0))) (nameG 5)) (ifS (tstM (binM eqF (binM ixF (binM ixF (varM 4) (conM (.int 0))) (conM (.int 0))) (conM (.str "null")))) (exM (metM "list" appendF (varM 3) (consA (ifM (truC (varM 5)) (lstM (consA (conM (.int 2)) (nilA))) (lstM (consA (conM (.int 0)) (consA (conM (.int 2)) (nilA))))) (nilA)))) (exM (metM "list" appendF (varM 3) (consA (ifM (truC (varM 5)) (lstM (consA (conM (.int 1)) (nilA))) (lstM (consA (conM (.int 0)) (consA (conM (.int 1)) (consA (conM (.int 2)) (nilA)))))) (nilA))))))) (seqM (asgM (conM (.int 1)) (nameG 6)) (seqM (forM (seqI (varM 3)) (nameG 7) (asgM (binM mulF (varM 6) (appM lenF (consA (varM 7) (nilA)))) (nameG 6))) (seqM (asgM (lstM (consA (conM (.bl false)) (consA (conM (.bl false)) (consA (conM (.bl false)) (nilA))))) (nameG 8)) (seqM (forM (rng1I (consA (varM 6) (nilA))) (nameG 9) (seqM (asgM (varM 9) (nameG 10)) (seqM (asgM (lstM (nilA)) (nameG 11)) (seqM (forM (seqI (varM 3)) (nameG 7) (seqM (exM (metM "list" appendF (varM 11) (consA (binM ixF (varM 7) (binM modF (varM 10) (appM lenF (consA (varM 7) (nilA))))) (nilA)))) (asgM (binM fdivF (varM 10) (appM lenF (consA (varM 7) (nilA)))) (nameG 10)))) (asgM (conM (.bl true)) (subL (varM 8) (callM 2 (F ._law_level) (consA (varM 1) (consA (varM 11) (nilA)))))))))) (rtM (lstM (consA (binM ixF (varM 8) (conM (.int 2))) (consA (binM ixF (varM 8) (conM (.int 0))) (consA (binM ixF (varM 8) (conM (.int 1))) (nilA)))))))))))
noncomputable def b__law_value (F : Fn → List D → Sto → Option (D × Sto)) : SvM :=
  seqM (ifS (orC (tstM (binM eqF (binM ixF (varM 0) (conM (.int 0))) (conM (.str "num")))) (tstM (binM eqF (binM ixF (varM 0) (conM (.int 0))) (conM (.str "text"))))) (rtM (binM ixF (varM 0) (conM (.int 1)))) (nxM)) (seqM (ifS (tstM (binM eqF (binM ixF (varM 0) (conM (.int 0))) (conM (.str "col")))) (rtM (binM getF (varM 1) (tupM (consA (binM ixF (varM 0) (conM (.int 1))) (consA (binM ixF (varM 0) (conM (.int 2))) (nilA)))))) (nxM)) (seqM (asgM (callM 2 (F ._law_value) (consA (binM ixF (varM 0) (conM (.int 1))) (consA (varM 1) (nilA)))) (nameG 2)) (seqM (asgM (ifM (tstM (binM eqF (binM ixF (varM 0) (conM (.int 0))) (conM (.str "neg")))) (conM (.int 0)) (callM 2 (F ._law_value) (consA (binM ixF (varM 0) (conM (.int 2))) (consA (varM 1) (nilA))))) (nameG 3)) (seqM (ifS (orC (tstM (binM (isF false) (varM 2) (conM .non))) (tstM (binM (isF false) (varM 3) (conM .non)))) (rtM (conM .non)) (nxM)) (seqM (ifS (orC (tstM (binM eqF (binM ixF (varM 0) (conM (.int 0))) (conM (.str "neg")))) (tstM (binM eqF (binM ixF (varM 0) (conM (.int 0))) (conM (.str "sub"))))) (rtM (ifM (tstM (binM eqF (binM ixF (varM 0) (conM (.int 0))) (conM (.str "sub")))) (binM subF (varM 2) (varM 3)) (binM subF (conM (.int 0)) (varM 2)))) (nxM)) (rtM (ifM (tstM (binM eqF (binM ixF (varM 0) (conM (.int 0))) (conM (.str "add")))) (binM addF (varM 2) (varM 3)) (binM mulF (varM 2) (varM 3)))))))))
noncomputable def b__law_leaf_level (F : Fn → List D → Sto → Option (D × Sto)) : SvM :=
  seqM (ifS (tstM (binM eqF (binM ixF (varM 0) (conM (.int 0))) (conM (.str "null")))) (rtM (binM mulF (conM (.int 2)) (appM intF (consA (binM (isF false) (callM 2 (F ._law_value) (consA (binM ixF (varM 0) (conM (.int 1))) (consA (varM 1) (nilA)))) (conM .non)) (nilA))))) (nxM)) (seqM (asgM (callM 2 (F ._law_value) (consA (binM ixF (varM 0) (conM (.int 2))) (consA (varM 1) (nilA)))) (nameG 2)) (seqM (asgM (callM 2 (F ._law_value) (consA (binM ixF (varM 0) (conM (.int 3))) (consA (varM 1) (nilA)))) (nameG 3)) (seqM (ifS (orC (tstM (binM (isF false) (varM 2) (conM .non))) (tstM (binM (isF false) (varM 3) (conM .non)))) (rtM (conM (.int 1))) (nxM)) (seqM (asgM (dispM [("=", binM eqF (varM 2) (varM 3)), ("<>", binM neF (varM 2) (varM 3)), ("<", binM ltF (varM 2) (varM 3)), (">", binM gtF (varM 2) (varM 3)), ("<=", notV (binM gtF (varM 2) (varM 3))), (">=", notV (binM ltF (varM 2) (varM 3)))]) (nameG 4)) (rtM (binM mulF (conM (.int 2)) (appM intF (consA (binM getL (varM 4) (binM ixF (varM 0) (conM (.int 1)))) (nilA)))))))))
noncomputable def b__law_marked (F : Fn → List D → Sto → Option (D × Sto)) : SvM :=
  seqM (ifS (tstM (binM eqF (binM ixF (varM 0) (conM (.int 0))) (conM (.str "col")))) (rtM (ifM (tstM (binM eqF (binM ixF (varM 0) (conM (.int 1))) (conM (.int 3)))) (tupM (consA (conM (.str "agg")) (consA (binM ixF (varM 0) (conM (.int 2))) (nilA)))) (tupM (consA (conM (.str "mark")) (consA (binM addF (binM mulF (conM (.int 7)) (binM ixF (varM 0) (conM (.int 1)))) (binM mulF (conM (.int 3)) (binM ixF (varM 0) (conM (.int 2))))) (nilA)))))) (nxM)) (seqM (ifS (tstM (binM eqF (binM ixF (varM 0) (conM (.int 0))) (conM (.str "cmp")))) (rtM (tupM (consA (conM (.str "cmp")) (consA (binM ixF (varM 0) (conM (.int 1))) (consA (callM 1 (F ._law_marked) (consA (binM ixF (varM 0) (conM (.int 2))) (nilA))) (consA (callM 1 (F ._law_marked) (consA (binM ixF (varM 0) (conM (.int 3))) (nilA))) (nilA))))))) (nxM)) (seqM (ifS (orC (tstM (binM eqF (binM ixF (varM 0) (conM (.int 0))) (conM (.str "num")))) (tstM (binM eqF (binM ixF (varM 0) (conM (.int 0))) (conM (.str "text"))))) (rtM (varM 0)) (nxM)) (seqM (ifS (tstM (binM eqF (appM lenF (consA (varM 0) (nilA))) (conM (.int 2)))) (rtM (tupM (consA (binM ixF (varM 0) (conM (.int 0))) (consA (callM 1 (F ._law_marked) (consA (binM ixF (varM 0) (conM (.int 1))) (nilA))) (nilA))))) (nxM)) (rtM (tupM (consA (binM ixF (varM 0) (conM (.int 0))) (consA (callM 1 (F ._law_marked) (consA (binM ixF (varM 0) (conM (.int 1))) (nilA))) (consA (callM 1 (F ._law_marked) (consA (binM ixF (varM 0) (conM (.int 2))) (nilA))) (nilA)))))))))
noncomputable def b__law_same (F : Fn → List D → Sto → Option (D × Sto)) : SvM :=
  seqM (ifS (tstM (binM (isF false) (varM 1) (conM .non))) (rtM (binM (isF false) (varM 0) (conM .non))) (nxM)) (seqM (ifS (truC (isiM "str" (varM 1))) (rtM (andV (isiM "str" (varM 0)) (binM eqF (varM 0) (varM 1)))) (nxM)) (rtM (andV (isiM "int" (varM 0)) (andV (notV (isiM "bool" (varM 0))) (binM eqF (varM 0) (varM 1))))))
noncomputable def b__law_truth_same (F : Fn → List D → Sto → Option (D × Sto)) : SvM :=
  seqM (ifS (tstM (binM (isF false) (varM 1) (conM .non))) (rtM (binM (isF false) (varM 0) (conM .non))) (nxM)) (seqM (ifS (truC (varM 1)) (rtM (binM (isT false) (varM 0) (conM (.bl true)))) (nxM)) (rtM (binM (isT false) (varM 0) (conM (.bl false)))))
noncomputable def b__law_values (F : Fn → List D → Sto → Option (D × Sto)) : SvM :=
  seqM (asgM (newD) (nameG 2)) (seqM (forM (rng1I (consA (conM (.int 4)) (nilA))) (nameG 3) (forM (rng1I (consA (conM (.int 3)) (nilA))) (nameG 4) (seqM (asgM (ifM (tstM (binM eqF (varM 4) (conM (.int 2)))) (callM 1 (F ._law_word) (consA (varM 0) (nilA))) (callM 1 (F ._law_number) (consA (varM 0) (nilA)))) (nameG 5)) (seqM (ifS (orC (tstM (binM eqF (varM 3) (varM 1))) (tstM (binM eqF (callM 2 (F ._law_pick) (consA (varM 0) (consA (conM (.int 3)) (nilA)))) (conM (.int 0))))) (asgM (conM .non) (nameG 5)) (ifS (andC (tstM (binM ltF (varM 4) (conM (.int 2)))) (tstM (binM eqF (callM 2 (F ._law_pick) (consA (varM 0) (consA (conM (.int 3)) (nilA)))) (conM (.int 0))))) (asgM (binM subF (conM (.int 0)) (varM 5)) (nameG 5)) (nxM))) (asgM (varM 5) (subD (varM 2) (tupM (consA (varM 3) (consA (varM 4) (nilA)))))))))) (rtM (varM 2)))
noncomputable def b__law_at_values (F : Fn → List D → Sto → Option (D × Sto)) : SvM :=
  seqM (asgM (compM (seqI (varM 2)) (.one 11) (yesC) (callM 2 (F ._law_leaf_level) (consA (binM ixF (varM 11) (conM (.int 0))) (consA (varM 3) (nilA)))) [11]) (nameG 5)) (seqM (asgM (callM 2 (F ._law_level) (consA (varM 1) (consA (varM 5) (nilA)))) (nameG 6)) (seqM (ifS (andC (tstM (binM (isF true) (varM 4) (conM .non))) (tstM (binM (isT true) (binM ixF (varM 4) (binM ixF (lstM (consA (conM (.int 1)) (consA (conM (.int 2)) (consA (conM (.int 0)) (nilA))))) (varM 6))) (conM (.bl true))))) (rtM (conM (.bl false))) (nxM)) (seqM (asgM (newK) (nameG 7)) (seqM (lockS 3 (forM (keysI (varM 3)) (nameG 8) (ifS (tstM (binM ltF (binM ixF (varM 8) (conM (.int 0))) (conM (.int 3)))) (putS (varM 7) (binM addF (binM mulF (conM (.int 7)) (binM ixF (varM 8) (conM (.int 0)))) (binM mulF (conM (.int 3)) (binM ixF (varM 8) (conM (.int 1))))) (binM getF (varM 3) (varM 8))) (nxM)))) (seqM (lockKS 7 (asgM (compM (keysK (varM 7)) (.one 14) (yesC) (tupM (consA (varM 14) (consA (binM getL (varM 7) (varM 14)) (nilA)))) [14]) (nameG 9))) (seqM (asgM (tupM (consA (binM getF (varM 3) (tupM (consA (conM (.int 3)) (consA (conM (.int 0)) (nilA))))) (consA (binM getF (varM 3) (tupM (consA (conM (.int 3)) (consA (conM (.int 1)) (nilA))))) (consA (binM getF (varM 3) (tupM (consA (conM (.int 3)) (consA (conM (.int 2)) (nilA))))) (nilA))))) (nameG 10)) (seqM (ifS (notC (truC (callM 2 (F ._law_truth_same) (consA (callKM 0 3 3 [0, 1, 2] (F .mark_truth) (nilA) (consA (callM 1 (F ._law_marked) (consA (varM 0) (nilA))) (consA (varM 7) (consA (varM 10) (nilA))))) (consA (binM ixF (lstM (consA (conM (.bl false)) (consA (conM .non) (consA (conM (.bl true)) (nilA))))) (varM 6)) (nilA)))))) (rtM (conM (.bl false))) (nxM)) (seqM (forM (seqI (varM 2)) (nameG 11) (seqM (asgM (ifM (tstM (binM eqF (binM ixF (binM ixF (varM 11) (conM (.int 0))) (conM (.int 0))) (conM (.str "null")))) (appM listF (consA (slM (binM ixF (varM 11) (conM (.int 0))) (partM (conM (.int 1))) (noM)) (nilA))) (appM listF (consA (slM (binM ixF (varM 11) (conM (.int 0))) (partM (conM (.int 2))) (noM)) (nilA)))) (nameG 12)) (forM (seqI (varM 12)) (nameG 13) (ifS (notC (truC (callM 2 (F ._law_same) (consA (callKM 0 3 3 [0, 1, 2] (F .mark_value) (nilA) (consA (callM 1 (F ._law_marked) (consA (varM 13) (nilA))) (consA (varM 7) (consA (varM 10) (nilA))))) (consA (callM 2 (F ._law_value) (consA (varM 13) (consA (varM 3) (nilA)))) (nilA)))))) (rtM (conM (.bl false))) (nxM))))) (rtM (binM eqF (lockKM 7 (compM (keysK (varM 7)) (.one 14) (yesC) (tupM (consA (varM 14) (consA (binM getL (varM 7) (varM 14)) (nilA)))) [14])) (varM 9)))))))))))
noncomputable def b__law_unit (F : Fn → List D → Sto → Option (D × Sto)) : SvM :=
  seqM (asgM (callKM 0 2 2 [0, 1] (F .possible) (nilA) (consA (varM 0) (consA (varM 3) (nilA)))) (nameG 5)) (seqM (ifS (orC (notC (truC (isiM "tuple" (varM 5)))) (tstM (binM neF (appM lenF (consA (varM 5) (nilA))) (conM (.int 3))))) (rtM (conM (.bl false))) (nxM)) (seqM (asgM (callM 3 (F ._law_told) (consA (varM 2) (consA (varM 1) (consA (varM 3) (nilA))))) (nameG 6)) (seqM (ifS (tstM (binM gtF (appM lenF (consA (compM (rng1I (consA (conM (.int 3)) (nilA))) (.one 7) (notC (truC (callM 2 (F ._law_truth_same) (consA (binM ixF (varM 5) (varM 7)) (consA (binM ixF (varM 6) (varM 7)) (nilA)))))) (varM 7) [7]) (nilA))) (conM (.int 0)))) (rtM (conM (.bl false))) (nxM)) (seqM (ifS (notC (truC (callM 2 (F ._law_truth_same) (consA (callKM 0 2 2 [0, 1] (F .never_on_nulls) (nilA) (consA (varM 0) (consA (varM 3) (nilA)))) (consA (notV (binM ixF (varM 6) (conM (.int 0)))) (nilA)))))) (rtM (conM (.bl false))) (nxM)) (rtM (callM 5 (F ._law_at_values) (consA (varM 0) (consA (varM 1) (consA (varM 2) (consA (varM 4) (consA (varM 5) (nilA))))))))))))
noncomputable def b_law (F : Fn → List D → Sto → Option (D × Sto)) : SvM :=
  seqM (asgM (callM 1 (F ._law_deck) (consA (varM 0) (nilA))) (nameG 1)) (seqM (forM (rng1I (consA (conM (.int 3)) (nilA))) (nameG 2) (seqM (asgM (compM (rng1I (consA (binM addF (conM (.int 1)) (callM 2 (F ._law_pick) (consA (varM 1) (consA (conM (.int 5)) (nilA))))) (nilA))) (.one 8) (yesC) (callM 1 (F ._law_leaf) (consA (varM 1) (nilA))) [8]) (nameG 3)) (seqM (asgM (callM 2 (F ._law_joined) (consA (varM 1) (consA (varM 3) (nilA)))) (nameG 4)) (seqM (ifS (notC (truC (callM 5 (F ._law_at_values) (consA (binM ixF (varM 4) (conM (.int 0))) (consA (binM ixF (varM 4) (conM (.int 1))) (consA (varM 3) (consA (callM 2 (F ._law_values) (consA (varM 1) (consA (conM (.int 9)) (nilA)))) (consA (conM .non) (nilA))))))))) (rtM (conM (.bl false))) (nxM)) (seqM (asgM (callM 2 (F ._law_pick) (consA (varM 1) (consA (conM (.int 4)) (nilA)))) (nameG 5)) (forM (rng1I (consA (conM (.int 5)) (nilA))) (nameG 6) (seqM (asgM (callM 2 (F ._law_values) (consA (ifM (tstM (binM eqF (varM 6) (varM 5))) (varM 1) (lstM (nilA))) (consA (varM 6) (nilA)))) (nameG 7)) (ifS (notC (truC (callM 5 (F ._law_unit) (consA (binM ixF (varM 4) (conM (.int 0))) (consA (binM ixF (varM 4) (conM (.int 1))) (consA (varM 3) (consA (varM 6) (consA (varM 7) (nilA))))))))) (rtM (conM (.bl false))) (nxM))))))))) (rtM (conM (.bl true))))
noncomputable def b_mark_value__step (F : Fn → List D → Sto → Option (D × Sto)) : SvM :=
  rtM (callM 4 (F .worth_of_one) (consA (varM 0) (consA (varM 1) (consA (varM 2) (consA (varM 3) (nilA))))))
noncomputable def b_mark_truth__step (F : Fn → List D → Sto → Option (D × Sto)) : SvM :=
  seqM (ifS (tstM (binM eqF (binM ixF (varM 0) (conM (.int 0))) (conM (.str "cmp")))) (rtM (callM 3 (F .compared) (consA (binM ixF (varM 0) (conM (.int 1))) (consA (binM ixF (varM 1) (conM (.int 0))) (consA (binM ixF (varM 1) (conM (.int 1))) (nilA)))))) (nxM)) (seqM (ifS (tstM (binM eqF (binM ixF (varM 0) (conM (.int 0))) (conM (.str "null")))) (rtM (binM (isF false) (binM ixF (varM 1) (conM (.int 0))) (conM .non))) (nxM)) (seqM (ifS (tstM (binM (inF false) (binM ixF (varM 0) (conM (.int 0))) (conM c_LINKS))) (rtM (callM 2 (F .truth_joined) (consA (binM ixF (varM 0) (conM (.int 0))) (consA (varM 1) (nilA))))) (nxM)) (rtM (callM 4 (F .worth_of_one) (consA (varM 0) (consA (varM 1) (consA (varM 2) (consA (varM 3) (nilA)))))))))
noncomputable def step (F : Fn → List D → Sto → Option (D × Sto)) : Fn → List D → Sto → Option (D × Sto)
  | .parts_of => bodyM 3 (b_parts_of F)
  | .reduced => bodyM 7 (b_reduced F)
  | .columns_in => bodyM 4 (b_columns_in F)
  | .leaves_of => bodyM 5 (b_leaves_of F)
  | .columns_at => bodyM 2 (b_columns_at F)
  | .is_column => bodyM 1 (b_is_column F)
  | .negated => bodyM 1 (b_negated F)
  | .perhaps => bodyM 1 (b_perhaps F)
  | .both => bodyM 2 (b_both F)
  | .either => bodyM 2 (b_either F)
  | .compared => bodyM 3 (b_compared F)
  | .possible => bodyM 4 (b_possible F)
  | .never_on_nulls => bodyM 2 (b_never_on_nulls F)
  | .truths_of => bodyM 10 (b_truths_of F)
  | .truths_alone => bodyM 2 (b_truths_alone F)
  | .has_column_of => bodyM 2 (b_has_column_of F)
  | .reckoned => bodyM 4 (b_reckoned F)
  | .truth_joined => bodyM 2 (b_truth_joined F)
  | .mark_value => bodyM 4 (b_mark_value F)
  | .mark_truth => bodyM 4 (b_mark_truth F)
  | .worth_of_one => bodyM 4 (b_worth_of_one F)
  | ._law_deck => bodyM 6 (b__law_deck F)
  | ._law_pick => bodyM 2 (b__law_pick F)
  | ._law_number => bodyM 1 (b__law_number F)
  | ._law_word => bodyM 1 (b__law_word F)
  | ._law_part => bodyM 5 (b__law_part F)
  | ._law_expr => bodyM 6 (b__law_expr F)
  | ._law_leaf => bodyM 5 (b__law_leaf F)
  | ._law_joined => bodyM 9 (b__law_joined F)
  | ._law_level => bodyM 4 (b__law_level F)
  | ._law_told => bodyM 13 (b__law_told F)
  | ._law_value => bodyM 4 (b__law_value F)
  | ._law_leaf_level => bodyM 5 (b__law_leaf_level F)
  | ._law_marked => bodyM 1 (b__law_marked F)
  | ._law_same => bodyM 2 (b__law_same F)
  | ._law_truth_same => bodyM 2 (b__law_truth_same F)
  | ._law_values => bodyM 6 (b__law_values F)
  | ._law_at_values => bodyM 15 (b__law_at_values F)
  | ._law_unit => bodyM 8 (b__law_unit F)
  | .law => bodyM 9 (b_law F)
  | .mark_value__step => bodyM 4 (b_mark_value__step F)
  | .mark_truth__step => bodyM 4 (b_mark_truth__step F)
noncomputable def den : Nat → Fn → List D → Sto → Option (D × Sto)
  | 0 => fun _ _ _ => none
  | k + 1 => step (den k)
end Gn
namespace Gn
open PySem L2 Ml
/-- what law computes at a script -/
def Good : Prop := ∀ ns : List Int, ns.length ≤ 63 → ∃ S, den 100 .law [.rl (ns.map D.int)] [] = some (.bl true, S)
end Gn
set_option maxHeartbeats 4000000 -- wide
namespace Gn
open L2 PyProof.Rows PySem PySem.Spec Ml
def top (i : Nat) : Stmt := PySem.Challenge.pw_leastplans_k35_possible_truths.main.body.getD i (.Pass ⟨0, 0, 0, 0⟩)
abbrev s3 : Stmt := top 3
abbrev s4 : Stmt := top 4
abbrev s6 : Stmt := top 6
abbrev s7 : Stmt := top 7
abbrev s8 : Stmt := top 8
abbrev s9 : Stmt := top 9
abbrev s11 : Stmt := top 11
abbrev s12 : Stmt := top 12
abbrev s13 : Stmt := top 13
abbrev s14 : Stmt := top 14
abbrev s15 : Stmt := top 15
abbrev s18 : Stmt := top 18
abbrev s19 : Stmt := top 19
abbrev s20 : Stmt := top 20
abbrev s21 : Stmt := top 21
abbrev s22 : Stmt := top 22
abbrev s24 : Stmt := top 24
abbrev s25 : Stmt := top 25
abbrev s28 : Stmt := top 28
abbrev s29 : Stmt := top 29
abbrev s30 : Stmt := top 30
abbrev s32 : Stmt := top 32
abbrev s33 : Stmt := top 33
abbrev s34 : Stmt := top 34
abbrev s35 : Stmt := top 35
abbrev s36 : Stmt := top 36
abbrev s37 : Stmt := top 37
abbrev s38 : Stmt := top 38
abbrev s39 : Stmt := top 39
abbrev s40 : Stmt := top 40
abbrev s41 : Stmt := top 41
abbrev s42 : Stmt := top 42
abbrev s43 : Stmt := top 43
abbrev s44 : Stmt := top 44
abbrev s45 : Stmt := top 45
abbrev s46 : Stmt := top 46
abbrev s47 : Stmt := top 47
abbrev s48 : Stmt := top 48
abbrev s49 : Stmt := top 49
abbrev s50 : Stmt := top 50
def nm : Fn → Str
  | .parts_of => "parts_of"
  | .reduced => "reduced"
  | .columns_in => "columns_in"
  | .leaves_of => "leaves_of"
  | .columns_at => "columns_at"
  | .is_column => "is_column"
  | .negated => "negated"
  | .perhaps => "perhaps"
  | .both => "both"
  | .either => "either"
  | .compared => "compared"
  | .possible => "possible"
  | .never_on_nulls => "never_on_nulls"
  | .truths_of => "truths_of"
  | .truths_alone => "truths_alone"
  | .has_column_of => "has_column_of"
  | .reckoned => "reckoned"
  | .truth_joined => "truth_joined"
  | .mark_value => "mark_value"
  | .mark_truth => "mark_truth"
  | .worth_of_one => "worth_of_one"
  | ._law_deck => "_law_deck"
  | ._law_pick => "_law_pick"
  | ._law_number => "_law_number"
  | ._law_word => "_law_word"
  | ._law_part => "_law_part"
  | ._law_expr => "_law_expr"
  | ._law_leaf => "_law_leaf"
  | ._law_joined => "_law_joined"
  | ._law_level => "_law_level"
  | ._law_told => "_law_told"
  | ._law_value => "_law_value"
  | ._law_leaf_level => "_law_leaf_level"
  | ._law_marked => "_law_marked"
  | ._law_same => "_law_same"
  | ._law_truth_same => "_law_truth_same"
  | ._law_values => "_law_values"
  | ._law_at_values => "_law_at_values"
  | ._law_unit => "_law_unit"
  | .law => "law"
  | .mark_value__step => "mark_value__step"
  | .mark_truth__step => "mark_truth__step"
def stm : Fn → Stmt
  | .parts_of => s3
  | .reduced => s4
  | .columns_in => s6
  | .leaves_of => s7
  | .columns_at => s8
  | .is_column => s9
  | .negated => s11
  | .perhaps => s12
  | .both => s13
  | .either => s14
  | .compared => s15
  | .possible => s18
  | .never_on_nulls => s19
  | .truths_of => s20
  | .truths_alone => s21
  | .has_column_of => s22
  | .reckoned => s24
  | .truth_joined => s25
  | .mark_value => s28
  | .mark_truth => s29
  | .worth_of_one => s30
  | ._law_deck => s32
  | ._law_pick => s33
  | ._law_number => s34
  | ._law_word => s35
  | ._law_part => s36
  | ._law_expr => s37
  | ._law_leaf => s38
  | ._law_joined => s39
  | ._law_level => s40
  | ._law_told => s41
  | ._law_value => s42
  | ._law_leaf_level => s43
  | ._law_marked => s44
  | ._law_same => s45
  | ._law_truth_same => s46
  | ._law_values => s47
  | ._law_at_values => s48
  | ._law_unit => s49
  | .law => s50
  | .mark_value__step => nst_mark_value__step
  | .mark_truth__step => nst_mark_truth__step
def par : Fn → List Str
  | .parts_of => ["thing"]
  | .reduced => ["thing", "step"]
  | .columns_in => ["thing"]
  | .leaves_of => ["thing"]
  | .columns_at => ["leaf"]
  | .is_column => ["piece"]
  | .negated => ["t"]
  | .perhaps => ["t"]
  | .both => ["s", "t"]
  | .either => ["s", "t"]
  | .compared => ["op", "one", "other"]
  | .possible => ["cond", "unit"]
  | .never_on_nulls => ["cond", "unit"]
  | .truths_of => ["cond", "unit"]
  | .truths_alone => ["tag", "is_touched"]
  | .has_column_of => ["cond", "unit"]
  | .reckoned => ["tag", "sides"]
  | .truth_joined => ["tag", "sides"]
  | .mark_value => ["expr", "worth", "folds"]
  | .mark_truth => ["cond", "worth", "folds"]
  | .worth_of_one => ["expr", "sides", "worth", "folds"]
  | ._law_deck => ["_law_script"]
  | ._law_pick => ["_law_deck_here", "_law_many"]
  | ._law_number => ["_law_deck_here"]
  | ._law_word => ["_law_deck_here"]
  | ._law_part => ["_law_deck_here", "_law_text", "_law_cols"]
  | ._law_expr => ["_law_deck_here", "_law_text", "_law_cols"]
  | ._law_leaf => ["_law_deck_here"]
  | ._law_joined => ["_law_deck_here", "_law_leaves"]
  | ._law_level => ["_law_bone", "_law_levels"]
  | ._law_told => ["_law_leaves", "_law_bone", "_law_which"]
  | ._law_value => ["_law_term", "_law_cells"]
  | ._law_leaf_level => ["_law_leaf_here", "_law_cells"]
  | ._law_marked => ["_law_thing"]
  | ._law_same => ["_law_actual", "_law_due"]
  | ._law_truth_same => ["_law_actual", "_law_due"]
  | ._law_values => ["_law_deck_here", "_law_which"]
  | ._law_at_values => ["_law_test", "_law_bone", "_law_leaves", "_law_cells", "_law_told_here"]
  | ._law_unit => ["_law_test", "_law_bone", "_law_leaves", "_law_which", "_law_cells"]
  | .law => ["_law_script"]
  | .mark_value__step => []
  | .mark_truth__step => []
structure Txt (K : PySem.W.Frag) (w : World) (g : Str → Option Value) where
  ad : Fn → Addr
  fd : Fn → FuncData
  fn : ∀ f, isTop f = true → Fun K (nm f) (nm f) (stm f) (ad f) (fd f)
  mg : ∀ f, isTop f = true → g (nm f) = some (.ref (ad f))
  ns : ∀ f, isTop f = true → PySem.W.nsIn K mainGlobals (nm f) = some (some (.ref (ad f)))
  bd : ∀ f, isTop f = true → Binds K (fd f) (par f) []
  lawB : ∀ (s : Shared) (u : Value), BindsTo s (fd .law) ⟨[u], []⟩ [("_law_script", u)]
  z_abs : g "abs" = none
  z_any : g "any" = none
  z_bool : g "bool" = none
  z_int : g "int" = none
  z_isinstance : g "isinstance" = none
  z_len : g "len" = none
  z_list : g "list" = none
  z_max : g "max" = none
  z_min : g "min" = none
  z_range : g "range" = none
  z_str : g "str" = none
  z_tuple : g "tuple" = none
  c_mark_value : Addr
  P_mark_value : Addr
  fc_mark_value : FunC K "mark_value" "mark_value" s28 (ad .mark_value) (fd .mark_value) c_mark_value
  c_mark_truth : Addr
  P_mark_truth : Addr
  fc_mark_truth : FunC K "mark_truth" "mark_truth" s29 (ad .mark_truth) (fd .mark_truth) c_mark_truth
  c_has_column_of : Addr
  P_has_column_of : Addr
  fc_has_column_of : FunC K "has_column_of" "has_column_of" s22 (ad .has_column_of) (fd .has_column_of) c_has_column_of
  u_mark_value : ∀ p ∈ ([(P_mark_value, fun _ _ => ("mark_value.<locals>.step" : Str)), (P_mark_truth, fun _ _ => ("mark_truth.<locals>.step" : Str)), (P_has_column_of, fun _ _ => ("has_column_of.<locals>.<genexpr>" : Str))] : List NdefX.NTab), p.1 = P_mark_value → p.2 = fun _ _ => ("mark_value.<locals>.step" : Str)
  u_mark_truth : ∀ p ∈ ([(P_mark_value, fun _ _ => ("mark_value.<locals>.step" : Str)), (P_mark_truth, fun _ _ => ("mark_truth.<locals>.step" : Str)), (P_has_column_of, fun _ _ => ("has_column_of.<locals>.<genexpr>" : Str))] : List NdefX.NTab), p.1 = P_mark_truth → p.2 = fun _ _ => ("mark_truth.<locals>.step" : Str)
  u_has_column_of : ∀ p ∈ ([(P_mark_value, fun _ _ => ("mark_value.<locals>.step" : Str)), (P_mark_truth, fun _ _ => ("mark_truth.<locals>.step" : Str)), (P_has_column_of, fun _ _ => ("has_column_of.<locals>.<genexpr>" : Str))] : List NdefX.NTab), p.1 = P_has_column_of → p.2 = fun _ _ => ("has_column_of.<locals>.<genexpr>" : Str)
  kb_mark_truth_0_cond_worth_folds : KBind (fd .mark_truth) (par .mark_truth) ["cond", "worth", "folds"] 0 [0, 1, 2]
  kb_mark_value_0_expr_worth_folds : KBind (fd .mark_value) (par .mark_value) ["expr", "worth", "folds"] 0 [0, 1, 2]
  kb_never_on_nulls_0_cond_unit : KBind (fd .never_on_nulls) (par .never_on_nulls) ["cond", "unit"] 0 [0, 1]
  kb_possible_0_cond_unit : KBind (fd .possible) (par .possible) ["cond", "unit"] 0 [0, 1]
  c_LINKSa : Addr
  c_LINKSg : g "LINKS" = some (.ref c_LINKSa)
  c_LINKSr : ∀ P b t H m, Rp ⟨K, P, w, b, t⟩ H m c_LINKS (.ref c_LINKSa)
  c_NO_PLACESa : Addr
  c_NO_PLACESg : g "NO_PLACES" = some (.ref c_NO_PLACESa)
  c_NO_PLACESr : ∀ P b t H m, Rp ⟨K, P, w, b, t⟩ H m c_NO_PLACES (.ref c_NO_PLACESa)
  c_PART_PLACESa : Addr
  c_PART_PLACESg : g "PART_PLACES" = some (.ref c_PART_PLACESa)
  c_PART_PLACESd : CDict K w c_PART_PLACESa c_PART_PLACES
  c_TRUTHSa : Addr
  c_TRUTHSg : g "TRUTHS" = some (.ref c_TRUTHSa)
  c_TRUTHSr : ∀ P b t H m, Rp ⟨K, P, w, b, t⟩ H m c_TRUTHS (.ref c_TRUTHSa)
variable {K : PySem.W.Frag} {w : World} {g : Str → Option Value}
abbrev Txt.tb (T : Txt K w g) : List NdefX.NTab := [(T.P_mark_value, fun _ _ => ("mark_value.<locals>.step" : Str)), (T.P_mark_truth, fun _ _ => ("mark_truth.<locals>.step" : Str)), (T.P_has_column_of, fun _ _ => ("has_column_of.<locals>.<genexpr>" : Str))]
abbrev Txt.cs (T : Txt K w g) : List (Addr × Addr) := [(T.c_mark_value, T.P_mark_value), (T.c_mark_truth, T.P_mark_truth), (T.c_has_column_of, T.P_has_column_of)]
structure All (P : Program) (T : Txt K w g) (base : Heap) (k : Nat) (F : Fn → List D → Sto → Option (D × Sto)) : Prop where
  f : ∀ f, isTop f = true → FnOk P w K g base CX0 k (T.ad f) (T.fd f) (par f) (spM ⟨K, P, w, base, T.tb⟩ (par f).length (F f))
  n : ∀ id nd, tabN id = some nd → NokM P w K g base T.tb k nd (gN F id)
theorem if_cand {z y : Str} {α : Type} {a G : α} {b : Option α} {C : α → Prop} (h : z = y → C a) (h2 : b = some G → C G) : (if z = y then some a else b) = some G → C G := fun e => by
  split at e
  · rename_i q; cases e; exact h q
  · exact h2 e
theorem if_cand0 {α : Type} {G : α} {C : α → Prop} : (none : Option α) = some G → C G := fun e => nomatch e
end Gn
set_option maxHeartbeats 4000000 -- wide
namespace Gn
open L2 PyProof.Rows PySem PySem.Spec Ml
section
variable {P : Program} {w : World} {K : PySem.W.Frag} {g : Str → Option Value} {base : Heap}
theorem sc_parts_of : FnScope ["thing", "first", "behind"] (par .parts_of) (defScope s3) := ⟨rfl, rfl, rfl, by decide +kernel, rfl, by decide +kernel, by decide +kernel⟩
theorem nd0_parts_of : (["thing", "first", "behind"] : List Str).Nodup := by decide +kernel
theorem ok_parts_of {k : Nat} {F : Fn → List D → Sto → Option (D × Sto)} (T : Txt K w g) (AH : ∀ base, (∀ p ∈ T.cs, LamX.TabB base g p.1 p.2) → All P T base k F) (hTB : ∀ p ∈ T.cs, LamX.TabB base g p.1 p.2) :
    FnOk P w K g base CX0 (k + 1) (T.ad .parts_of) (T.fd .parts_of) (par .parts_of) (spM ⟨K, P, w, base, T.tb⟩ (par .parts_of).length (bodyM 3 (b_parts_of F))) := by
  refine ok_def (N := ["thing", "first", "behind"]) (T.fn .parts_of rfl) sc_parts_of (by decide) fun cdv A outer s0 H E hr => ?_
  have nd := nd0_parts_of
  have IH := AH base hTB
  exact (mss_cons (ms_asg (me_cget T.c_PART_PLACESd rfl T.c_PART_PLACESg (me_ix (me_var 0) me_int) (me_con (pe_glob (v := .ref T.c_NO_PLACESa) rfl T.c_NO_PLACESg rfl) (fun H m => T.c_NO_PLACESr P base T.tb H m))) (mg_tup rfl (mgs_cons (mg_name 1 nd rfl (.inl rfl)) (mgs_cons (mg_name 2 nd rfl (.inl rfl)) mgs_nil))))
    (mss_one (ms_ret (me_slice (me_var 0) (mo_some (me_var 1)) (mo_some (me_var 2))))))
theorem sc_reduced : FnScope ["thing", "step", "nodes", "firsts", "at", "made", "many"] (par .reduced) (defScope s4) := ⟨rfl, rfl, rfl, by decide +kernel, rfl, by decide +kernel, by decide +kernel⟩
theorem nd0_reduced : (["thing", "step", "nodes", "firsts", "at", "made", "many"] : List Str).Nodup := by decide +kernel
theorem ok_reduced {k : Nat} {F : Fn → List D → Sto → Option (D × Sto)} (T : Txt K w g) (AH : ∀ base, (∀ p ∈ T.cs, LamX.TabB base g p.1 p.2) → All P T base k F) (hTB : ∀ p ∈ T.cs, LamX.TabB base g p.1 p.2) :
    FnOk P w K g base CX0 (k + 1) (T.ad .reduced) (T.fd .reduced) (par .reduced) (spM ⟨K, P, w, base, T.tb⟩ (par .reduced).length (bodyM 7 (b_reduced F))) := by
  refine ok_def (N := ["thing", "step", "nodes", "firsts", "at", "made", "many"]) (T.fn .reduced rfl) sc_reduced (by decide) fun cdv A outer s0 H E hr => ?_
  have nd := nd0_reduced
  have IH := AH base hTB
  exact (mss_cons (ms_set 2 nd rfl (.inl rfl) (me_lst (ma_cons (me_var 0) ma_nil)))
    (mss_cons (ms_set 3 nd rfl (.inl rfl) (me_lst ma_nil))
    (mss_cons (ms_set 4 nd rfl (.inl rfl) me_int)
    (mss_cons (ms_while PassesOwn.never (mt_cmp or_lt ltF_ok (me_var 4) (me_callB call_len lenF_ok rfl T.z_len (by decide +kernel) (ma_cons (me_var 2) ma_nil)) (nomark _)) (mss_cons (ms_expr (me_bm PySem.F.plainAttrs_list PySem.F.slot_list_append PySem.F.type_list_append mt_append appendF_ok (me_var 3) (ma_cons (me_callB call_len lenF_ok rfl T.z_len (by decide +kernel) (ma_cons (me_var 2) ma_nil)) ma_nil)))
    (mss_cons (ms_expr (me_bm PySem.F.plainAttrs_list PySem.F.slot_list_extend PySem.F.type_list_extend mt_extendA extendF_ok (me_var 2) (ma_cons (me_call (IH.f .parts_of rfl) hr rfl (T.mg .parts_of rfl) (T.fn .parts_of rfl).kp (T.bd .parts_of rfl) (ma_cons (me_ix (me_var 2) (me_var 4)) ma_nil)) ma_nil)))
    (mss_one (ms_aug 4 nd rfl (.inl rfl) me_int ip_add iaddF_ok)))))
    (mss_cons (ms_set 5 nd rfl (.inl rfl) (me_rep (me_lst (ma_cons me_non ma_nil)) (me_callB call_len lenF_ok rfl T.z_len (by decide +kernel) (ma_cons (me_var 2) ma_nil))))
    (mss_cons (ms_for PassesOwn.never rfl (mi_rngD rfl T.z_range (ma_cons (me_sub (me_callB call_len lenF_ok rfl T.z_len (by decide +kernel) (ma_cons (me_var 2) ma_nil)) me_int) (ma_cons (me_neg me_int) (ma_cons (me_neg me_int) ma_nil)))) (mg_name 4 nd rfl (.inl rfl)) (mss_cons (ms_set 6 nd rfl (.inl rfl) (me_callB call_len lenF_ok rfl T.z_len (by decide +kernel) (ma_cons (me_call (IH.f .parts_of rfl) hr rfl (T.mg .parts_of rfl) (T.fn .parts_of rfl).kp (T.bd .parts_of rfl) (ma_cons (me_ix (me_var 2) (me_var 4)) ma_nil)) ma_nil)))
    (mss_one (ms_asg (me_callN (i := 1) IH.n hr rfl (by first | exact Or.inl rfl | exact Or.inr (Or.inl rfl) | exact Or.inr (Or.inr rfl)) (ma_cons (me_ix (me_var 2) (me_var 4)) (ma_cons (me_slice (me_var 5) (mo_some (me_ix (me_var 3) (me_var 4))) (mo_some (me_add (me_ix (me_var 3) (me_var 4)) (me_var 6)))) ma_nil))) (mg_subL (me_var 5) (me_var 4))))))
    (mss_one (ms_ret (me_ix (me_var 5) me_int)))))))))
theorem sc_columns_in : FnScope ["thing", "found", "leaf", "column"] (par .columns_in) (defScope s6) := ⟨rfl, rfl, rfl, by decide +kernel, rfl, by decide +kernel, by decide +kernel⟩
theorem nd0_columns_in : (["thing", "found", "leaf", "column"] : List Str).Nodup := by decide +kernel
theorem ok_columns_in {k : Nat} {F : Fn → List D → Sto → Option (D × Sto)} (T : Txt K w g) (AH : ∀ base, (∀ p ∈ T.cs, LamX.TabB base g p.1 p.2) → All P T base k F) (hTB : ∀ p ∈ T.cs, LamX.TabB base g p.1 p.2) :
    FnOk P w K g base CX0 (k + 1) (T.ad .columns_in) (T.fd .columns_in) (par .columns_in) (spM ⟨K, P, w, base, T.tb⟩ (par .columns_in).length (bodyM 4 (b_columns_in F))) := by
  refine ok_def (N := ["thing", "found", "leaf", "column"]) (T.fn .columns_in rfl) sc_columns_in (by decide) fun cdv A outer s0 H E hr => ?_
  have nd := nd0_columns_in
  have IH := AH base hTB
  exact (mss_cons (ms_set 1 nd rfl (.inl rfl) (me_lst ma_nil))
    (mss_cons (ms_for PassesOwn.never rfl (mi_seq (me_call (IH.f .leaves_of rfl) hr rfl (T.mg .leaves_of rfl) (T.fn .leaves_of rfl).kp (T.bd .leaves_of rfl) (ma_cons (me_var 0) ma_nil))) (mg_name 2 nd rfl (.inl rfl)) (mss_one (ms_for PassesOwn.never rfl (mi_seq (me_call (IH.f .columns_at rfl) hr rfl (T.mg .columns_at rfl) (T.fn .columns_at rfl).kp (T.bd .columns_at rfl) (ma_cons (me_var 2) ma_nil))) (mg_name 3 nd rfl (.inl rfl)) (mss_one (ms_if (mt_cmp (or_notIn (hu65 hr)) notInF_ok (me_var 3) (me_var 1) rfl) (mss_one (ms_expr (me_bm PySem.F.plainAttrs_list PySem.F.slot_list_append PySem.F.type_list_append mt_append appendF_ok (me_var 1) (ma_cons (me_var 3) ma_nil)))) mss_nil)))))
    (mss_one (ms_ret (me_callTy call_tuple_of tupleF_ok rfl T.z_tuple (by decide +kernel) (ma_cons (me_var 1) ma_nil))))))
theorem sc_leaves_of : FnScope ["thing", "found", "waiting", "one", "below"] (par .leaves_of) (defScope s7) := ⟨rfl, rfl, rfl, by decide +kernel, rfl, by decide +kernel, by decide +kernel⟩
theorem nd0_leaves_of : (["thing", "found", "waiting", "one", "below"] : List Str).Nodup := by decide +kernel
theorem ok_leaves_of {k : Nat} {F : Fn → List D → Sto → Option (D × Sto)} (T : Txt K w g) (AH : ∀ base, (∀ p ∈ T.cs, LamX.TabB base g p.1 p.2) → All P T base k F) (hTB : ∀ p ∈ T.cs, LamX.TabB base g p.1 p.2) :
    FnOk P w K g base CX0 (k + 1) (T.ad .leaves_of) (T.fd .leaves_of) (par .leaves_of) (spM ⟨K, P, w, base, T.tb⟩ (par .leaves_of).length (bodyM 5 (b_leaves_of F))) := by
  refine ok_def (N := ["thing", "found", "waiting", "one", "below"]) (T.fn .leaves_of rfl) sc_leaves_of (by decide) fun cdv A outer s0 H E hr => ?_
  have nd := nd0_leaves_of
  have IH := AH base hTB
  exact (mss_cons (ms_set 1 nd rfl (.inl rfl) (me_lst ma_nil))
    (mss_cons (ms_set 2 nd rfl (.inl rfl) (me_if (mt_cmp op_isN isF_ok (me_var 0) me_non (nomark _)) (me_lst ma_nil) (me_lst (ma_cons (me_var 0) ma_nil))))
    (mss_cons (ms_while PassesOwn.never (mt_truth (me_var 2)) (mss_cons (ms_set 3 nd rfl (.inl rfl) (me_bm0 PySem.F.plainAttrs_list PySem.F.slot_list_pop PySem.F.type_list_pop mt_pop popF_ok (me_var 2)))
    (mss_cons (ms_set 4 nd rfl (.inl rfl) (me_call (IH.f .parts_of rfl) hr rfl (T.mg .parts_of rfl) (T.fn .parts_of rfl).kp (T.bd .parts_of rfl) (ma_cons (me_var 3) ma_nil)))
    (mss_cons (ms_expr (me_bm PySem.F.plainAttrs_list PySem.F.slot_list_extend PySem.F.type_list_extend mt_extendA extendF_ok (me_var 2) (ma_cons (me_revT (me_var 4)) ma_nil)))
    (mss_one (ms_if (mt_not (mt_truth (me_var 4))) (mss_one (ms_expr (me_bm PySem.F.plainAttrs_list PySem.F.slot_list_append PySem.F.type_list_append mt_append appendF_ok (me_var 1) (ma_cons (me_var 3) ma_nil)))) mss_nil))))))
    (mss_one (ms_ret (me_var 1))))))
theorem sc_columns_at : FnScope ["leaf", "piece"] (par .columns_at) (defScope s8) := ⟨rfl, rfl, rfl, by decide +kernel, rfl, by decide +kernel, by decide +kernel⟩
theorem nd0_columns_at : (["leaf", "piece"] : List Str).Nodup := by decide +kernel
theorem ok_columns_at {k : Nat} {F : Fn → List D → Sto → Option (D × Sto)} (T : Txt K w g) (AH : ∀ base, (∀ p ∈ T.cs, LamX.TabB base g p.1 p.2) → All P T base k F) (hTB : ∀ p ∈ T.cs, LamX.TabB base g p.1 p.2) :
    FnOk P w K g base CX0 (k + 1) (T.ad .columns_at) (T.fd .columns_at) (par .columns_at) (spM ⟨K, P, w, base, T.tb⟩ (par .columns_at).length (bodyM 2 (b_columns_at F))) := by
  refine ok_def (N := ["leaf", "piece"]) (T.fn .columns_at rfl) sc_columns_at (by decide) fun cdv A outer s0 H E hr => ?_
  have nd := nd0_columns_at
  have IH := AH base hTB
  exact (mss_cons (ms_if (mt_cmp (or_eq hr.units) eqF_ok (me_ix (me_var 0) me_int) me_str (nomark _)) (mss_one (ms_ret (me_lst (ma_cons (me_var 0) ma_nil)))) mss_nil)
    (mss_cons (ms_if (mt_cmp (or_eq hr.units) eqF_ok (me_ix (me_var 0) me_int) me_str (nomark _)) (mss_one (ms_ret (me_lc (tgt := (.one 1)) (own := [("piece", 1)]) rfl nd (mi_seq (me_var 0)) (blkOk_by (own := [("piece", 1)]) (N := ["leaf", "piece"]) (sc := defScope s8) (by decide +kernel)) rfl (fun _ _ _ _ _ => pg_name (i := 1) nd rfl (Or.inl rfl)) (fun _ _ _ _ _ => mts_one (mt_truth (me_call (IH.f .is_column rfl) hr rfl (T.mg .is_column rfl) (T.fn .is_column rfl).kp (T.bd .is_column rfl) (ma_cons (me_var 1) ma_nil)))) (fun _ _ _ _ _ => (me_var 1))))) mss_nil)
    (mss_one (ms_ret (me_lst ma_nil)))))
theorem sc_is_column : FnScope ["piece"] (par .is_column) (defScope s9) := ⟨rfl, rfl, rfl, by decide +kernel, rfl, by decide +kernel, by decide +kernel⟩
theorem nd0_is_column : (["piece"] : List Str).Nodup := by decide +kernel
theorem ok_is_column {k : Nat} {F : Fn → List D → Sto → Option (D × Sto)} (T : Txt K w g) (AH : ∀ base, (∀ p ∈ T.cs, LamX.TabB base g p.1 p.2) → All P T base k F) (hTB : ∀ p ∈ T.cs, LamX.TabB base g p.1 p.2) :
    FnOk P w K g base CX0 (k + 1) (T.ad .is_column) (T.fd .is_column) (par .is_column) (spM ⟨K, P, w, base, T.tb⟩ (par .is_column).length (bodyM 1 (b_is_column F))) := by
  refine ok_def (N := ["piece"]) (T.fn .is_column rfl) sc_is_column (by decide) fun cdv A outer s0 H E hr => ?_
  have nd := nd0_is_column
  have IH := AH base hTB
  exact (mss_one (ms_ret (me_and (me_isi rfl T.z_isinstance (by decide +kernel) (me_var 0) (pe_bltn (v := .ty "tuple") rfl T.z_tuple (by decide +kernel) rfl)) (me_one (me_cmp (or_eq hr.units) eqF_ok (me_ix (me_var 0) me_int) me_str (nomark _))))))
end
end Gn
set_option maxHeartbeats 4000000 -- wide
namespace Gn
open L2 PyProof.Rows PySem PySem.Spec Ml
section
variable {P : Program} {w : World} {K : PySem.W.Frag} {g : Str → Option Value} {base : Heap}
theorem sc_negated : FnScope ["t"] (par .negated) (defScope s11) := ⟨rfl, rfl, rfl, by decide +kernel, rfl, by decide +kernel, by decide +kernel⟩
theorem nd0_negated : (["t"] : List Str).Nodup := by decide +kernel
theorem ok_negated {k : Nat} {F : Fn → List D → Sto → Option (D × Sto)} (T : Txt K w g) (AH : ∀ base, (∀ p ∈ T.cs, LamX.TabB base g p.1 p.2) → All P T base k F) (hTB : ∀ p ∈ T.cs, LamX.TabB base g p.1 p.2) :
    FnOk P w K g base CX0 (k + 1) (T.ad .negated) (T.fd .negated) (par .negated) (spM ⟨K, P, w, base, T.tb⟩ (par .negated).length (bodyM 1 (b_negated F))) := by
  refine ok_def (N := ["t"]) (T.fn .negated rfl) sc_negated (by decide) fun cdv A outer s0 H E hr => ?_
  have nd := nd0_negated
  have IH := AH base hTB
  exact (mss_one (ms_ret (me_if (mt_cmp op_isN isF_ok (me_var 0) me_non (nomark _)) me_non (me_not (me_var 0)))))
theorem sc_perhaps : FnScope ["t"] (par .perhaps) (defScope s12) := ⟨rfl, rfl, rfl, by decide +kernel, rfl, by decide +kernel, by decide +kernel⟩
theorem nd0_perhaps : (["t"] : List Str).Nodup := by decide +kernel
theorem ok_perhaps {k : Nat} {F : Fn → List D → Sto → Option (D × Sto)} (T : Txt K w g) (AH : ∀ base, (∀ p ∈ T.cs, LamX.TabB base g p.1 p.2) → All P T base k F) (hTB : ∀ p ∈ T.cs, LamX.TabB base g p.1 p.2) :
    FnOk P w K g base CX0 (k + 1) (T.ad .perhaps) (T.fd .perhaps) (par .perhaps) (spM ⟨K, P, w, base, T.tb⟩ (par .perhaps).length (bodyM 1 (b_perhaps F))) := by
  refine ok_def (N := ["t"]) (T.fn .perhaps rfl) sc_perhaps (by decide) fun cdv A outer s0 H E hr => ?_
  have nd := nd0_perhaps
  have IH := AH base hTB
  exact (mss_one (ms_ret (me_cmp op_isnotT isNT_ok (me_var 0) me_bl (nomark _))))
theorem sc_both : FnScope ["s", "t"] (par .both) (defScope s13) := ⟨rfl, rfl, rfl, by decide +kernel, rfl, by decide +kernel, by decide +kernel⟩
theorem nd0_both : (["s", "t"] : List Str).Nodup := by decide +kernel
theorem ok_both {k : Nat} {F : Fn → List D → Sto → Option (D × Sto)} (T : Txt K w g) (AH : ∀ base, (∀ p ∈ T.cs, LamX.TabB base g p.1 p.2) → All P T base k F) (hTB : ∀ p ∈ T.cs, LamX.TabB base g p.1 p.2) :
    FnOk P w K g base CX0 (k + 1) (T.ad .both) (T.fd .both) (par .both) (spM ⟨K, P, w, base, T.tb⟩ (par .both).length (bodyM 2 (b_both F))) := by
  refine ok_def (N := ["s", "t"]) (T.fn .both rfl) sc_both (by decide) fun cdv A outer s0 H E hr => ?_
  have nd := nd0_both
  have IH := AH base hTB
  exact (mss_cons (ms_if (PW.pt (mw_or (mt_cmp op_isT isPT_ok (me_var 0) me_bl (nomark _)) (mw_or1 (mt_cmp op_isT isPT_ok (me_var 1) me_bl (nomark _))))) (mss_one (ms_ret me_bl)) mss_nil)
    (mss_one (ms_ret (me_if (PW.pt (mw_or (mt_cmp op_isN isF_ok (me_var 0) me_non (nomark _)) (mw_or1 (mt_cmp op_isN isF_ok (me_var 1) me_non (nomark _))))) me_non me_bl))))
theorem sc_either : FnScope ["s", "t"] (par .either) (defScope s14) := ⟨rfl, rfl, rfl, by decide +kernel, rfl, by decide +kernel, by decide +kernel⟩
theorem nd0_either : (["s", "t"] : List Str).Nodup := by decide +kernel
theorem ok_either {k : Nat} {F : Fn → List D → Sto → Option (D × Sto)} (T : Txt K w g) (AH : ∀ base, (∀ p ∈ T.cs, LamX.TabB base g p.1 p.2) → All P T base k F) (hTB : ∀ p ∈ T.cs, LamX.TabB base g p.1 p.2) :
    FnOk P w K g base CX0 (k + 1) (T.ad .either) (T.fd .either) (par .either) (spM ⟨K, P, w, base, T.tb⟩ (par .either).length (bodyM 2 (b_either F))) := by
  refine ok_def (N := ["s", "t"]) (T.fn .either rfl) sc_either (by decide) fun cdv A outer s0 H E hr => ?_
  have nd := nd0_either
  have IH := AH base hTB
  exact (mss_cons (ms_if (PW.pt (mw_or (mt_cmp op_isT isPT_ok (me_var 0) me_bl (nomark _)) (mw_or1 (mt_cmp op_isT isPT_ok (me_var 1) me_bl (nomark _))))) (mss_one (ms_ret me_bl)) mss_nil)
    (mss_one (ms_ret (me_if (PW.pt (mw_or (mt_cmp op_isN isF_ok (me_var 0) me_non (nomark _)) (mw_or1 (mt_cmp op_isN isF_ok (me_var 1) me_non (nomark _))))) me_non me_bl))))
theorem sc_compared : FnScope ["op", "one", "other"] (par .compared) (defScope s15) := ⟨rfl, rfl, rfl, by decide +kernel, rfl, by decide +kernel, by decide +kernel⟩
theorem nd0_compared : (["op", "one", "other"] : List Str).Nodup := by decide +kernel
theorem ok_compared {k : Nat} {F : Fn → List D → Sto → Option (D × Sto)} (T : Txt K w g) (AH : ∀ base, (∀ p ∈ T.cs, LamX.TabB base g p.1 p.2) → All P T base k F) (hTB : ∀ p ∈ T.cs, LamX.TabB base g p.1 p.2) :
    FnOk P w K g base CX0 (k + 1) (T.ad .compared) (T.fd .compared) (par .compared) (spM ⟨K, P, w, base, T.tb⟩ (par .compared).length (bodyM 3 (b_compared F))) := by
  refine ok_def (N := ["op", "one", "other"]) (T.fn .compared rfl) sc_compared (by decide) fun cdv A outer s0 H E hr => ?_
  have nd := nd0_compared
  have IH := AH base hTB
  exact (mss_cons (ms_if (PW.pt (mw_or (mt_cmp op_isN isF_ok (me_var 1) me_non (nomark _)) (mw_or1 (mt_cmp op_isN isF_ok (me_var 2) me_non (nomark _))))) (mss_one (ms_ret me_non)) mss_nil)
    (mss_cons (ms_if (mt_cmp (or_eq hr.units) eqF_ok (me_var 0) me_str (nomark _)) (mss_one (ms_ret (me_cmp (or_eq hr.units) eqF_ok (me_var 1) (me_var 2) (nomark _)))) mss_nil)
    (mss_cons (ms_if (mt_cmp (or_eq hr.units) eqF_ok (me_var 0) me_str (nomark _)) (mss_one (ms_ret (me_cmp (or_ne hr.units) neF_ok (me_var 1) (me_var 2) (nomark _)))) mss_nil)
    (mss_cons (ms_if (mt_cmp (or_eq hr.units) eqF_ok (me_var 0) me_str (nomark _)) (mss_one (ms_ret (me_cmp or_lt ltF_ok (me_var 1) (me_var 2) (nomark _)))) mss_nil)
    (mss_cons (ms_if (mt_cmp (or_eq hr.units) eqF_ok (me_var 0) me_str (nomark _)) (mss_one (ms_ret (me_cmp or_le leF_ok (me_var 1) (me_var 2) (nomark _)))) mss_nil)
    (mss_cons (ms_if (mt_cmp (or_eq hr.units) eqF_ok (me_var 0) me_str (nomark _)) (mss_one (ms_ret (me_cmp or_gt gtF_ok (me_var 1) (me_var 2) (nomark _)))) mss_nil)
    (mss_one (ms_ret (me_cmp or_ge geF_ok (me_var 1) (me_var 2) (nomark _))))))))))
theorem sc_possible : FnScope ["cond", "unit", "found", "truth"] (par .possible) (defScope s18) := ⟨rfl, rfl, rfl, by decide +kernel, rfl, by decide +kernel, by decide +kernel⟩
theorem nd0_possible : (["cond", "unit", "found", "truth"] : List Str).Nodup := by decide +kernel
theorem ok_possible {k : Nat} {F : Fn → List D → Sto → Option (D × Sto)} (T : Txt K w g) (AH : ∀ base, (∀ p ∈ T.cs, LamX.TabB base g p.1 p.2) → All P T base k F) (hTB : ∀ p ∈ T.cs, LamX.TabB base g p.1 p.2) :
    FnOk P w K g base CX0 (k + 1) (T.ad .possible) (T.fd .possible) (par .possible) (spM ⟨K, P, w, base, T.tb⟩ (par .possible).length (bodyM 4 (b_possible F))) := by
  refine ok_def (N := ["cond", "unit", "found", "truth"]) (T.fn .possible rfl) sc_possible (by decide) fun cdv A outer s0 H E hr => ?_
  have nd := nd0_possible
  have IH := AH base hTB
  exact (mss_cons (ms_set 2 nd rfl (.inr rfl) (me_call (IH.f .truths_of rfl) hr rfl (T.mg .truths_of rfl) (T.fn .truths_of rfl).kp (T.bd .truths_of rfl) (ma_cons (me_var 0) (ma_cons (me_var 1) ma_nil))))
    (mss_one (ms_ret (me_callTy call_tuple_of tupleF_ok rfl T.z_tuple (by decide +kernel) (ma_cons (me_lc (tgt := (.one 3)) (own := [("truth", 3)]) rfl nd (mi_seq (me_con (pe_glob (v := .ref T.c_TRUTHSa) rfl T.c_TRUTHSg rfl) (fun H m => T.c_TRUTHSr P base T.tb H m))) (blkOk_by (own := [("truth", 3)]) (N := ["cond", "unit", "found", "truth"]) (sc := defScope s18) (by decide +kernel)) rfl (fun _ _ _ _ _ => pg_name (i := 3) nd rfl (Or.inl rfl)) (fun _ _ _ _ _ => mts_nil) (fun _ _ _ _ _ => (me_cmp (or_in (hu65 hr)) inF_ok (me_var 3) (me_var 2) rfl))) ma_nil)))))
end
end Gn
set_option maxHeartbeats 4000000 -- wide
namespace Gn
open L2 PyProof.Rows PySem PySem.Spec Ml
section
variable {P : Program} {w : World} {K : PySem.W.Frag} {g : Str → Option Value} {base : Heap}
theorem sc_never_on_nulls : FnScope ["cond", "unit"] (par .never_on_nulls) (defScope s19) := ⟨rfl, rfl, rfl, by decide +kernel, rfl, by decide +kernel, by decide +kernel⟩
theorem nd0_never_on_nulls : (["cond", "unit"] : List Str).Nodup := by decide +kernel
theorem ok_never_on_nulls {k : Nat} {F : Fn → List D → Sto → Option (D × Sto)} (T : Txt K w g) (AH : ∀ base, (∀ p ∈ T.cs, LamX.TabB base g p.1 p.2) → All P T base k F) (hTB : ∀ p ∈ T.cs, LamX.TabB base g p.1 p.2) :
    FnOk P w K g base CX0 (k + 1) (T.ad .never_on_nulls) (T.fd .never_on_nulls) (par .never_on_nulls) (spM ⟨K, P, w, base, T.tb⟩ (par .never_on_nulls).length (bodyM 2 (b_never_on_nulls F))) := by
  refine ok_def (N := ["cond", "unit"]) (T.fn .never_on_nulls rfl) sc_never_on_nulls (by decide) fun cdv A outer s0 H E hr => ?_
  have nd := nd0_never_on_nulls
  have IH := AH base hTB
  exact (mss_one (ms_ret (me_not (me_ix (me_call (IH.f .possible rfl) hr rfl (T.mg .possible rfl) (T.fn .possible rfl).kp (T.bd .possible rfl) (ma_cons (me_var 0) (ma_cons (me_var 1) ma_nil))) me_int))))
theorem sc_truths_of : FnScope ["cond", "unit", "tag", "sides", "found", "join", "part", "truth", "one", "other"] (par .truths_of) (defScope s20) := ⟨rfl, rfl, rfl, by decide +kernel, rfl, by decide +kernel, by decide +kernel⟩
theorem nd0_truths_of : (["cond", "unit", "tag", "sides", "found", "join", "part", "truth", "one", "other"] : List Str).Nodup := by decide +kernel
theorem ok_truths_of {k : Nat} {F : Fn → List D → Sto → Option (D × Sto)} (T : Txt K w g) (AH : ∀ base, (∀ p ∈ T.cs, LamX.TabB base g p.1 p.2) → All P T base k F) (hTB : ∀ p ∈ T.cs, LamX.TabB base g p.1 p.2) :
    FnOk P w K g base CX0 (k + 1) (T.ad .truths_of) (T.fd .truths_of) (par .truths_of) (spM ⟨K, P, w, base, T.tb⟩ (par .truths_of).length (bodyM 10 (b_truths_of F))) := by
  refine ok_def (N := ["cond", "unit", "tag", "sides", "found", "join", "part", "truth", "one", "other"]) (T.fn .truths_of rfl) sc_truths_of (by decide) fun cdv A outer s0 H E hr => ?_
  have nd := nd0_truths_of
  have IH := AH base hTB
  exact (mss_cons (ms_set 2 nd rfl (.inl rfl) (me_ix (me_var 0) me_int))
    (mss_cons (ms_if (mt_cmp (or_in (hu65 hr)) inF_ok (me_var 2) (me_tup (ma_cons me_str (ma_cons me_str ma_nil))) rfl) (mss_one (ms_ret (me_call (IH.f .truths_alone rfl) hr rfl (T.mg .truths_alone rfl) (T.fn .truths_alone rfl).kp (T.bd .truths_alone rfl) (ma_cons (me_var 2) (ma_cons (me_call (IH.f .has_column_of rfl) hr rfl (T.mg .has_column_of rfl) (T.fn .has_column_of rfl).kp (T.bd .has_column_of rfl) (ma_cons (me_var 0) (ma_cons (me_var 1) ma_nil))) ma_nil))))) mss_nil)
    (mss_cons (ms_set 3 nd rfl (.inr rfl) (me_lc (tgt := (.one 6)) (own := [("part", 6)]) rfl nd (mi_seq (me_call (IH.f .parts_of rfl) hr rfl (T.mg .parts_of rfl) (T.fn .parts_of rfl).kp (T.bd .parts_of rfl) (ma_cons (me_var 0) ma_nil))) (blkOk_by (own := [("part", 6)]) (N := ["cond", "unit", "tag", "sides", "found", "join", "part", "truth", "one", "other"]) (sc := defScope s20) (by decide +kernel)) rfl (fun _ _ _ _ _ => pg_name (i := 6) nd rfl (Or.inl rfl)) (fun _ _ _ _ _ => mts_nil) (fun _ _ _ _ _ => (me_call (IH.f .truths_of rfl) hr rfl (T.mg .truths_of rfl) (T.fn .truths_of rfl).kp (T.bd .truths_of rfl) (ma_cons (me_var 6) (ma_cons (me_var 1) ma_nil))))))
    (mss_cons (ms_if (mt_cmp (or_eq hr.units) eqF_ok (me_var 2) me_str (nomark _)) (mss_one (ms_set 4 nd rfl (.inr rfl) (me_lc (tgt := (.one 7)) (own := [("truth", 7)]) rfl nd (mi_seq (me_ix (me_var 3) me_int)) (blkOk_by (own := [("truth", 7)]) (N := ["cond", "unit", "tag", "sides", "found", "join", "part", "truth", "one", "other"]) (sc := defScope s20) (by decide +kernel)) rfl (fun _ _ _ _ _ => pg_name (i := 7) nd rfl (Or.inl rfl)) (fun _ _ _ _ _ => mts_nil) (fun _ _ _ _ _ => (me_call (IH.f .negated rfl) hr rfl (T.mg .negated rfl) (T.fn .negated rfl).kp (T.bd .negated rfl) (ma_cons (me_var 7) ma_nil)))))) (mss_one (ms_if (mt_cmp (or_eq hr.units) eqF_ok (me_var 2) me_str (nomark _)) (mss_one (ms_set 4 nd rfl (.inr rfl) (me_lc (tgt := (.one 7)) (own := [("truth", 7)]) rfl nd (mi_seq (me_ix (me_var 3) me_int)) (blkOk_by (own := [("truth", 7)]) (N := ["cond", "unit", "tag", "sides", "found", "join", "part", "truth", "one", "other"]) (sc := defScope s20) (by decide +kernel)) rfl (fun _ _ _ _ _ => pg_name (i := 7) nd rfl (Or.inl rfl)) (fun _ _ _ _ _ => mts_nil) (fun _ _ _ _ _ => (me_call (IH.f .perhaps rfl) hr rfl (T.mg .perhaps rfl) (T.fn .perhaps rfl).kp (T.bd .perhaps rfl) (ma_cons (me_var 7) ma_nil)))))) (mss_cons (ms_set 5 nd rfl (.inr rfl) (me_if (mt_cmp (or_eq hr.units) eqF_ok (me_var 2) me_str (nomark _)) (me_gl rfl (T.mg .both rfl) (T.ns .both rfl)) (me_gl rfl (T.mg .either rfl) (T.ns .either rfl))))
    (mss_one (ms_set 4 nd rfl (.inr rfl) (me_lc2 (own := [("one", 8), ("other", 9)]) (tgt := .one 8) (tgt1 := .one 9) (vs1 := [9]) rfl nd (mi_seq (me_ix (me_var 3) me_int)) (blkOk_by (own := [("one", 8), ("other", 9)]) (N := ["cond", "unit", "tag", "sides", "found", "join", "part", "truth", "one", "other"]) (sc := defScope s20) (by decide +kernel)) rfl rfl (by decide) (fun _ _ _ _ _ => pg_name (i := 8) nd rfl (Or.inl rfl)) (fun _ _ _ _ _ => mts_nil) (fun _ _ _ _ _ => (mi_seq (me_ix (me_var 3) me_int))) (fun _ _ _ _ _ => pg_name (i := 9) nd rfl (Or.inl rfl)) (fun _ _ _ _ _ => mts_nil) (fun _ _ _ _ _ => (me_callG (i := 5) (n := 2) (cands := (fun z => if z = "both" then some (F .both) else if z = "either" then some (F .either) else none)) (by intro z G hz; (try dsimp only at hz); split at hz; (next h => (subst h; cases hz; exact ⟨T.ad .both, T.fd .both, par .both, IH.f .both rfl, T.ns .both rfl, (T.fn .both rfl).kp, T.bd .both rfl⟩)); (next => (split at hz; (next h => (subst h; cases hz; exact ⟨T.ad .either, T.fd .either, par .either, IH.f .either rfl, T.ns .either rfl, (T.fn .either rfl).kp, T.bd .either rfl⟩)); (next => (cases hz))))) hr rfl (by first | exact Or.inl rfl | exact Or.inr (Or.inl rfl) | exact Or.inr (Or.inr rfl)) (ma_cons (me_var 8) (ma_cons (me_var 9) ma_nil)))))))))))
    (mss_one (ms_ret (me_lc (tgt := (.one 7)) (own := [("truth", 7)]) rfl nd (mi_seq (me_con (pe_glob (v := .ref T.c_TRUTHSa) rfl T.c_TRUTHSg rfl) (fun H m => T.c_TRUTHSr P base T.tb H m))) (blkOk_by (own := [("truth", 7)]) (N := ["cond", "unit", "tag", "sides", "found", "join", "part", "truth", "one", "other"]) (sc := defScope s20) (by decide +kernel)) rfl (fun _ _ _ _ _ => pg_name (i := 7) nd rfl (Or.inl rfl)) (fun _ _ _ _ _ => mts_one (mt_cmp (or_in (hu65 hr)) inF_ok (me_var 7) (me_var 4) rfl)) (fun _ _ _ _ _ => (me_var 7)))))))))
theorem sc_truths_alone : FnScope ["tag", "is_touched"] (par .truths_alone) (defScope s21) := ⟨rfl, rfl, rfl, by decide +kernel, rfl, by decide +kernel, by decide +kernel⟩
theorem nd0_truths_alone : (["tag", "is_touched"] : List Str).Nodup := by decide +kernel
theorem ok_truths_alone {k : Nat} {F : Fn → List D → Sto → Option (D × Sto)} (T : Txt K w g) (AH : ∀ base, (∀ p ∈ T.cs, LamX.TabB base g p.1 p.2) → All P T base k F) (hTB : ∀ p ∈ T.cs, LamX.TabB base g p.1 p.2) :
    FnOk P w K g base CX0 (k + 1) (T.ad .truths_alone) (T.fd .truths_alone) (par .truths_alone) (spM ⟨K, P, w, base, T.tb⟩ (par .truths_alone).length (bodyM 2 (b_truths_alone F))) := by
  refine ok_def (N := ["tag", "is_touched"]) (T.fn .truths_alone rfl) sc_truths_alone (by decide) fun cdv A outer s0 H E hr => ?_
  have nd := nd0_truths_alone
  have IH := AH base hTB
  exact (mss_cons (ms_if (mt_cmp (or_eq hr.units) eqF_ok (me_var 0) me_str (nomark _)) (mss_one (ms_ret (me_if (mt_truth (me_var 1)) (me_lst (ma_cons me_non ma_nil)) (me_lst (ma_cons me_bl (ma_cons me_bl (ma_cons me_non ma_nil))))))) mss_nil)
    (mss_one (ms_ret (me_if (mt_truth (me_var 1)) (me_lst (ma_cons me_bl ma_nil)) (me_lst (ma_cons me_bl (ma_cons me_bl ma_nil)))))))
theorem sc_has_column_of : FnScope ["cond", "unit"] (par .has_column_of) (defScope s22) := ⟨rfl, rfl, rfl, by decide +kernel, rfl, by decide +kernel, by decide +kernel⟩
theorem nd0_has_column_of : (["cond", "unit"] : List Str).Nodup := by decide +kernel
theorem ok_has_column_of {k : Nat} {F : Fn → List D → Sto → Option (D × Sto)} (T : Txt K w g) (AH : ∀ base, (∀ p ∈ T.cs, LamX.TabB base g p.1 p.2) → All P T base k F) (hTB : ∀ p ∈ T.cs, LamX.TabB base g p.1 p.2) :
    FnOk P w K g base CX0 (k + 1) (T.ad .has_column_of) (T.fd .has_column_of) (par .has_column_of) (spM ⟨K, P, w, base, T.tb⟩ (par .has_column_of).length (bodyM 2 (b_has_column_of F))) := by
  refine ok_defC (N := ["cond", "unit"]) T.fc_has_column_of sc_has_column_of (by decide) fun A outer s0 H E hr => ?_
  have nd := nd0_has_column_of
  have IH := AH base hTB
  exact (mss_one (ms_ret (me_anyFE (k := 1) (iy := 1) (c := T.c_has_column_of) (P := T.P_has_column_of) (nm := fun _ _ => ("has_column_of.<locals>.<genexpr>" : Str)) hr rfl T.z_any (hTB _ (.tail _ (.tail _ (.head _)))) rfl (.tail _ (.tail _ (.head _))) (by show ("has_column_of.<locals>.<genexpr>" : Str) = (("has_column_of" : Str) ++ ".<locals>.") ++ "<genexpr>"; decide +kernel) T.u_has_column_of (gsc_by (by show gscB (defScope s22) _ _ _ = true; decide +kernel)) rfl (by decide) (me_call (IH.f .columns_in rfl) hr rfl (T.mg .columns_in rfl) (T.fn .columns_in rfl).kp (T.bd .columns_in rfl) (ma_cons (me_var 0) ma_nil)) (fun _ => rfl))))
theorem sc_reckoned : FnScope ["tag", "sides", "left", "right"] (par .reckoned) (defScope s24) := ⟨rfl, rfl, rfl, by decide +kernel, rfl, by decide +kernel, by decide +kernel⟩
theorem nd0_reckoned : (["tag", "sides", "left", "right"] : List Str).Nodup := by decide +kernel
theorem ok_reckoned {k : Nat} {F : Fn → List D → Sto → Option (D × Sto)} (T : Txt K w g) (AH : ∀ base, (∀ p ∈ T.cs, LamX.TabB base g p.1 p.2) → All P T base k F) (hTB : ∀ p ∈ T.cs, LamX.TabB base g p.1 p.2) :
    FnOk P w K g base CX0 (k + 1) (T.ad .reckoned) (T.fd .reckoned) (par .reckoned) (spM ⟨K, P, w, base, T.tb⟩ (par .reckoned).length (bodyM 4 (b_reckoned F))) := by
  refine ok_def (N := ["tag", "sides", "left", "right"]) (T.fn .reckoned rfl) sc_reckoned (by decide) fun cdv A outer s0 H E hr => ?_
  have nd := nd0_reckoned
  have IH := AH base hTB
  exact (mss_cons (ms_if (mt_cmp (or_eq hr.units) eqF_ok (me_var 0) me_str (nomark _)) (mss_one (ms_ret (me_neg (me_ix (me_var 1) me_int)))) mss_nil)
    (mss_cons (ms_asg (me_var 1) (mg_lst rfl (mgs_cons (mg_name 2 nd rfl (.inl rfl)) (mgs_cons (mg_name 3 nd rfl (.inl rfl)) mgs_nil))))
    (mss_cons (ms_if (mt_cmp (or_eq hr.units) eqF_ok (me_var 0) me_str (nomark _)) (mss_one (ms_ret (me_add (me_var 2) (me_var 3)))) mss_nil)
    (mss_one (ms_ret (me_if (mt_cmp (or_eq hr.units) eqF_ok (me_var 0) me_str (nomark _)) (me_sub (me_var 2) (me_var 3)) (me_mul (me_var 2) (me_var 3))))))))
theorem sc_truth_joined : FnScope ["tag", "sides"] (par .truth_joined) (defScope s25) := ⟨rfl, rfl, rfl, by decide +kernel, rfl, by decide +kernel, by decide +kernel⟩
theorem nd0_truth_joined : (["tag", "sides"] : List Str).Nodup := by decide +kernel
theorem ok_truth_joined {k : Nat} {F : Fn → List D → Sto → Option (D × Sto)} (T : Txt K w g) (AH : ∀ base, (∀ p ∈ T.cs, LamX.TabB base g p.1 p.2) → All P T base k F) (hTB : ∀ p ∈ T.cs, LamX.TabB base g p.1 p.2) :
    FnOk P w K g base CX0 (k + 1) (T.ad .truth_joined) (T.fd .truth_joined) (par .truth_joined) (spM ⟨K, P, w, base, T.tb⟩ (par .truth_joined).length (bodyM 2 (b_truth_joined F))) := by
  refine ok_def (N := ["tag", "sides"]) (T.fn .truth_joined rfl) sc_truth_joined (by decide) fun cdv A outer s0 H E hr => ?_
  have nd := nd0_truth_joined
  have IH := AH base hTB
  exact (mss_cons (ms_if (mt_cmp (or_eq hr.units) eqF_ok (me_var 0) me_str (nomark _)) (mss_one (ms_ret (me_call (IH.f .negated rfl) hr rfl (T.mg .negated rfl) (T.fn .negated rfl).kp (T.bd .negated rfl) (ma_cons (me_ix (me_var 1) me_int) ma_nil)))) mss_nil)
    (mss_cons (ms_if (mt_cmp (or_eq hr.units) eqF_ok (me_var 0) me_str (nomark _)) (mss_one (ms_ret (me_call (IH.f .perhaps rfl) hr rfl (T.mg .perhaps rfl) (T.fn .perhaps rfl).kp (T.bd .perhaps rfl) (ma_cons (me_ix (me_var 1) me_int) ma_nil)))) mss_nil)
    (mss_one (ms_ret (me_if (mt_cmp (or_eq hr.units) eqF_ok (me_var 0) me_str (nomark _)) (me_call (IH.f .both rfl) hr rfl (T.mg .both rfl) (T.fn .both rfl).kp (T.bd .both rfl) (ma_cons (me_ix (me_var 1) me_int) (ma_cons (me_ix (me_var 1) me_int) ma_nil))) (me_call (IH.f .either rfl) hr rfl (T.mg .either rfl) (T.fn .either rfl).kp (T.bd .either rfl) (ma_cons (me_ix (me_var 1) me_int) (ma_cons (me_ix (me_var 1) me_int) ma_nil))))))))
end
end Gn
set_option maxHeartbeats 4000000 -- wide
namespace Gn
open L2 PyProof.Rows PySem PySem.Spec Ml
section
variable {P : Program} {w : World} {K : PySem.W.Frag} {g : Str → Option Value} {base : Heap}
theorem sc_mark_value : FnScope ["expr", "worth", "folds", "step"] (par .mark_value) (defScope s28) := ⟨rfl, rfl, rfl, by decide +kernel, rfl, by decide +kernel, by decide +kernel⟩
theorem nd0_mark_value : (["expr", "worth", "folds", "step"] : List Str).Nodup := by decide +kernel
theorem ok_mark_value {k : Nat} {F : Fn → List D → Sto → Option (D × Sto)} (T : Txt K w g) (AH : ∀ base, (∀ p ∈ T.cs, LamX.TabB base g p.1 p.2) → All P T base k F) (hTB : ∀ p ∈ T.cs, LamX.TabB base g p.1 p.2) :
    FnOk P w K g base CX0 (k + 1) (T.ad .mark_value) (T.fd .mark_value) (par .mark_value) (spM ⟨K, P, w, base, T.tb⟩ (par .mark_value).length (bodyM 4 (b_mark_value F))) := by
  refine ok_defC (N := ["expr", "worth", "folds", "step"]) T.fc_mark_value sc_mark_value (by decide) fun A outer s0 H E hr => ?_
  have nd := nd0_mark_value
  have IH := AH base hTB
  exact (mss_dret (nd := nd_mark_value__step) (id := 0) (c := T.c_mark_value) (P := T.P_mark_value) (nm := fun _ _ => ("mark_value.<locals>.step" : Str)) (i := 3) (ia := 0) (js := [1, 2]) rfl (by show ("mark_value.<locals>.step" : Str) = (("mark_value" : Str) ++ ".<locals>.") ++ ("step" : Str); decide +kernel) (hTB _ (.head _)) rfl (.head _) (by show ("mark_value.<locals>.step" : Str) = (("mark_value" : Str) ++ ".<locals>.") ++ ("step" : Str); decide +kernel) T.u_mark_value (by show NdefX.ndefB (defScope s28) (C8.fnScope nst_mark_value__step) nd_mark_value__step.fr = true; decide +kernel) rfl rfl rfl nd rfl (.inl rfl) (fun _ => rfl) rfl (by decide) rfl (by first | exact Or.inl rfl | exact Or.inr (Or.inl rfl)) (by decide) (fun b hb => (AH b fun p hp => tabB_keeps hb (hTB p hp)).f .reduced rfl) hr rfl (T.mg .reduced rfl) (T.fn .reduced rfl).kp (T.bd .reduced rfl))
theorem sc_mark_truth : FnScope ["cond", "worth", "folds", "step"] (par .mark_truth) (defScope s29) := ⟨rfl, rfl, rfl, by decide +kernel, rfl, by decide +kernel, by decide +kernel⟩
theorem nd0_mark_truth : (["cond", "worth", "folds", "step"] : List Str).Nodup := by decide +kernel
theorem ok_mark_truth {k : Nat} {F : Fn → List D → Sto → Option (D × Sto)} (T : Txt K w g) (AH : ∀ base, (∀ p ∈ T.cs, LamX.TabB base g p.1 p.2) → All P T base k F) (hTB : ∀ p ∈ T.cs, LamX.TabB base g p.1 p.2) :
    FnOk P w K g base CX0 (k + 1) (T.ad .mark_truth) (T.fd .mark_truth) (par .mark_truth) (spM ⟨K, P, w, base, T.tb⟩ (par .mark_truth).length (bodyM 4 (b_mark_truth F))) := by
  refine ok_defC (N := ["cond", "worth", "folds", "step"]) T.fc_mark_truth sc_mark_truth (by decide) fun A outer s0 H E hr => ?_
  have nd := nd0_mark_truth
  have IH := AH base hTB
  exact (mss_dret (nd := nd_mark_truth__step) (id := 1) (c := T.c_mark_truth) (P := T.P_mark_truth) (nm := fun _ _ => ("mark_truth.<locals>.step" : Str)) (i := 3) (ia := 0) (js := [1, 2]) rfl (by show ("mark_truth.<locals>.step" : Str) = (("mark_truth" : Str) ++ ".<locals>.") ++ ("step" : Str); decide +kernel) (hTB _ (.tail _ (.head _))) rfl (.tail _ (.head _)) (by show ("mark_truth.<locals>.step" : Str) = (("mark_truth" : Str) ++ ".<locals>.") ++ ("step" : Str); decide +kernel) T.u_mark_truth (by show NdefX.ndefB (defScope s29) (C8.fnScope nst_mark_truth__step) nd_mark_truth__step.fr = true; decide +kernel) rfl rfl rfl nd rfl (.inl rfl) (fun _ => rfl) rfl (by decide) rfl (by first | exact Or.inl rfl | exact Or.inr (Or.inl rfl)) (by decide) (fun b hb => (AH b fun p hp => tabB_keeps hb (hTB p hp)).f .reduced rfl) hr rfl (T.mg .reduced rfl) (T.fn .reduced rfl).kp (T.bd .reduced rfl))
theorem sc_worth_of_one : FnScope ["expr", "sides", "worth", "folds"] (par .worth_of_one) (defScope s30) := ⟨rfl, rfl, rfl, by decide +kernel, rfl, by decide +kernel, by decide +kernel⟩
theorem nd0_worth_of_one : (["expr", "sides", "worth", "folds"] : List Str).Nodup := by decide +kernel
theorem ok_worth_of_one {k : Nat} {F : Fn → List D → Sto → Option (D × Sto)} (T : Txt K w g) (AH : ∀ base, (∀ p ∈ T.cs, LamX.TabB base g p.1 p.2) → All P T base k F) (hTB : ∀ p ∈ T.cs, LamX.TabB base g p.1 p.2) :
    FnOk P w K g base CX0 (k + 1) (T.ad .worth_of_one) (T.fd .worth_of_one) (par .worth_of_one) (spM ⟨K, P, w, base, T.tb⟩ (par .worth_of_one).length (bodyM 4 (b_worth_of_one F))) := by
  refine ok_def (N := ["expr", "sides", "worth", "folds"]) (T.fn .worth_of_one rfl) sc_worth_of_one (by decide) fun cdv A outer s0 H E hr => ?_
  have nd := nd0_worth_of_one
  have IH := AH base hTB
  exact (mss_cons (ms_if (mt_cmp (or_in (hu65 hr)) inF_ok (me_ix (me_var 0) me_int) (me_tup (ma_cons me_str (ma_cons me_str ma_nil))) rfl) (mss_one (ms_ret (me_ix (me_var 0) me_int))) mss_nil)
    (mss_cons (ms_if (mt_cmp (or_eq hr.units) eqF_ok (me_ix (me_var 0) me_int) me_str (nomark _)) (mss_one (ms_ret (me_getL (hu1b hr) (me_var 2) (me_ix (me_var 0) me_int)))) mss_nil)
    (mss_cons (ms_if (mt_cmp (or_eq hr.units) eqF_ok (me_ix (me_var 0) me_int) me_str (nomark _)) (mss_one (ms_ret (me_ix (me_var 3) (me_ix (me_var 0) me_int)))) mss_nil)
    (mss_one (ms_ret (me_if (mt_cmp (or_in (hu65 hr)) inF_ok me_non (me_var 1) rfl) me_non (me_call (IH.f .reckoned rfl) hr rfl (T.mg .reckoned rfl) (T.fn .reckoned rfl).kp (T.bd .reckoned rfl) (ma_cons (me_ix (me_var 0) me_int) (ma_cons (me_var 1) ma_nil)))))))))
theorem sc__law_deck : FnScope ["_law_script", "_law_deck_here", "_law_mix", "_law_cell", "_law_rest", "_law_turn"] (par ._law_deck) (defScope s32) := ⟨rfl, rfl, rfl, by decide +kernel, rfl, by decide +kernel, by decide +kernel⟩
theorem nd0__law_deck : (["_law_script", "_law_deck_here", "_law_mix", "_law_cell", "_law_rest", "_law_turn"] : List Str).Nodup := by decide +kernel
theorem ok__law_deck {k : Nat} {F : Fn → List D → Sto → Option (D × Sto)} (T : Txt K w g) (AH : ∀ base, (∀ p ∈ T.cs, LamX.TabB base g p.1 p.2) → All P T base k F) (hTB : ∀ p ∈ T.cs, LamX.TabB base g p.1 p.2) :
    FnOk P w K g base CX0 (k + 1) (T.ad ._law_deck) (T.fd ._law_deck) (par ._law_deck) (spM ⟨K, P, w, base, T.tb⟩ (par ._law_deck).length (bodyM 6 (b__law_deck F))) := by
  refine ok_def (N := ["_law_script", "_law_deck_here", "_law_mix", "_law_cell", "_law_rest", "_law_turn"]) (T.fn ._law_deck rfl) sc__law_deck (by decide) fun cdv A outer s0 H E hr => ?_
  have nd := nd0__law_deck
  have IH := AH base hTB
  exact (mss_cons (ms_set 1 nd rfl (.inl rfl) (me_lst ma_nil))
    (mss_cons (ms_set 2 nd rfl (.inl rfl) (me_add me_int (me_mul me_int (me_callB call_len lenF_ok rfl T.z_len (by decide +kernel) (ma_cons (me_var 0) ma_nil)))))
    (mss_cons (ms_for PassesOwn.never rfl (mi_rl (me_var 0)) (mg_name 3 nd rfl (.inl rfl)) (mss_cons (ms_set 4 nd rfl (.inl rfl) (me_callB call_abs absF_ok rfl T.z_abs (by decide +kernel) (ma_cons (me_callTy call_int1 intF_ok rfl T.z_int (by decide +kernel) (ma_cons (me_var 3) ma_nil)) ma_nil)))
    (mss_cons (ms_set 2 nd rfl (.inl rfl) (me_mod (me_callTy call_int1 intF_ok rfl T.z_int (by decide +kernel) (ma_cons (me_add (me_add (me_mul (me_var 2) me_int) (me_mod (me_var 4) me_int)) (me_mul me_int (me_callTy call_int1 intF_ok rfl T.z_int (by decide +kernel) (ma_cons (me_cmp or_lt ltF_ok (me_var 3) me_int (nomark _)) ma_nil)))) ma_nil)) me_int))
    (mss_one (ms_if (mt_cmp or_ge geF_ok (me_var 4) (me_pow me_int me_int) (nomark _)) (mss_one (ms_for PassesOwn.never rfl (mi_rng1 rfl T.z_range (ma_cons me_int ma_nil)) (mg_name 5 nd rfl (.inl rfl)) (mss_one (ms_if (mt_cmp or_gt gtF_ok (me_var 4) me_int (nomark _)) (mss_cons (ms_expr (me_bm PySem.F.plainAttrs_list PySem.F.slot_list_append PySem.F.type_list_append mt_append appendF_ok (me_var 1) (ma_cons (me_mod (me_callTy call_int1 intF_ok rfl T.z_int (by decide +kernel) (ma_cons (me_var 4) ma_nil)) me_int) ma_nil)))
    (mss_one (ms_set 4 nd rfl (.inl rfl) (me_fdiv (me_var 4) me_int)))) mss_nil)))) mss_nil)))))
    (mss_cons (ms_for PassesOwn.never rfl (mi_rng1 rfl T.z_range (ma_cons me_int ma_nil)) (mg_name 5 nd rfl (.inl rfl)) (mss_cons (ms_set 2 nd rfl (.inl rfl) (me_mod (me_callTy call_int1 intF_ok rfl T.z_int (by decide +kernel) (ma_cons (me_add (me_add (me_mul (me_var 2) me_int) (me_mul me_int (me_var 5))) me_int) ma_nil)) me_int))
    (mss_one (ms_expr (me_bm PySem.F.plainAttrs_list PySem.F.slot_list_append PySem.F.type_list_append mt_append appendF_ok (me_var 1) (ma_cons (me_mod (me_callTy call_int1 intF_ok rfl T.z_int (by decide +kernel) (ma_cons (me_fdiv (me_var 2) me_int) ma_nil)) me_int) ma_nil))))))
    (mss_cons (ms_expr (me_bm0 PySem.F.plainAttrs_list PySem.F.slot_list_reverse PySem.F.type_list_reverse mt_reverse reverseF_ok (me_var 1)))
    (mss_one (ms_ret (me_var 1))))))))
theorem sc__law_pick : FnScope ["_law_deck_here", "_law_many"] (par ._law_pick) (defScope s33) := ⟨rfl, rfl, rfl, by decide +kernel, rfl, by decide +kernel, by decide +kernel⟩
theorem nd0__law_pick : (["_law_deck_here", "_law_many"] : List Str).Nodup := by decide +kernel
theorem ok__law_pick {k : Nat} {F : Fn → List D → Sto → Option (D × Sto)} (T : Txt K w g) (AH : ∀ base, (∀ p ∈ T.cs, LamX.TabB base g p.1 p.2) → All P T base k F) (hTB : ∀ p ∈ T.cs, LamX.TabB base g p.1 p.2) :
    FnOk P w K g base CX0 (k + 1) (T.ad ._law_pick) (T.fd ._law_pick) (par ._law_pick) (spM ⟨K, P, w, base, T.tb⟩ (par ._law_pick).length (bodyM 2 (b__law_pick F))) := by
  refine ok_def (N := ["_law_deck_here", "_law_many"]) (T.fn ._law_pick rfl) sc__law_pick (by decide) fun cdv A outer s0 H E hr => ?_
  have nd := nd0__law_pick
  have IH := AH base hTB
  exact (mss_cons (ms_if (mt_not (mt_truth (me_var 0))) (mss_one (ms_ret me_int)) mss_nil)
    (mss_one (ms_ret (me_mod (me_callTy call_int1 intF_ok rfl T.z_int (by decide +kernel) (ma_cons (me_bm0 PySem.F.plainAttrs_list PySem.F.slot_list_pop PySem.F.type_list_pop mt_pop popF_ok (me_var 0)) ma_nil)) (me_var 1)))))
theorem sc__law_number : FnScope ["_law_deck_here"] (par ._law_number) (defScope s34) := ⟨rfl, rfl, rfl, by decide +kernel, rfl, by decide +kernel, by decide +kernel⟩
theorem nd0__law_number : (["_law_deck_here"] : List Str).Nodup := by decide +kernel
theorem ok__law_number {k : Nat} {F : Fn → List D → Sto → Option (D × Sto)} (T : Txt K w g) (AH : ∀ base, (∀ p ∈ T.cs, LamX.TabB base g p.1 p.2) → All P T base k F) (hTB : ∀ p ∈ T.cs, LamX.TabB base g p.1 p.2) :
    FnOk P w K g base CX0 (k + 1) (T.ad ._law_number) (T.fd ._law_number) (par ._law_number) (spM ⟨K, P, w, base, T.tb⟩ (par ._law_number).length (bodyM 1 (b__law_number F))) := by
  refine ok_def (N := ["_law_deck_here"]) (T.fn ._law_number rfl) sc__law_number (by decide) fun cdv A outer s0 H E hr => ?_
  have nd := nd0__law_number
  have IH := AH base hTB
  exact (mss_cons (ms_if (mt_cmp (or_eq hr.units) eqF_ok (me_call (IH.f ._law_pick rfl) hr rfl (T.mg ._law_pick rfl) (T.fn ._law_pick rfl).kp (T.bd ._law_pick rfl) (ma_cons (me_var 0) (ma_cons me_int ma_nil))) me_int (nomark _)) (mss_one (ms_ret (me_sub me_int (me_call (IH.f ._law_pick rfl) hr rfl (T.mg ._law_pick rfl) (T.fn ._law_pick rfl).kp (T.bd ._law_pick rfl) (ma_cons (me_var 0) (ma_cons me_int ma_nil)))))) mss_nil)
    (mss_one (ms_ret (me_call (IH.f ._law_pick rfl) hr rfl (T.mg ._law_pick rfl) (T.fn ._law_pick rfl).kp (T.bd ._law_pick rfl) (ma_cons (me_var 0) (ma_cons me_int ma_nil))))))
end
end Gn
set_option maxHeartbeats 4000000 -- wide
namespace Gn
open L2 PyProof.Rows PySem PySem.Spec Ml
section
variable {P : Program} {w : World} {K : PySem.W.Frag} {g : Str → Option Value} {base : Heap}
theorem sc__law_word : FnScope ["_law_deck_here"] (par ._law_word) (defScope s35) := ⟨rfl, rfl, rfl, by decide +kernel, rfl, by decide +kernel, by decide +kernel⟩
theorem nd0__law_word : (["_law_deck_here"] : List Str).Nodup := by decide +kernel
theorem ok__law_word {k : Nat} {F : Fn → List D → Sto → Option (D × Sto)} (T : Txt K w g) (AH : ∀ base, (∀ p ∈ T.cs, LamX.TabB base g p.1 p.2) → All P T base k F) (hTB : ∀ p ∈ T.cs, LamX.TabB base g p.1 p.2) :
    FnOk P w K g base CX0 (k + 1) (T.ad ._law_word) (T.fd ._law_word) (par ._law_word) (spM ⟨K, P, w, base, T.tb⟩ (par ._law_word).length (bodyM 1 (b__law_word F))) := by
  refine ok_def (N := ["_law_deck_here"]) (T.fn ._law_word rfl) sc__law_word (by decide) fun cdv A outer s0 H E hr => ?_
  have nd := nd0__law_word
  have IH := AH base hTB
  exact (mss_one (ms_ret (me_ix (me_lst (ma_cons me_str (ma_cons me_str (ma_cons me_str (ma_cons me_str (ma_cons me_str ma_nil)))))) (me_call (IH.f ._law_pick rfl) hr rfl (T.mg ._law_pick rfl) (T.fn ._law_pick rfl).kp (T.bd ._law_pick rfl) (ma_cons (me_var 0) (ma_cons me_int ma_nil))))))
theorem sc__law_part : FnScope ["_law_deck_here", "_law_text", "_law_cols", "_law_u", "_law_c"] (par ._law_part) (defScope s36) := ⟨rfl, rfl, rfl, by decide +kernel, rfl, by decide +kernel, by decide +kernel⟩
theorem nd0__law_part : (["_law_deck_here", "_law_text", "_law_cols", "_law_u", "_law_c"] : List Str).Nodup := by decide +kernel
theorem ok__law_part {k : Nat} {F : Fn → List D → Sto → Option (D × Sto)} (T : Txt K w g) (AH : ∀ base, (∀ p ∈ T.cs, LamX.TabB base g p.1 p.2) → All P T base k F) (hTB : ∀ p ∈ T.cs, LamX.TabB base g p.1 p.2) :
    FnOk P w K g base CX0 (k + 1) (T.ad ._law_part) (T.fd ._law_part) (par ._law_part) (spM ⟨K, P, w, base, T.tb⟩ (par ._law_part).length (bodyM 5 (b__law_part F))) := by
  refine ok_def (N := ["_law_deck_here", "_law_text", "_law_cols", "_law_u", "_law_c"]) (T.fn ._law_part rfl) sc__law_part (by decide) fun cdv A outer s0 H E hr => ?_
  have nd := nd0__law_part
  have IH := AH base hTB
  exact (mss_cons (ms_if (mt_cmp (or_eq hr.units) eqF_ok (me_call (IH.f ._law_pick rfl) hr rfl (T.mg ._law_pick rfl) (T.fn ._law_pick rfl).kp (T.bd ._law_pick rfl) (ma_cons (me_var 0) (ma_cons me_int ma_nil))) me_int (nomark _)) (mss_cons (ms_if (mt_truth (me_var 1)) (mss_one (ms_ret (me_tup (ma_cons me_str (ma_cons (me_call (IH.f ._law_word rfl) hr rfl (T.mg ._law_word rfl) (T.fn ._law_word rfl).kp (T.bd ._law_word rfl) (ma_cons (me_var 0) ma_nil)) ma_nil))))) mss_nil)
    (mss_one (ms_ret (me_tup (ma_cons me_str (ma_cons (me_call (IH.f ._law_number rfl) hr rfl (T.mg ._law_number rfl) (T.fn ._law_number rfl).kp (T.bd ._law_number rfl) (ma_cons (me_var 0) ma_nil)) ma_nil)))))) mss_nil)
    (mss_cons (ms_set 3 nd rfl (.inl rfl) (me_call (IH.f ._law_pick rfl) hr rfl (T.mg ._law_pick rfl) (T.fn ._law_pick rfl).kp (T.bd ._law_pick rfl) (ma_cons (me_var 0) (ma_cons me_int ma_nil))))
    (mss_cons (ms_set 4 nd rfl (.inl rfl) (me_if (mt_truth (me_var 1)) me_int (me_call (IH.f ._law_pick rfl) hr rfl (T.mg ._law_pick rfl) (T.fn ._law_pick rfl).kp (T.bd ._law_pick rfl) (ma_cons (me_var 0) (ma_cons me_int ma_nil)))))
    (mss_cons (ms_expr (me_bm PySem.F.plainAttrs_list PySem.F.slot_list_append PySem.F.type_list_append mt_append appendF_ok (me_var 2) (ma_cons (me_tup (ma_cons (me_var 3) (ma_cons (me_var 4) ma_nil))) ma_nil)))
    (mss_one (ms_ret (me_tup (ma_cons me_str (ma_cons (me_var 3) (ma_cons (me_var 4) ma_nil))))))))))
theorem sc__law_expr : FnScope ["_law_deck_here", "_law_text", "_law_cols", "_law_term", "_law_turn", "_law_way"] (par ._law_expr) (defScope s37) := ⟨rfl, rfl, rfl, by decide +kernel, rfl, by decide +kernel, by decide +kernel⟩
theorem nd0__law_expr : (["_law_deck_here", "_law_text", "_law_cols", "_law_term", "_law_turn", "_law_way"] : List Str).Nodup := by decide +kernel
theorem ok__law_expr {k : Nat} {F : Fn → List D → Sto → Option (D × Sto)} (T : Txt K w g) (AH : ∀ base, (∀ p ∈ T.cs, LamX.TabB base g p.1 p.2) → All P T base k F) (hTB : ∀ p ∈ T.cs, LamX.TabB base g p.1 p.2) :
    FnOk P w K g base CX0 (k + 1) (T.ad ._law_expr) (T.fd ._law_expr) (par ._law_expr) (spM ⟨K, P, w, base, T.tb⟩ (par ._law_expr).length (bodyM 6 (b__law_expr F))) := by
  refine ok_def (N := ["_law_deck_here", "_law_text", "_law_cols", "_law_term", "_law_turn", "_law_way"]) (T.fn ._law_expr rfl) sc__law_expr (by decide) fun cdv A outer s0 H E hr => ?_
  have nd := nd0__law_expr
  have IH := AH base hTB
  exact (mss_cons (ms_set 3 nd rfl (.inl rfl) (me_call (IH.f ._law_part rfl) hr rfl (T.mg ._law_part rfl) (T.fn ._law_part rfl).kp (T.bd ._law_part rfl) (ma_cons (me_var 0) (ma_cons (me_var 1) (ma_cons (me_var 2) ma_nil)))))
    (mss_cons (ms_if (mt_truth (me_var 1)) (mss_one (ms_ret (me_var 3))) mss_nil)
    (mss_cons (ms_for PassesOwn.never rfl (mi_rng1 rfl T.z_range (ma_cons (me_ix (me_lst (ma_cons me_int (ma_cons me_int (ma_cons me_int (ma_cons me_int (ma_cons me_int (ma_cons me_int (ma_cons me_int ma_nil)))))))) (me_call (IH.f ._law_pick rfl) hr rfl (T.mg ._law_pick rfl) (T.fn ._law_pick rfl).kp (T.bd ._law_pick rfl) (ma_cons (me_var 0) (ma_cons me_int ma_nil)))) ma_nil)) (mg_name 4 nd rfl (.inl rfl)) (mss_cons (ms_set 5 nd rfl (.inl rfl) (me_call (IH.f ._law_pick rfl) hr rfl (T.mg ._law_pick rfl) (T.fn ._law_pick rfl).kp (T.bd ._law_pick rfl) (ma_cons (me_var 0) (ma_cons me_int ma_nil))))
    (mss_one (ms_if (mt_cmp (or_eq hr.units) eqF_ok (me_var 5) me_int (nomark _)) (mss_one (ms_set 3 nd rfl (.inl rfl) (me_tup (ma_cons me_str (ma_cons (me_var 3) ma_nil))))) (mss_one (ms_if (mt_cmp (or_eq hr.units) eqF_ok (me_var 5) me_int (nomark _)) (mss_one (ms_set 3 nd rfl (.inl rfl) (me_tup (ma_cons me_str (ma_cons (me_call (IH.f ._law_part rfl) hr rfl (T.mg ._law_part rfl) (T.fn ._law_part rfl).kp (T.bd ._law_part rfl) (ma_cons (me_var 0) (ma_cons me_bl (ma_cons (me_var 2) ma_nil)))) (ma_cons (me_var 3) ma_nil)))))) (mss_one (ms_set 3 nd rfl (.inl rfl) (me_tup (ma_cons (me_ix (me_lst (ma_cons me_str (ma_cons me_str (ma_cons me_str ma_nil)))) (me_var 5)) (ma_cons (me_var 3) (ma_cons (me_call (IH.f ._law_part rfl) hr rfl (T.mg ._law_part rfl) (T.fn ._law_part rfl).kp (T.bd ._law_part rfl) (ma_cons (me_var 0) (ma_cons me_bl (ma_cons (me_var 2) ma_nil)))) ma_nil))))))))))))
    (mss_one (ms_ret (me_var 3))))))
theorem sc__law_leaf : FnScope ["_law_deck_here", "_law_cols", "_law_text", "_law_one", "_law_other"] (par ._law_leaf) (defScope s38) := ⟨rfl, rfl, rfl, by decide +kernel, rfl, by decide +kernel, by decide +kernel⟩
theorem nd0__law_leaf : (["_law_deck_here", "_law_cols", "_law_text", "_law_one", "_law_other"] : List Str).Nodup := by decide +kernel
theorem ok__law_leaf {k : Nat} {F : Fn → List D → Sto → Option (D × Sto)} (T : Txt K w g) (AH : ∀ base, (∀ p ∈ T.cs, LamX.TabB base g p.1 p.2) → All P T base k F) (hTB : ∀ p ∈ T.cs, LamX.TabB base g p.1 p.2) :
    FnOk P w K g base CX0 (k + 1) (T.ad ._law_leaf) (T.fd ._law_leaf) (par ._law_leaf) (spM ⟨K, P, w, base, T.tb⟩ (par ._law_leaf).length (bodyM 5 (b__law_leaf F))) := by
  refine ok_def (N := ["_law_deck_here", "_law_cols", "_law_text", "_law_one", "_law_other"]) (T.fn ._law_leaf rfl) sc__law_leaf (by decide) fun cdv A outer s0 H E hr => ?_
  have nd := nd0__law_leaf
  have IH := AH base hTB
  exact (mss_cons (ms_set 1 nd rfl (.inl rfl) (me_lst ma_nil))
    (mss_cons (ms_set 2 nd rfl (.inl rfl) (me_cmp (or_eq hr.units) eqF_ok (me_call (IH.f ._law_pick rfl) hr rfl (T.mg ._law_pick rfl) (T.fn ._law_pick rfl).kp (T.bd ._law_pick rfl) (ma_cons (me_var 0) (ma_cons me_int ma_nil))) me_int (nomark _)))
    (mss_cons (ms_if (mt_cmp (or_eq hr.units) eqF_ok (me_call (IH.f ._law_pick rfl) hr rfl (T.mg ._law_pick rfl) (T.fn ._law_pick rfl).kp (T.bd ._law_pick rfl) (ma_cons (me_var 0) (ma_cons me_int ma_nil))) me_int (nomark _)) (mss_one (ms_ret (me_tup (ma_cons (me_tup (ma_cons me_str (ma_cons (me_call (IH.f ._law_expr rfl) hr rfl (T.mg ._law_expr rfl) (T.fn ._law_expr rfl).kp (T.bd ._law_expr rfl) (ma_cons (me_var 0) (ma_cons (me_var 2) (ma_cons (me_var 1) ma_nil)))) ma_nil))) (ma_cons (me_var 1) ma_nil))))) mss_nil)
    (mss_cons (ms_set 3 nd rfl (.inl rfl) (me_call (IH.f ._law_expr rfl) hr rfl (T.mg ._law_expr rfl) (T.fn ._law_expr rfl).kp (T.bd ._law_expr rfl) (ma_cons (me_var 0) (ma_cons (me_var 2) (ma_cons (me_var 1) ma_nil)))))
    (mss_cons (ms_set 4 nd rfl (.inl rfl) (me_call (IH.f ._law_expr rfl) hr rfl (T.mg ._law_expr rfl) (T.fn ._law_expr rfl).kp (T.bd ._law_expr rfl) (ma_cons (me_var 0) (ma_cons (me_var 2) (ma_cons (me_var 1) ma_nil)))))
    (mss_one (ms_ret (me_tup (ma_cons (me_tup (ma_cons me_str (ma_cons (me_ix (me_lst (ma_cons me_str (ma_cons me_str (ma_cons me_str (ma_cons me_str (ma_cons me_str (ma_cons me_str ma_nil))))))) (me_call (IH.f ._law_pick rfl) hr rfl (T.mg ._law_pick rfl) (T.fn ._law_pick rfl).kp (T.bd ._law_pick rfl) (ma_cons (me_var 0) (ma_cons me_int ma_nil)))) (ma_cons (me_var 3) (ma_cons (me_var 4) ma_nil))))) (ma_cons (me_var 1) ma_nil))))))))))
theorem sc__law_joined : FnScope ["_law_deck_here", "_law_leaves", "_law_trees", "_law_bones", "_law_turn", "_law_k", "_law_way", "_law_word_here", "_law_leaf_here"] (par ._law_joined) (defScope s39) := ⟨rfl, rfl, rfl, by decide +kernel, rfl, by decide +kernel, by decide +kernel⟩
theorem nd0__law_joined : (["_law_deck_here", "_law_leaves", "_law_trees", "_law_bones", "_law_turn", "_law_k", "_law_way", "_law_word_here", "_law_leaf_here"] : List Str).Nodup := by decide +kernel
theorem ok__law_joined {k : Nat} {F : Fn → List D → Sto → Option (D × Sto)} (T : Txt K w g) (AH : ∀ base, (∀ p ∈ T.cs, LamX.TabB base g p.1 p.2) → All P T base k F) (hTB : ∀ p ∈ T.cs, LamX.TabB base g p.1 p.2) :
    FnOk P w K g base CX0 (k + 1) (T.ad ._law_joined) (T.fd ._law_joined) (par ._law_joined) (spM ⟨K, P, w, base, T.tb⟩ (par ._law_joined).length (bodyM 9 (b__law_joined F))) := by
  refine ok_def (N := ["_law_deck_here", "_law_leaves", "_law_trees", "_law_bones", "_law_turn", "_law_k", "_law_way", "_law_word_here", "_law_leaf_here"]) (T.fn ._law_joined rfl) sc__law_joined (by decide) fun cdv A outer s0 H E hr => ?_
  have nd := nd0__law_joined
  have IH := AH base hTB
  exact (mss_cons (ms_setLc 2 (tgt := (.one 8)) (own := [("_law_leaf_here", 8)]) rfl nd rfl rfl (sw_true rfl rfl rfl (by decide +kernel)) (mi_seq (me_var 1)) (blkOk_by (own := [("_law_leaf_here", 8)]) (N := ["_law_deck_here", "_law_leaves", "_law_trees", "_law_bones", "_law_turn", "_law_k", "_law_way", "_law_word_here", "_law_leaf_here"]) (sc := defScope s39) (by decide +kernel)) rfl (fun _ _ _ _ _ => pg_name (i := 8) nd rfl (Or.inl rfl)) (fun _ _ _ _ _ => mts_nil) (fun _ _ _ _ _ => (me_ix (me_var 8) me_int)))
    (mss_cons (ms_setLc 3 (tgt := (.one 5)) (own := [("_law_k", 5)]) rfl nd rfl rfl (sw_true rfl rfl rfl (by decide +kernel)) (mi_rng1 rfl T.z_range (ma_cons (me_callB call_len lenF_ok rfl T.z_len (by decide +kernel) (ma_cons (me_var 1) ma_nil)) ma_nil)) (blkOk_by (own := [("_law_k", 5)]) (N := ["_law_deck_here", "_law_leaves", "_law_trees", "_law_bones", "_law_turn", "_law_k", "_law_way", "_law_word_here", "_law_leaf_here"]) (sc := defScope s39) (by decide +kernel)) rfl (fun _ _ _ _ _ => pg_name (i := 5) nd rfl (Or.inl rfl)) (fun _ _ _ _ _ => mts_nil) (fun _ _ _ _ _ => (me_tup (ma_cons me_str (ma_cons (me_var 5) ma_nil)))))
    (mss_cons (ms_for PassesOwn.never rfl (mi_rng1 rfl T.z_range (ma_cons (me_mul me_int (me_callB call_len lenF_ok rfl T.z_len (by decide +kernel) (ma_cons (me_var 1) ma_nil))) ma_nil)) (mg_name 4 nd rfl (.inl rfl)) (mss_cons (ms_set 5 nd rfl (.inl rfl) (me_call (IH.f ._law_pick rfl) hr rfl (T.mg ._law_pick rfl) (T.fn ._law_pick rfl).kp (T.bd ._law_pick rfl) (ma_cons (me_var 0) (ma_cons (me_callB call_len lenF_ok rfl T.z_len (by decide +kernel) (ma_cons (me_var 2) ma_nil)) ma_nil))))
    (mss_cons (ms_set 6 nd rfl (.inl rfl) (me_call (IH.f ._law_pick rfl) hr rfl (T.mg ._law_pick rfl) (T.fn ._law_pick rfl).kp (T.bd ._law_pick rfl) (ma_cons (me_var 0) (ma_cons me_int ma_nil))))
    (mss_one (ms_if (mt_cmp or_lt ltF_ok (me_var 6) me_int (nomark _)) (mss_cons (ms_set 7 nd rfl (.inl rfl) (me_ix (me_lst (ma_cons me_str (ma_cons me_str ma_nil))) (me_var 6)))
    (mss_cons (ms_asg (me_tup (ma_cons (me_var 7) (ma_cons (me_ix (me_var 2) (me_var 5)) ma_nil))) (mg_subL (me_var 2) (me_var 5)))
    (mss_one (ms_asg (me_tup (ma_cons (me_var 7) (ma_cons (me_ix (me_var 3) (me_var 5)) ma_nil))) (mg_subL (me_var 3) (me_var 5)))))) (mss_one (ms_if (mt_cmp or_gt gtF_ok (me_callB call_len lenF_ok rfl T.z_len (by decide +kernel) (ma_cons (me_var 2) ma_nil)) me_int (nomark _)) (mss_cons (ms_set 5 nd rfl (.inl rfl) (me_callB (call_min2 rfl) minF_ok rfl T.z_min (by decide +kernel) (ma_cons (me_var 5) (ma_cons (me_sub (me_callB call_len lenF_ok rfl T.z_len (by decide +kernel) (ma_cons (me_var 2) ma_nil)) me_int) ma_nil))))
    (mss_cons (ms_set 7 nd rfl (.inl rfl) (me_ix (me_lst (ma_cons me_str (ma_cons me_str ma_nil))) (me_sub (me_var 6) me_int)))
    (mss_cons (ms_asg (me_tup (ma_cons (me_var 7) (ma_cons (me_ix (me_var 2) (me_var 5)) (ma_cons (me_ix (me_var 2) (me_add (me_var 5) me_int)) ma_nil)))) (mg_subL (me_var 2) (me_var 5)))
    (mss_cons (ms_asg (me_tup (ma_cons (me_var 7) (ma_cons (me_ix (me_var 3) (me_var 5)) (ma_cons (me_ix (me_var 3) (me_add (me_var 5) me_int)) ma_nil)))) (mg_subL (me_var 3) (me_var 5)))
    (mss_cons (ms_set 2 nd rfl (.inl rfl) (me_add (me_slice (me_var 2) mo_none (mo_some (me_add (me_var 5) me_int))) (me_slice (me_var 2) (mo_some (me_add (me_var 5) me_int)) mo_none)))
    (mss_one (ms_set 3 nd rfl (.inl rfl) (me_add (me_slice (me_var 3) mo_none (mo_some (me_add (me_var 5) me_int))) (me_slice (me_var 3) (mo_some (me_add (me_var 5) me_int)) mo_none))))))))) mss_nil)))))))
    (mss_cons (ms_while PassesOwn.never (mt_cmp or_gt gtF_ok (me_callB call_len lenF_ok rfl T.z_len (by decide +kernel) (ma_cons (me_var 2) ma_nil)) me_int (nomark _)) (mss_cons (ms_set 2 nd rfl (.inl rfl) (me_add (me_lst (ma_cons (me_tup (ma_cons me_str (ma_cons (me_ix (me_var 2) me_int) (ma_cons (me_ix (me_var 2) me_int) ma_nil)))) ma_nil)) (me_slice (me_var 2) (mo_some me_int) mo_none)))
    (mss_one (ms_set 3 nd rfl (.inl rfl) (me_add (me_lst (ma_cons (me_tup (ma_cons me_str (ma_cons (me_ix (me_var 3) me_int) (ma_cons (me_ix (me_var 3) me_int) ma_nil)))) ma_nil)) (me_slice (me_var 3) (mo_some me_int) mo_none))))))
    (mss_one (ms_ret (me_tup (ma_cons (me_ix (me_var 2) me_int) (ma_cons (me_ix (me_var 3) me_int) ma_nil)))))))))
theorem sc__law_level : FnScope ["_law_bone", "_law_levels", "_law_one", "_law_other"] (par ._law_level) (defScope s40) := ⟨rfl, rfl, rfl, by decide +kernel, rfl, by decide +kernel, by decide +kernel⟩
theorem nd0__law_level : (["_law_bone", "_law_levels", "_law_one", "_law_other"] : List Str).Nodup := by decide +kernel
theorem ok__law_level {k : Nat} {F : Fn → List D → Sto → Option (D × Sto)} (T : Txt K w g) (AH : ∀ base, (∀ p ∈ T.cs, LamX.TabB base g p.1 p.2) → All P T base k F) (hTB : ∀ p ∈ T.cs, LamX.TabB base g p.1 p.2) :
    FnOk P w K g base CX0 (k + 1) (T.ad ._law_level) (T.fd ._law_level) (par ._law_level) (spM ⟨K, P, w, base, T.tb⟩ (par ._law_level).length (bodyM 4 (b__law_level F))) := by
  refine ok_def (N := ["_law_bone", "_law_levels", "_law_one", "_law_other"]) (T.fn ._law_level rfl) sc__law_level (by decide) fun cdv A outer s0 H E hr => ?_
  have nd := nd0__law_level
  have IH := AH base hTB
  exact (mss_cons (ms_if (mt_cmp (or_eq hr.units) eqF_ok (me_ix (me_var 0) me_int) me_str (nomark _)) (mss_one (ms_ret (me_ix (me_var 1) (me_ix (me_var 0) me_int)))) mss_nil)
    (mss_cons (ms_set 2 nd rfl (.inl rfl) (me_call (IH.f ._law_level rfl) hr rfl (T.mg ._law_level rfl) (T.fn ._law_level rfl).kp (T.bd ._law_level rfl) (ma_cons (me_ix (me_var 0) me_int) (ma_cons (me_var 1) ma_nil))))
    (mss_cons (ms_if (mt_cmp (or_eq hr.units) eqF_ok (me_ix (me_var 0) me_int) me_str (nomark _)) (mss_one (ms_ret (me_sub me_int (me_var 2)))) mss_nil)
    (mss_cons (ms_if (mt_cmp (or_eq hr.units) eqF_ok (me_ix (me_var 0) me_int) me_str (nomark _)) (mss_one (ms_ret (me_mul me_int (me_callTy call_int1 intF_ok rfl T.z_int (by decide +kernel) (ma_cons (me_cmp or_gt gtF_ok (me_var 2) me_int (nomark _)) ma_nil))))) mss_nil)
    (mss_cons (ms_set 3 nd rfl (.inl rfl) (me_call (IH.f ._law_level rfl) hr rfl (T.mg ._law_level rfl) (T.fn ._law_level rfl).kp (T.bd ._law_level rfl) (ma_cons (me_ix (me_var 0) me_int) (ma_cons (me_var 1) ma_nil))))
    (mss_one (ms_ret (me_if (mt_cmp (or_eq hr.units) eqF_ok (me_ix (me_var 0) me_int) me_str (nomark _)) (me_callB (call_min2 rfl) minF_ok rfl T.z_min (by decide +kernel) (ma_cons (me_var 2) (ma_cons (me_var 3) ma_nil))) (me_callB (call_max2 rfl) maxF_ok rfl T.z_max (by decide +kernel) (ma_cons (me_var 2) (ma_cons (me_var 3) ma_nil)))))))))))
end
end Gn
set_option maxHeartbeats 4000000 -- wide
namespace Gn
open L2 PyProof.Rows PySem PySem.Spec Ml
section
variable {P : Program} {w : World} {K : PySem.W.Frag} {g : Str → Option Value} {base : Heap}
theorem sc__law_told : FnScope ["_law_leaves", "_law_bone", "_law_which", "_law_ways", "_law_leaf_here", "_law_hit", "_law_total", "_law_way", "_law_seen", "_law_code", "_law_rest", "_law_levels", "_law_col"] (par ._law_told) (defScope s41) := ⟨rfl, rfl, rfl, by decide +kernel, rfl, by decide +kernel, by decide +kernel⟩
theorem nd0__law_told : (["_law_leaves", "_law_bone", "_law_which", "_law_ways", "_law_leaf_here", "_law_hit", "_law_total", "_law_way", "_law_seen", "_law_code", "_law_rest", "_law_levels", "_law_col"] : List Str).Nodup := by decide +kernel
theorem ok__law_told {k : Nat} {F : Fn → List D → Sto → Option (D × Sto)} (T : Txt K w g) (AH : ∀ base, (∀ p ∈ T.cs, LamX.TabB base g p.1 p.2) → All P T base k F) (hTB : ∀ p ∈ T.cs, LamX.TabB base g p.1 p.2) :
    FnOk P w K g base CX0 (k + 1) (T.ad ._law_told) (T.fd ._law_told) (par ._law_told) (spM ⟨K, P, w, base, T.tb⟩ (par ._law_told).length (bodyM 13 (b__law_told F))) := by
  refine ok_def (N := ["_law_leaves", "_law_bone", "_law_which", "_law_ways", "_law_leaf_here", "_law_hit", "_law_total", "_law_way", "_law_seen", "_law_code", "_law_rest", "_law_levels", "_law_col"]) (T.fn ._law_told rfl) sc__law_told (by decide) fun cdv A outer s0 H E hr => ?_
  have nd := nd0__law_told
  have IH := AH base hTB
  exact (mss_cons (ms_set 3 nd rfl (.inl rfl) (me_lst ma_nil))
    (mss_cons (ms_for PassesOwn.never rfl (mi_seq (me_var 0)) (mg_name 4 nd rfl (.inl rfl)) (mss_cons (ms_set 5 nd rfl (.inl rfl) (me_cmp or_gt gtF_ok (me_callB call_len lenF_ok rfl T.z_len (by decide +kernel) (ma_cons (me_lc (tgt := (.one 12)) (own := [("_law_col", 12)]) rfl nd (mi_seq (me_ix (me_var 4) me_int)) (blkOk_by (own := [("_law_col", 12)]) (N := ["_law_leaves", "_law_bone", "_law_which", "_law_ways", "_law_leaf_here", "_law_hit", "_law_total", "_law_way", "_law_seen", "_law_code", "_law_rest", "_law_levels", "_law_col"]) (sc := defScope s41) (by decide +kernel)) rfl (fun _ _ _ _ _ => pg_name (i := 12) nd rfl (Or.inl rfl)) (fun _ _ _ _ _ => mts_one (mt_cmp (or_eq hr.units) eqF_ok (me_ix (me_var 12) me_int) (me_var 2) (nomark _))) (fun _ _ _ _ _ => (me_var 12))) ma_nil)) me_int (nomark _)))
    (mss_one (ms_if (mt_cmp (or_eq hr.units) eqF_ok (me_ix (me_ix (me_var 4) me_int) me_int) me_str (nomark _)) (mss_one (ms_expr (me_bm PySem.F.plainAttrs_list PySem.F.slot_list_append PySem.F.type_list_append mt_append appendF_ok (me_var 3) (ma_cons (me_if (mt_truth (me_var 5)) (me_lst (ma_cons me_int ma_nil)) (me_lst (ma_cons me_int (ma_cons me_int ma_nil)))) ma_nil)))) (mss_one (ms_expr (me_bm PySem.F.plainAttrs_list PySem.F.slot_list_append PySem.F.type_list_append mt_append appendF_ok (me_var 3) (ma_cons (me_if (mt_truth (me_var 5)) (me_lst (ma_cons me_int ma_nil)) (me_lst (ma_cons me_int (ma_cons me_int (ma_cons me_int ma_nil))))) ma_nil))))))))
    (mss_cons (ms_set 6 nd rfl (.inl rfl) me_int)
    (mss_cons (ms_for PassesOwn.never rfl (mi_seq (me_var 3)) (mg_name 7 nd rfl (.inl rfl)) (mss_one (ms_set 6 nd rfl (.inl rfl) (me_mul (me_var 6) (me_callB call_len lenF_ok rfl T.z_len (by decide +kernel) (ma_cons (me_var 7) ma_nil))))))
    (mss_cons (ms_set 8 nd rfl (.inl rfl) (me_lst (ma_cons me_bl (ma_cons me_bl (ma_cons me_bl ma_nil)))))
    (mss_cons (ms_for PassesOwn.never rfl (mi_rng1 rfl T.z_range (ma_cons (me_var 6) ma_nil)) (mg_name 9 nd rfl (.inl rfl)) (mss_cons (ms_set 10 nd rfl (.inl rfl) (me_var 9))
    (mss_cons (ms_set 11 nd rfl (.inl rfl) (me_lst ma_nil))
    (mss_cons (ms_for PassesOwn.never rfl (mi_seq (me_var 3)) (mg_name 7 nd rfl (.inl rfl)) (mss_cons (ms_expr (me_bm PySem.F.plainAttrs_list PySem.F.slot_list_append PySem.F.type_list_append mt_append appendF_ok (me_var 11) (ma_cons (me_ix (me_var 7) (me_mod (me_var 10) (me_callB call_len lenF_ok rfl T.z_len (by decide +kernel) (ma_cons (me_var 7) ma_nil)))) ma_nil)))
    (mss_one (ms_set 10 nd rfl (.inl rfl) (me_fdiv (me_var 10) (me_callB call_len lenF_ok rfl T.z_len (by decide +kernel) (ma_cons (me_var 7) ma_nil)))))))
    (mss_one (ms_asg me_bl (mg_subL (me_var 8) (me_call (IH.f ._law_level rfl) hr rfl (T.mg ._law_level rfl) (T.fn ._law_level rfl).kp (T.bd ._law_level rfl) (ma_cons (me_var 1) (ma_cons (me_var 11) ma_nil))))))))))
    (mss_one (ms_ret (me_lst (ma_cons (me_ix (me_var 8) me_int) (ma_cons (me_ix (me_var 8) me_int) (ma_cons (me_ix (me_var 8) me_int) ma_nil))))))))))))
theorem sc__law_value : FnScope ["_law_term", "_law_cells", "_law_one", "_law_other"] (par ._law_value) (defScope s42) := ⟨rfl, rfl, rfl, by decide +kernel, rfl, by decide +kernel, by decide +kernel⟩
theorem nd0__law_value : (["_law_term", "_law_cells", "_law_one", "_law_other"] : List Str).Nodup := by decide +kernel
theorem ok__law_value {k : Nat} {F : Fn → List D → Sto → Option (D × Sto)} (T : Txt K w g) (AH : ∀ base, (∀ p ∈ T.cs, LamX.TabB base g p.1 p.2) → All P T base k F) (hTB : ∀ p ∈ T.cs, LamX.TabB base g p.1 p.2) :
    FnOk P w K g base CX0 (k + 1) (T.ad ._law_value) (T.fd ._law_value) (par ._law_value) (spM ⟨K, P, w, base, T.tb⟩ (par ._law_value).length (bodyM 4 (b__law_value F))) := by
  refine ok_def (N := ["_law_term", "_law_cells", "_law_one", "_law_other"]) (T.fn ._law_value rfl) sc__law_value (by decide) fun cdv A outer s0 H E hr => ?_
  have nd := nd0__law_value
  have IH := AH base hTB
  exact (mss_cons (ms_if (PW.pt (mw_or (mt_cmp (or_eq hr.units) eqF_ok (me_ix (me_var 0) me_int) me_str (nomark _)) (mw_or1 (mt_cmp (or_eq hr.units) eqF_ok (me_ix (me_var 0) me_int) me_str (nomark _))))) (mss_one (ms_ret (me_ix (me_var 0) me_int))) mss_nil)
    (mss_cons (ms_if (mt_cmp (or_eq hr.units) eqF_ok (me_ix (me_var 0) me_int) me_str (nomark _)) (mss_one (ms_ret (me_get (hu1 hr) (me_var 1) (me_tup (ma_cons (me_ix (me_var 0) me_int) (ma_cons (me_ix (me_var 0) me_int) ma_nil)))))) mss_nil)
    (mss_cons (ms_set 2 nd rfl (.inl rfl) (me_call (IH.f ._law_value rfl) hr rfl (T.mg ._law_value rfl) (T.fn ._law_value rfl).kp (T.bd ._law_value rfl) (ma_cons (me_ix (me_var 0) me_int) (ma_cons (me_var 1) ma_nil))))
    (mss_cons (ms_set 3 nd rfl (.inl rfl) (me_if (mt_cmp (or_eq hr.units) eqF_ok (me_ix (me_var 0) me_int) me_str (nomark _)) me_int (me_call (IH.f ._law_value rfl) hr rfl (T.mg ._law_value rfl) (T.fn ._law_value rfl).kp (T.bd ._law_value rfl) (ma_cons (me_ix (me_var 0) me_int) (ma_cons (me_var 1) ma_nil)))))
    (mss_cons (ms_if (PW.pt (mw_or (mt_cmp op_isN isF_ok (me_var 2) me_non (nomark _)) (mw_or1 (mt_cmp op_isN isF_ok (me_var 3) me_non (nomark _))))) (mss_one (ms_ret me_non)) mss_nil)
    (mss_cons (ms_if (PW.pt (mw_or (mt_cmp (or_eq hr.units) eqF_ok (me_ix (me_var 0) me_int) me_str (nomark _)) (mw_or1 (mt_cmp (or_eq hr.units) eqF_ok (me_ix (me_var 0) me_int) me_str (nomark _))))) (mss_one (ms_ret (me_if (mt_cmp (or_eq hr.units) eqF_ok (me_ix (me_var 0) me_int) me_str (nomark _)) (me_sub (me_var 2) (me_var 3)) (me_sub me_int (me_var 2))))) mss_nil)
    (mss_one (ms_ret (me_if (mt_cmp (or_eq hr.units) eqF_ok (me_ix (me_var 0) me_int) me_str (nomark _)) (me_add (me_var 2) (me_var 3)) (me_mul (me_var 2) (me_var 3)))))))))))
theorem sc__law_leaf_level : FnScope ["_law_leaf_here", "_law_cells", "_law_one", "_law_other", "_law_right"] (par ._law_leaf_level) (defScope s43) := ⟨rfl, rfl, rfl, by decide +kernel, rfl, by decide +kernel, by decide +kernel⟩
theorem nd0__law_leaf_level : (["_law_leaf_here", "_law_cells", "_law_one", "_law_other", "_law_right"] : List Str).Nodup := by decide +kernel
theorem ok__law_leaf_level {k : Nat} {F : Fn → List D → Sto → Option (D × Sto)} (T : Txt K w g) (AH : ∀ base, (∀ p ∈ T.cs, LamX.TabB base g p.1 p.2) → All P T base k F) (hTB : ∀ p ∈ T.cs, LamX.TabB base g p.1 p.2) :
    FnOk P w K g base CX0 (k + 1) (T.ad ._law_leaf_level) (T.fd ._law_leaf_level) (par ._law_leaf_level) (spM ⟨K, P, w, base, T.tb⟩ (par ._law_leaf_level).length (bodyM 5 (b__law_leaf_level F))) := by
  refine ok_def (N := ["_law_leaf_here", "_law_cells", "_law_one", "_law_other", "_law_right"]) (T.fn ._law_leaf_level rfl) sc__law_leaf_level (by decide) fun cdv A outer s0 H E hr => ?_
  have nd := nd0__law_leaf_level
  have IH := AH base hTB
  exact (mss_cons (ms_if (mt_cmp (or_eq hr.units) eqF_ok (me_ix (me_var 0) me_int) me_str (nomark _)) (mss_one (ms_ret (me_mul me_int (me_callTy call_int1 intF_ok rfl T.z_int (by decide +kernel) (ma_cons (me_cmp op_isN isF_ok (me_call (IH.f ._law_value rfl) hr rfl (T.mg ._law_value rfl) (T.fn ._law_value rfl).kp (T.bd ._law_value rfl) (ma_cons (me_ix (me_var 0) me_int) (ma_cons (me_var 1) ma_nil))) me_non (nomark _)) ma_nil))))) mss_nil)
    (mss_cons (ms_set 2 nd rfl (.inl rfl) (me_call (IH.f ._law_value rfl) hr rfl (T.mg ._law_value rfl) (T.fn ._law_value rfl).kp (T.bd ._law_value rfl) (ma_cons (me_ix (me_var 0) me_int) (ma_cons (me_var 1) ma_nil))))
    (mss_cons (ms_set 3 nd rfl (.inl rfl) (me_call (IH.f ._law_value rfl) hr rfl (T.mg ._law_value rfl) (T.fn ._law_value rfl).kp (T.bd ._law_value rfl) (ma_cons (me_ix (me_var 0) me_int) (ma_cons (me_var 1) ma_nil))))
    (mss_cons (ms_if (PW.pt (mw_or (mt_cmp op_isN isF_ok (me_var 2) me_non (nomark _)) (mw_or1 (mt_cmp op_isN isF_ok (me_var 3) me_non (nomark _))))) (mss_one (ms_ret me_int)) mss_nil)
    (mss_cons (ms_set 4 nd rfl (.inl rfl) (me_disp (.cons (me_cmp (or_eq hr.units) eqF_ok (me_var 2) (me_var 3) (nomark _)) (.cons (me_cmp (or_ne hr.units) neF_ok (me_var 2) (me_var 3) (nomark _)) (.cons (me_cmp or_lt ltF_ok (me_var 2) (me_var 3) (nomark _)) (.cons (me_cmp or_gt gtF_ok (me_var 2) (me_var 3) (nomark _)) (.cons (me_not (me_cmp or_gt gtF_ok (me_var 2) (me_var 3) (nomark _))) (.cons (me_not (me_cmp or_lt ltF_ok (me_var 2) (me_var 3) (nomark _))) .nil))))))))
    (mss_one (ms_ret (me_mul me_int (me_callTy call_int1 intF_ok rfl T.z_int (by decide +kernel) (ma_cons (me_getL (hu1b hr) (me_var 4) (me_ix (me_var 0) me_int)) ma_nil))))))))))
theorem sc__law_marked : FnScope ["_law_thing"] (par ._law_marked) (defScope s44) := ⟨rfl, rfl, rfl, by decide +kernel, rfl, by decide +kernel, by decide +kernel⟩
theorem nd0__law_marked : (["_law_thing"] : List Str).Nodup := by decide +kernel
theorem ok__law_marked {k : Nat} {F : Fn → List D → Sto → Option (D × Sto)} (T : Txt K w g) (AH : ∀ base, (∀ p ∈ T.cs, LamX.TabB base g p.1 p.2) → All P T base k F) (hTB : ∀ p ∈ T.cs, LamX.TabB base g p.1 p.2) :
    FnOk P w K g base CX0 (k + 1) (T.ad ._law_marked) (T.fd ._law_marked) (par ._law_marked) (spM ⟨K, P, w, base, T.tb⟩ (par ._law_marked).length (bodyM 1 (b__law_marked F))) := by
  refine ok_def (N := ["_law_thing"]) (T.fn ._law_marked rfl) sc__law_marked (by decide) fun cdv A outer s0 H E hr => ?_
  have nd := nd0__law_marked
  have IH := AH base hTB
  exact (mss_cons (ms_if (mt_cmp (or_eq hr.units) eqF_ok (me_ix (me_var 0) me_int) me_str (nomark _)) (mss_one (ms_ret (me_if (mt_cmp (or_eq hr.units) eqF_ok (me_ix (me_var 0) me_int) me_int (nomark _)) (me_tup (ma_cons me_str (ma_cons (me_ix (me_var 0) me_int) ma_nil))) (me_tup (ma_cons me_str (ma_cons (me_add (me_mul me_int (me_ix (me_var 0) me_int)) (me_mul me_int (me_ix (me_var 0) me_int))) ma_nil)))))) mss_nil)
    (mss_cons (ms_if (mt_cmp (or_eq hr.units) eqF_ok (me_ix (me_var 0) me_int) me_str (nomark _)) (mss_one (ms_ret (me_tup (ma_cons me_str (ma_cons (me_ix (me_var 0) me_int) (ma_cons (me_call (IH.f ._law_marked rfl) hr rfl (T.mg ._law_marked rfl) (T.fn ._law_marked rfl).kp (T.bd ._law_marked rfl) (ma_cons (me_ix (me_var 0) me_int) ma_nil)) (ma_cons (me_call (IH.f ._law_marked rfl) hr rfl (T.mg ._law_marked rfl) (T.fn ._law_marked rfl).kp (T.bd ._law_marked rfl) (ma_cons (me_ix (me_var 0) me_int) ma_nil)) ma_nil))))))) mss_nil)
    (mss_cons (ms_if (PW.pt (mw_or (mt_cmp (or_eq hr.units) eqF_ok (me_ix (me_var 0) me_int) me_str (nomark _)) (mw_or1 (mt_cmp (or_eq hr.units) eqF_ok (me_ix (me_var 0) me_int) me_str (nomark _))))) (mss_one (ms_ret (me_var 0))) mss_nil)
    (mss_cons (ms_if (mt_cmp (or_eq hr.units) eqF_ok (me_callB call_len lenF_ok rfl T.z_len (by decide +kernel) (ma_cons (me_var 0) ma_nil)) me_int (nomark _)) (mss_one (ms_ret (me_tup (ma_cons (me_ix (me_var 0) me_int) (ma_cons (me_call (IH.f ._law_marked rfl) hr rfl (T.mg ._law_marked rfl) (T.fn ._law_marked rfl).kp (T.bd ._law_marked rfl) (ma_cons (me_ix (me_var 0) me_int) ma_nil)) ma_nil))))) mss_nil)
    (mss_one (ms_ret (me_tup (ma_cons (me_ix (me_var 0) me_int) (ma_cons (me_call (IH.f ._law_marked rfl) hr rfl (T.mg ._law_marked rfl) (T.fn ._law_marked rfl).kp (T.bd ._law_marked rfl) (ma_cons (me_ix (me_var 0) me_int) ma_nil)) (ma_cons (me_call (IH.f ._law_marked rfl) hr rfl (T.mg ._law_marked rfl) (T.fn ._law_marked rfl).kp (T.bd ._law_marked rfl) (ma_cons (me_ix (me_var 0) me_int) ma_nil)) ma_nil))))))))))
theorem sc__law_same : FnScope ["_law_actual", "_law_due"] (par ._law_same) (defScope s45) := ⟨rfl, rfl, rfl, by decide +kernel, rfl, by decide +kernel, by decide +kernel⟩
theorem nd0__law_same : (["_law_actual", "_law_due"] : List Str).Nodup := by decide +kernel
theorem ok__law_same {k : Nat} {F : Fn → List D → Sto → Option (D × Sto)} (T : Txt K w g) (AH : ∀ base, (∀ p ∈ T.cs, LamX.TabB base g p.1 p.2) → All P T base k F) (hTB : ∀ p ∈ T.cs, LamX.TabB base g p.1 p.2) :
    FnOk P w K g base CX0 (k + 1) (T.ad ._law_same) (T.fd ._law_same) (par ._law_same) (spM ⟨K, P, w, base, T.tb⟩ (par ._law_same).length (bodyM 2 (b__law_same F))) := by
  refine ok_def (N := ["_law_actual", "_law_due"]) (T.fn ._law_same rfl) sc__law_same (by decide) fun cdv A outer s0 H E hr => ?_
  have nd := nd0__law_same
  have IH := AH base hTB
  exact (mss_cons (ms_if (mt_cmp op_isN isF_ok (me_var 1) me_non (nomark _)) (mss_one (ms_ret (me_cmp op_isN isF_ok (me_var 0) me_non (nomark _)))) mss_nil)
    (mss_cons (ms_if (mt_truth (me_isi rfl T.z_isinstance (by decide +kernel) (me_var 1) (pe_bltn (v := .ty "str") rfl T.z_str (by decide +kernel) rfl))) (mss_one (ms_ret (me_and (me_isi rfl T.z_isinstance (by decide +kernel) (me_var 0) (pe_bltn (v := .ty "str") rfl T.z_str (by decide +kernel) rfl)) (me_one (me_cmp (or_eq hr.units) eqF_ok (me_var 0) (me_var 1) (nomark _)))))) mss_nil)
    (mss_one (ms_ret (me_and (me_isi rfl T.z_isinstance (by decide +kernel) (me_var 0) (pe_bltn (v := .ty "int") rfl T.z_int (by decide +kernel) rfl)) (me_and (me_not (me_isi rfl T.z_isinstance (by decide +kernel) (me_var 0) (pe_bltn (v := .ty "bool") rfl T.z_bool (by decide +kernel) rfl))) (me_one (me_cmp (or_eq hr.units) eqF_ok (me_var 0) (me_var 1) (nomark _)))))))))
theorem sc__law_truth_same : FnScope ["_law_actual", "_law_due"] (par ._law_truth_same) (defScope s46) := ⟨rfl, rfl, rfl, by decide +kernel, rfl, by decide +kernel, by decide +kernel⟩
theorem nd0__law_truth_same : (["_law_actual", "_law_due"] : List Str).Nodup := by decide +kernel
theorem ok__law_truth_same {k : Nat} {F : Fn → List D → Sto → Option (D × Sto)} (T : Txt K w g) (AH : ∀ base, (∀ p ∈ T.cs, LamX.TabB base g p.1 p.2) → All P T base k F) (hTB : ∀ p ∈ T.cs, LamX.TabB base g p.1 p.2) :
    FnOk P w K g base CX0 (k + 1) (T.ad ._law_truth_same) (T.fd ._law_truth_same) (par ._law_truth_same) (spM ⟨K, P, w, base, T.tb⟩ (par ._law_truth_same).length (bodyM 2 (b__law_truth_same F))) := by
  refine ok_def (N := ["_law_actual", "_law_due"]) (T.fn ._law_truth_same rfl) sc__law_truth_same (by decide) fun cdv A outer s0 H E hr => ?_
  have nd := nd0__law_truth_same
  have IH := AH base hTB
  exact (mss_cons (ms_if (mt_cmp op_isN isF_ok (me_var 1) me_non (nomark _)) (mss_one (ms_ret (me_cmp op_isN isF_ok (me_var 0) me_non (nomark _)))) mss_nil)
    (mss_cons (ms_if (mt_truth (me_var 1)) (mss_one (ms_ret (me_cmp op_isT isPT_ok (me_var 0) me_bl (nomark _)))) mss_nil)
    (mss_one (ms_ret (me_cmp op_isT isPT_ok (me_var 0) me_bl (nomark _))))))
end
end Gn
set_option maxHeartbeats 4000000 -- wide
namespace Gn
open L2 PyProof.Rows PySem PySem.Spec Ml
section
variable {P : Program} {w : World} {K : PySem.W.Frag} {g : Str → Option Value} {base : Heap}
theorem sc__law_values : FnScope ["_law_deck_here", "_law_which", "_law_cells", "_law_u", "_law_c", "_law_value_here"] (par ._law_values) (defScope s47) := ⟨rfl, rfl, rfl, by decide +kernel, rfl, by decide +kernel, by decide +kernel⟩
theorem nd0__law_values : (["_law_deck_here", "_law_which", "_law_cells", "_law_u", "_law_c", "_law_value_here"] : List Str).Nodup := by decide +kernel
theorem ok__law_values {k : Nat} {F : Fn → List D → Sto → Option (D × Sto)} (T : Txt K w g) (AH : ∀ base, (∀ p ∈ T.cs, LamX.TabB base g p.1 p.2) → All P T base k F) (hTB : ∀ p ∈ T.cs, LamX.TabB base g p.1 p.2) :
    FnOk P w K g base CX0 (k + 1) (T.ad ._law_values) (T.fd ._law_values) (par ._law_values) (spM ⟨K, P, w, base, T.tb⟩ (par ._law_values).length (bodyM 6 (b__law_values F))) := by
  refine ok_def (N := ["_law_deck_here", "_law_which", "_law_cells", "_law_u", "_law_c", "_law_value_here"]) (T.fn ._law_values rfl) sc__law_values (by decide) fun cdv A outer s0 H E hr => ?_
  have nd := nd0__law_values
  have IH := AH base hTB
  exact (mss_cons (ms_set 2 nd rfl (.inl rfl) me_newD)
    (mss_cons (ms_for PassesOwn.never rfl (mi_rng1 rfl T.z_range (ma_cons me_int ma_nil)) (mg_name 3 nd rfl (.inl rfl)) (mss_one (ms_for PassesOwn.never rfl (mi_rng1 rfl T.z_range (ma_cons me_int ma_nil)) (mg_name 4 nd rfl (.inl rfl)) (mss_cons (ms_set 5 nd rfl (.inl rfl) (me_if (mt_cmp (or_eq hr.units) eqF_ok (me_var 4) me_int (nomark _)) (me_call (IH.f ._law_word rfl) hr rfl (T.mg ._law_word rfl) (T.fn ._law_word rfl).kp (T.bd ._law_word rfl) (ma_cons (me_var 0) ma_nil)) (me_call (IH.f ._law_number rfl) hr rfl (T.mg ._law_number rfl) (T.fn ._law_number rfl).kp (T.bd ._law_number rfl) (ma_cons (me_var 0) ma_nil))))
    (mss_cons (ms_if (PW.pt (mw_or (mt_cmp (or_eq hr.units) eqF_ok (me_var 3) (me_var 1) (nomark _)) (mw_or1 (mt_cmp (or_eq hr.units) eqF_ok (me_call (IH.f ._law_pick rfl) hr rfl (T.mg ._law_pick rfl) (T.fn ._law_pick rfl).kp (T.bd ._law_pick rfl) (ma_cons (me_var 0) (ma_cons me_int ma_nil))) me_int (nomark _))))) (mss_one (ms_set 5 nd rfl (.inl rfl) me_non)) (mss_one (ms_if (PW.pt (mw_and (mt_cmp or_lt ltF_ok (me_var 4) me_int (nomark _)) (mw_and1 (mt_cmp (or_eq hr.units) eqF_ok (me_call (IH.f ._law_pick rfl) hr rfl (T.mg ._law_pick rfl) (T.fn ._law_pick rfl).kp (T.bd ._law_pick rfl) (ma_cons (me_var 0) (ma_cons me_int ma_nil))) me_int (nomark _))))) (mss_one (ms_set 5 nd rfl (.inl rfl) (me_sub me_int (me_var 5)))) mss_nil)))
    (mss_one (ms_asg (me_var 5) (mg_subD (hu1 hr) (me_var 2) (me_tup (ma_cons (me_var 3) (ma_cons (me_var 4) ma_nil)))))))))))
    (mss_one (ms_ret (me_var 2)))))
theorem sc__law_at_values : FnScope ["_law_test", "_law_bone", "_law_leaves", "_law_cells", "_law_told_here", "_law_levels", "_law_due", "_law_marks", "_law_key", "_law_kept", "_law_sums", "_law_leaf_here", "_law_exprs", "_law_term", "_law_m"] (par ._law_at_values) (defScope s48) := ⟨rfl, rfl, rfl, by decide +kernel, rfl, by decide +kernel, by decide +kernel⟩
theorem nd0__law_at_values : (["_law_test", "_law_bone", "_law_leaves", "_law_cells", "_law_told_here", "_law_levels", "_law_due", "_law_marks", "_law_key", "_law_kept", "_law_sums", "_law_leaf_here", "_law_exprs", "_law_term", "_law_m"] : List Str).Nodup := by decide +kernel
theorem ok__law_at_values {k : Nat} {F : Fn → List D → Sto → Option (D × Sto)} (T : Txt K w g) (AH : ∀ base, (∀ p ∈ T.cs, LamX.TabB base g p.1 p.2) → All P T base k F) (hTB : ∀ p ∈ T.cs, LamX.TabB base g p.1 p.2) :
    FnOk P w K g base CX0 (k + 1) (T.ad ._law_at_values) (T.fd ._law_at_values) (par ._law_at_values) (spM ⟨K, P, w, base, T.tb⟩ (par ._law_at_values).length (bodyM 15 (b__law_at_values F))) := by
  refine ok_def (N := ["_law_test", "_law_bone", "_law_leaves", "_law_cells", "_law_told_here", "_law_levels", "_law_due", "_law_marks", "_law_key", "_law_kept", "_law_sums", "_law_leaf_here", "_law_exprs", "_law_term", "_law_m"]) (T.fn ._law_at_values rfl) sc__law_at_values (by decide) fun cdv A outer s0 H E hr => ?_
  have nd := nd0__law_at_values
  have IH := AH base hTB
  exact (mss_cons (ms_setLc 5 (tgt := (.one 11)) (own := [("_law_leaf_here", 11)]) rfl nd rfl rfl (sw_true rfl rfl rfl (by decide +kernel)) (mi_seq (me_var 2)) (blkOk_by (own := [("_law_leaf_here", 11)]) (N := ["_law_test", "_law_bone", "_law_leaves", "_law_cells", "_law_told_here", "_law_levels", "_law_due", "_law_marks", "_law_key", "_law_kept", "_law_sums", "_law_leaf_here", "_law_exprs", "_law_term", "_law_m"]) (sc := defScope s48) (by decide +kernel)) rfl (fun _ _ _ _ _ => pg_name (i := 11) nd rfl (Or.inl rfl)) (fun _ _ _ _ _ => mts_nil) (fun _ _ _ _ _ => (me_call (IH.f ._law_leaf_level rfl) hr rfl (T.mg ._law_leaf_level rfl) (T.fn ._law_leaf_level rfl).kp (T.bd ._law_leaf_level rfl) (ma_cons (me_ix (me_var 11) me_int) (ma_cons (me_var 3) ma_nil)))))
    (mss_cons (ms_set 6 nd rfl (.inl rfl) (me_call (IH.f ._law_level rfl) hr rfl (T.mg ._law_level rfl) (T.fn ._law_level rfl).kp (T.bd ._law_level rfl) (ma_cons (me_var 1) (ma_cons (me_var 5) ma_nil))))
    (mss_cons (ms_if (PW.pt (mw_and (mt_cmp op_notN notF_ok (me_var 4) me_non (nomark _)) (mw_and1 (mt_cmp op_isnotT isNT_ok (me_ix (me_var 4) (me_ix (me_lst (ma_cons me_int (ma_cons me_int (ma_cons me_int ma_nil)))) (me_var 6))) me_bl (nomark _))))) (mss_one (ms_ret me_bl)) mss_nil)
    (mss_cons (ms_set 7 nd rfl (.inr rfl) me_newK)
    (mss_cons (ms_lock 3 (ms_for PassesOwn.never rfl (mi_keys (me_var 3)) (mg_name 8 nd rfl (.inl rfl)) (mss_one (ms_if (mt_cmp or_lt ltF_ok (me_ix (me_var 8) me_int) me_int (nomark _)) (mss_one (ms_putK (hu1b hr) (me_var 7) (me_add (me_mul me_int (me_ix (me_var 8) me_int)) (me_mul me_int (me_ix (me_var 8) me_int))) (me_get (hu1 hr) (me_var 3) (me_var 8)))) mss_nil))))
    (mss_cons (ms_lockK 7 (ms_setLc 9 (tgt := (.one 14)) (own := [("_law_m", 14)]) rfl nd rfl rfl (sw_true rfl rfl rfl (by decide +kernel)) (mi_keysK (me_var 7)) (blkOk_by (own := [("_law_m", 14)]) (N := ["_law_test", "_law_bone", "_law_leaves", "_law_cells", "_law_told_here", "_law_levels", "_law_due", "_law_marks", "_law_key", "_law_kept", "_law_sums", "_law_leaf_here", "_law_exprs", "_law_term", "_law_m"]) (sc := defScope s48) (by decide +kernel)) rfl (fun _ _ _ _ _ => pg_name (i := 14) nd rfl (Or.inl rfl)) (fun _ _ _ _ _ => mts_nil) (fun _ _ _ _ _ => (me_tup (ma_cons (me_var 14) (ma_cons (me_getL (hu1b hr) (me_var 7) (me_var 14)) ma_nil))))))
    (mss_cons (ms_set 10 nd rfl (.inl rfl) (me_tup (ma_cons (me_get (hu1 hr) (me_var 3) (me_tup (ma_cons me_int (ma_cons me_int ma_nil)))) (ma_cons (me_get (hu1 hr) (me_var 3) (me_tup (ma_cons me_int (ma_cons me_int ma_nil)))) (ma_cons (me_get (hu1 hr) (me_var 3) (me_tup (ma_cons me_int (ma_cons me_int ma_nil)))) ma_nil)))))
    (mss_cons (ms_if (mt_not (mt_truth (me_call (IH.f ._law_truth_same rfl) hr rfl (T.mg ._law_truth_same rfl) (T.fn ._law_truth_same rfl).kp (T.bd ._law_truth_same rfl) (ma_cons (me_callK0 (ks := ["cond", "worth", "folds"]) (IH.f .mark_truth rfl) hr rfl (T.mg .mark_truth rfl) (T.fn .mark_truth rfl).kp (T.kb_mark_truth_0_cond_worth_folds) (mk_cons (me_call (IH.f ._law_marked rfl) hr rfl (T.mg ._law_marked rfl) (T.fn ._law_marked rfl).kp (T.bd ._law_marked rfl) (ma_cons (me_var 0) ma_nil)) (mk_cons (me_var 7) (mk_cons (me_var 10) mk_nil)))) (ma_cons (me_ix (me_lst (ma_cons me_bl (ma_cons me_non (ma_cons me_bl ma_nil)))) (me_var 6)) ma_nil))))) (mss_one (ms_ret me_bl)) mss_nil)
    (mss_cons (ms_for PassesOwn.never rfl (mi_seq (me_var 2)) (mg_name 11 nd rfl (.inl rfl)) (mss_cons (ms_set 12 nd rfl (.inl rfl) (me_if (mt_cmp (or_eq hr.units) eqF_ok (me_ix (me_ix (me_var 11) me_int) me_int) me_str (nomark _)) (me_callTy call_list_of listF_ok rfl T.z_list (by decide +kernel) (ma_cons (me_slice (me_ix (me_var 11) me_int) (mo_some me_int) mo_none) ma_nil)) (me_callTy call_list_of listF_ok rfl T.z_list (by decide +kernel) (ma_cons (me_slice (me_ix (me_var 11) me_int) (mo_some me_int) mo_none) ma_nil))))
    (mss_one (ms_for PassesOwn.never rfl (mi_seq (me_var 12)) (mg_name 13 nd rfl (.inl rfl)) (mss_one (ms_if (mt_not (mt_truth (me_call (IH.f ._law_same rfl) hr rfl (T.mg ._law_same rfl) (T.fn ._law_same rfl).kp (T.bd ._law_same rfl) (ma_cons (me_callK0 (ks := ["expr", "worth", "folds"]) (IH.f .mark_value rfl) hr rfl (T.mg .mark_value rfl) (T.fn .mark_value rfl).kp (T.kb_mark_value_0_expr_worth_folds) (mk_cons (me_call (IH.f ._law_marked rfl) hr rfl (T.mg ._law_marked rfl) (T.fn ._law_marked rfl).kp (T.bd ._law_marked rfl) (ma_cons (me_var 13) ma_nil)) (mk_cons (me_var 7) (mk_cons (me_var 10) mk_nil)))) (ma_cons (me_call (IH.f ._law_value rfl) hr rfl (T.mg ._law_value rfl) (T.fn ._law_value rfl).kp (T.bd ._law_value rfl) (ma_cons (me_var 13) (ma_cons (me_var 3) ma_nil))) ma_nil))))) (mss_one (ms_ret me_bl)) mss_nil))))))
    (mss_one (ms_ret (me_cmp (or_eq hr.units) eqF_ok (me_lockK 7 (me_lc (tgt := (.one 14)) (own := [("_law_m", 14)]) rfl nd (mi_keysK (me_var 7)) (blkOk_by (own := [("_law_m", 14)]) (N := ["_law_test", "_law_bone", "_law_leaves", "_law_cells", "_law_told_here", "_law_levels", "_law_due", "_law_marks", "_law_key", "_law_kept", "_law_sums", "_law_leaf_here", "_law_exprs", "_law_term", "_law_m"]) (sc := defScope s48) (by decide +kernel)) rfl (fun _ _ _ _ _ => pg_name (i := 14) nd rfl (Or.inl rfl)) (fun _ _ _ _ _ => mts_nil) (fun _ _ _ _ _ => (me_tup (ma_cons (me_var 14) (ma_cons (me_getL (hu1b hr) (me_var 7) (me_var 14)) ma_nil)))))) (me_var 9) (nomark _)))))))))))))
theorem sc__law_unit : FnScope ["_law_test", "_law_bone", "_law_leaves", "_law_which", "_law_cells", "_law_told_here", "_law_due", "_law_k"] (par ._law_unit) (defScope s49) := ⟨rfl, rfl, rfl, by decide +kernel, rfl, by decide +kernel, by decide +kernel⟩
theorem nd0__law_unit : (["_law_test", "_law_bone", "_law_leaves", "_law_which", "_law_cells", "_law_told_here", "_law_due", "_law_k"] : List Str).Nodup := by decide +kernel
theorem ok__law_unit {k : Nat} {F : Fn → List D → Sto → Option (D × Sto)} (T : Txt K w g) (AH : ∀ base, (∀ p ∈ T.cs, LamX.TabB base g p.1 p.2) → All P T base k F) (hTB : ∀ p ∈ T.cs, LamX.TabB base g p.1 p.2) :
    FnOk P w K g base CX0 (k + 1) (T.ad ._law_unit) (T.fd ._law_unit) (par ._law_unit) (spM ⟨K, P, w, base, T.tb⟩ (par ._law_unit).length (bodyM 8 (b__law_unit F))) := by
  refine ok_def (N := ["_law_test", "_law_bone", "_law_leaves", "_law_which", "_law_cells", "_law_told_here", "_law_due", "_law_k"]) (T.fn ._law_unit rfl) sc__law_unit (by decide) fun cdv A outer s0 H E hr => ?_
  have nd := nd0__law_unit
  have IH := AH base hTB
  exact (mss_cons (ms_set 5 nd rfl (.inr rfl) (me_callK0 (ks := ["cond", "unit"]) (IH.f .possible rfl) hr rfl (T.mg .possible rfl) (T.fn .possible rfl).kp (T.kb_possible_0_cond_unit) (mk_cons (me_var 0) (mk_cons (me_var 3) mk_nil))))
    (mss_cons (ms_if (PW.pt (mw_or (mt_not (mt_truth (me_isi rfl T.z_isinstance (by decide +kernel) (me_var 5) (pe_bltn (v := .ty "tuple") rfl T.z_tuple (by decide +kernel) rfl)))) (mw_or1 (mt_cmp (or_ne hr.units) neF_ok (me_callB call_len lenF_ok rfl T.z_len (by decide +kernel) (ma_cons (me_var 5) ma_nil)) me_int (nomark _))))) (mss_one (ms_ret me_bl)) mss_nil)
    (mss_cons (ms_set 6 nd rfl (.inr rfl) (me_call (IH.f ._law_told rfl) hr rfl (T.mg ._law_told rfl) (T.fn ._law_told rfl).kp (T.bd ._law_told rfl) (ma_cons (me_var 2) (ma_cons (me_var 1) (ma_cons (me_var 3) ma_nil)))))
    (mss_cons (ms_if (mt_cmp or_gt gtF_ok (me_callB call_len lenF_ok rfl T.z_len (by decide +kernel) (ma_cons (me_lc (tgt := (.one 7)) (own := [("_law_k", 7)]) rfl nd (mi_rng1 rfl T.z_range (ma_cons me_int ma_nil)) (blkOk_by (own := [("_law_k", 7)]) (N := ["_law_test", "_law_bone", "_law_leaves", "_law_which", "_law_cells", "_law_told_here", "_law_due", "_law_k"]) (sc := defScope s49) (by decide +kernel)) rfl (fun _ _ _ _ _ => pg_name (i := 7) nd rfl (Or.inl rfl)) (fun _ _ _ _ _ => mts_one (mt_not (mt_truth (me_call (IH.f ._law_truth_same rfl) hr rfl (T.mg ._law_truth_same rfl) (T.fn ._law_truth_same rfl).kp (T.bd ._law_truth_same rfl) (ma_cons (me_ix (me_var 5) (me_var 7)) (ma_cons (me_ix (me_var 6) (me_var 7)) ma_nil)))))) (fun _ _ _ _ _ => (me_var 7))) ma_nil)) me_int (nomark _)) (mss_one (ms_ret me_bl)) mss_nil)
    (mss_cons (ms_if (mt_not (mt_truth (me_call (IH.f ._law_truth_same rfl) hr rfl (T.mg ._law_truth_same rfl) (T.fn ._law_truth_same rfl).kp (T.bd ._law_truth_same rfl) (ma_cons (me_callK0 (ks := ["cond", "unit"]) (IH.f .never_on_nulls rfl) hr rfl (T.mg .never_on_nulls rfl) (T.fn .never_on_nulls rfl).kp (T.kb_never_on_nulls_0_cond_unit) (mk_cons (me_var 0) (mk_cons (me_var 3) mk_nil))) (ma_cons (me_not (me_ix (me_var 6) me_int)) ma_nil))))) (mss_one (ms_ret me_bl)) mss_nil)
    (mss_one (ms_ret (me_call (IH.f ._law_at_values rfl) hr rfl (T.mg ._law_at_values rfl) (T.fn ._law_at_values rfl).kp (T.bd ._law_at_values rfl) (ma_cons (me_var 0) (ma_cons (me_var 1) (ma_cons (me_var 2) (ma_cons (me_var 4) (ma_cons (me_var 5) ma_nil)))))))))))))
theorem sc_law : FnScope ["_law_script", "_law_deck_here", "_law_turn", "_law_leaves", "_law_made", "_law_one", "_law_which", "_law_cells", "_law_k"] (par .law) (defScope s50) := ⟨rfl, rfl, rfl, by decide +kernel, rfl, by decide +kernel, by decide +kernel⟩
theorem nd0_law : (["_law_script", "_law_deck_here", "_law_turn", "_law_leaves", "_law_made", "_law_one", "_law_which", "_law_cells", "_law_k"] : List Str).Nodup := by decide +kernel
theorem ok_law {k : Nat} {F : Fn → List D → Sto → Option (D × Sto)} (T : Txt K w g) (AH : ∀ base, (∀ p ∈ T.cs, LamX.TabB base g p.1 p.2) → All P T base k F) (hTB : ∀ p ∈ T.cs, LamX.TabB base g p.1 p.2) :
    FnOk P w K g base CX0 (k + 1) (T.ad .law) (T.fd .law) (par .law) (spM ⟨K, P, w, base, T.tb⟩ (par .law).length (bodyM 9 (b_law F))) := by
  refine ok_def (N := ["_law_script", "_law_deck_here", "_law_turn", "_law_leaves", "_law_made", "_law_one", "_law_which", "_law_cells", "_law_k"]) (T.fn .law rfl) sc_law (by decide) fun cdv A outer s0 H E hr => ?_
  have nd := nd0_law
  have IH := AH base hTB
  exact (mss_cons (ms_set 1 nd rfl (.inr rfl) (me_call (IH.f ._law_deck rfl) hr rfl (T.mg ._law_deck rfl) (T.fn ._law_deck rfl).kp (T.bd ._law_deck rfl) (ma_cons (me_var 0) ma_nil)))
    (mss_cons (ms_for PassesOwn.never rfl (mi_rng1 rfl T.z_range (ma_cons me_int ma_nil)) (mg_name 2 nd rfl (.inl rfl)) (mss_cons (ms_setLc 3 (tgt := (.one 8)) (own := [("_law_k", 8)]) rfl nd rfl rfl (sw_true rfl rfl rfl (by decide +kernel)) (mi_rng1 rfl T.z_range (ma_cons (me_add me_int (me_call (IH.f ._law_pick rfl) hr rfl (T.mg ._law_pick rfl) (T.fn ._law_pick rfl).kp (T.bd ._law_pick rfl) (ma_cons (me_var 1) (ma_cons me_int ma_nil)))) ma_nil)) (blkOk_by (own := [("_law_k", 8)]) (N := ["_law_script", "_law_deck_here", "_law_turn", "_law_leaves", "_law_made", "_law_one", "_law_which", "_law_cells", "_law_k"]) (sc := defScope s50) (by decide +kernel)) rfl (fun _ _ _ _ _ => pg_name (i := 8) nd rfl (Or.inl rfl)) (fun _ _ _ _ _ => mts_nil) (fun _ _ _ _ _ => (me_call (IH.f ._law_leaf rfl) hr rfl (T.mg ._law_leaf rfl) (T.fn ._law_leaf rfl).kp (T.bd ._law_leaf rfl) (ma_cons (me_var 1) ma_nil))))
    (mss_cons (ms_set 4 nd rfl (.inl rfl) (me_call (IH.f ._law_joined rfl) hr rfl (T.mg ._law_joined rfl) (T.fn ._law_joined rfl).kp (T.bd ._law_joined rfl) (ma_cons (me_var 1) (ma_cons (me_var 3) ma_nil))))
    (mss_cons (ms_if (mt_not (mt_truth (me_call (IH.f ._law_at_values rfl) hr rfl (T.mg ._law_at_values rfl) (T.fn ._law_at_values rfl).kp (T.bd ._law_at_values rfl) (ma_cons (me_ix (me_var 4) me_int) (ma_cons (me_ix (me_var 4) me_int) (ma_cons (me_var 3) (ma_cons (me_call (IH.f ._law_values rfl) hr rfl (T.mg ._law_values rfl) (T.fn ._law_values rfl).kp (T.bd ._law_values rfl) (ma_cons (me_var 1) (ma_cons me_int ma_nil))) (ma_cons me_non ma_nil)))))))) (mss_one (ms_ret me_bl)) mss_nil)
    (mss_cons (ms_set 5 nd rfl (.inl rfl) (me_call (IH.f ._law_pick rfl) hr rfl (T.mg ._law_pick rfl) (T.fn ._law_pick rfl).kp (T.bd ._law_pick rfl) (ma_cons (me_var 1) (ma_cons me_int ma_nil))))
    (mss_one (ms_for PassesOwn.never rfl (mi_rng1 rfl T.z_range (ma_cons me_int ma_nil)) (mg_name 6 nd rfl (.inl rfl)) (mss_cons (ms_set 7 nd rfl (.inl rfl) (me_call (IH.f ._law_values rfl) hr rfl (T.mg ._law_values rfl) (T.fn ._law_values rfl).kp (T.bd ._law_values rfl) (ma_cons (me_if (mt_cmp (or_eq hr.units) eqF_ok (me_var 6) (me_var 5) (nomark _)) (me_var 1) (me_lst ma_nil)) (ma_cons (me_var 6) ma_nil))))
    (mss_one (ms_if (mt_not (mt_truth (me_call (IH.f ._law_unit rfl) hr rfl (T.mg ._law_unit rfl) (T.fn ._law_unit rfl).kp (T.bd ._law_unit rfl) (ma_cons (me_ix (me_var 4) me_int) (ma_cons (me_ix (me_var 4) me_int) (ma_cons (me_var 3) (ma_cons (me_var 6) (ma_cons (me_var 7) ma_nil)))))))) (mss_one (ms_ret me_bl)) mss_nil))))))))))
    (mss_one (ms_ret me_bl))))
theorem sc_mark_value__step : NdefX.NScope ["one", "sides", "worth", "folds"] nd_mark_value__step.ps nd_mark_value__step.fr (C8.fnScope nst_mark_value__step) := NdefX.nscope_by (by decide +kernel)
theorem nd0_mark_value__step : (["one", "sides", "worth", "folds"] : List Str).Nodup := by decide +kernel
theorem ok_mark_value__step {k : Nat} {F : Fn → List D → Sto → Option (D × Sto)} (T : Txt K w g) (AH : ∀ base, (∀ p ∈ T.cs, LamX.TabB base g p.1 p.2) → All P T base k F) (hTB : ∀ p ∈ T.cs, LamX.TabB base g p.1 p.2) :
    NokM P w K g base T.tb (k + 1) nd_mark_value__step (bodyM 4 (b_mark_value__step F)) := by
  refine nok_def (N := ["one", "sides", "worth", "folds"]) sc_mark_value__step (by decide) (fun _ _ _ _ _ us hl => match us, hl with | [_, _], _ => rfl) fun cl c f A outer s0 H E hr => ?_
  have nd := nd0_mark_value__step
  have IH := AH base hTB
  exact (mss_one (ms_ret (me_call (IH.f .worth_of_one rfl) hr rfl (T.mg .worth_of_one rfl) (T.fn .worth_of_one rfl).kp (T.bd .worth_of_one rfl) (ma_cons (me_var 0) (ma_cons (me_var 1) (ma_cons (me_var 2) (ma_cons (me_var 3) ma_nil)))))))
theorem sc_mark_truth__step : NdefX.NScope ["one", "sides", "worth", "folds"] nd_mark_truth__step.ps nd_mark_truth__step.fr (C8.fnScope nst_mark_truth__step) := NdefX.nscope_by (by decide +kernel)
theorem nd0_mark_truth__step : (["one", "sides", "worth", "folds"] : List Str).Nodup := by decide +kernel
theorem ok_mark_truth__step {k : Nat} {F : Fn → List D → Sto → Option (D × Sto)} (T : Txt K w g) (AH : ∀ base, (∀ p ∈ T.cs, LamX.TabB base g p.1 p.2) → All P T base k F) (hTB : ∀ p ∈ T.cs, LamX.TabB base g p.1 p.2) :
    NokM P w K g base T.tb (k + 1) nd_mark_truth__step (bodyM 4 (b_mark_truth__step F)) := by
  refine nok_def (N := ["one", "sides", "worth", "folds"]) sc_mark_truth__step (by decide) (fun _ _ _ _ _ us hl => match us, hl with | [_, _], _ => rfl) fun cl c f A outer s0 H E hr => ?_
  have nd := nd0_mark_truth__step
  have IH := AH base hTB
  exact (mss_cons (ms_if (mt_cmp (or_eq hr.units) eqF_ok (me_ix (me_var 0) me_int) me_str (nomark _)) (mss_one (ms_ret (me_call (IH.f .compared rfl) hr rfl (T.mg .compared rfl) (T.fn .compared rfl).kp (T.bd .compared rfl) (ma_cons (me_ix (me_var 0) me_int) (ma_cons (me_ix (me_var 1) me_int) (ma_cons (me_ix (me_var 1) me_int) ma_nil)))))) mss_nil)
    (mss_cons (ms_if (mt_cmp (or_eq hr.units) eqF_ok (me_ix (me_var 0) me_int) me_str (nomark _)) (mss_one (ms_ret (me_cmp op_isN isF_ok (me_ix (me_var 1) me_int) me_non (nomark _)))) mss_nil)
    (mss_cons (ms_if (mt_cmp (or_in (hu65 hr)) inF_ok (me_ix (me_var 0) me_int) (me_con (pe_glob (v := .ref T.c_LINKSa) rfl T.c_LINKSg rfl) (fun H m => T.c_LINKSr P base T.tb H m)) rfl) (mss_one (ms_ret (me_call (IH.f .truth_joined rfl) hr rfl (T.mg .truth_joined rfl) (T.fn .truth_joined rfl).kp (T.bd .truth_joined rfl) (ma_cons (me_ix (me_var 0) me_int) (ma_cons (me_var 1) ma_nil))))) mss_nil)
    (mss_one (ms_ret (me_call (IH.f .worth_of_one rfl) hr rfl (T.mg .worth_of_one rfl) (T.fn .worth_of_one rfl).kp (T.bd .worth_of_one rfl) (ma_cons (me_var 0) (ma_cons (me_var 1) (ma_cons (me_var 2) (ma_cons (me_var 3) ma_nil))))))))))
end
end Gn
set_option maxHeartbeats 4000000 -- wide
namespace Gn
open L2 PyProof.Rows PySem PySem.Spec Ml
section
variable {P : Program} {w : World} {K : PySem.W.Frag} {g : Str → Option Value} {base : Heap}
theorem all_ok (T : Txt K w g) : ∀ (k : Nat) (base : Heap), (∀ p ∈ T.cs, LamX.TabB base g p.1 p.2) → All P T base k (den k)
  | 0, base, hTB => by
    refine ⟨fun f _ => ok_zero, fun id nd h => ?_⟩
    match id, h with
    | 0, h => cases h; exact nok_zero
    | 1, h => cases h; exact nok_zero
    | q + 2, h => cases h
  | k + 1, base, hTB => by
    have AH := all_ok T k
    refine ⟨fun f hf => ?_, fun id nd h => ?_⟩
    · cases f
      · exact ok_parts_of T AH hTB
      · exact ok_reduced T AH hTB
      · exact ok_columns_in T AH hTB
      · exact ok_leaves_of T AH hTB
      · exact ok_columns_at T AH hTB
      · exact ok_is_column T AH hTB
      · exact ok_negated T AH hTB
      · exact ok_perhaps T AH hTB
      · exact ok_both T AH hTB
      · exact ok_either T AH hTB
      · exact ok_compared T AH hTB
      · exact ok_possible T AH hTB
      · exact ok_never_on_nulls T AH hTB
      · exact ok_truths_of T AH hTB
      · exact ok_truths_alone T AH hTB
      · exact ok_has_column_of T AH hTB
      · exact ok_reckoned T AH hTB
      · exact ok_truth_joined T AH hTB
      · exact ok_mark_value T AH hTB
      · exact ok_mark_truth T AH hTB
      · exact ok_worth_of_one T AH hTB
      · exact ok__law_deck T AH hTB
      · exact ok__law_pick T AH hTB
      · exact ok__law_number T AH hTB
      · exact ok__law_word T AH hTB
      · exact ok__law_part T AH hTB
      · exact ok__law_expr T AH hTB
      · exact ok__law_leaf T AH hTB
      · exact ok__law_joined T AH hTB
      · exact ok__law_level T AH hTB
      · exact ok__law_told T AH hTB
      · exact ok__law_value T AH hTB
      · exact ok__law_leaf_level T AH hTB
      · exact ok__law_marked T AH hTB
      · exact ok__law_same T AH hTB
      · exact ok__law_truth_same T AH hTB
      · exact ok__law_values T AH hTB
      · exact ok__law_at_values T AH hTB
      · exact ok__law_unit T AH hTB
      · exact ok_law T AH hTB
      · cases hf
      · cases hf
    · match id, h with
      | 0, h => cases h; exact ok_mark_value__step T AH hTB
      | 1, h => cases h; exact ok_mark_truth__step T AH hTB
      | q + 2, h => cases h
end
end Gn
set_option maxHeartbeats 4000000 -- wide
namespace Gn
open L2 PyProof.Rows PySem PySem.Spec Ml
def fnL0 : List He.DefD := [⟨("parts_of", none), "parts_of", "parts_of", defArgs s3, defBody s3, defScope s3, [], []⟩, ⟨("reduced", none), "reduced", "reduced", defArgs s4, defBody s4, defScope s4, [], []⟩, ⟨("columns_in", none), "columns_in", "columns_in", defArgs s6, defBody s6, defScope s6, [], []⟩, ⟨("leaves_of", none), "leaves_of", "leaves_of", defArgs s7, defBody s7, defScope s7, [], []⟩, ⟨("columns_at", none), "columns_at", "columns_at", defArgs s8, defBody s8, defScope s8, [], []⟩, ⟨("is_column", none), "is_column", "is_column", defArgs s9, defBody s9, defScope s9, [], []⟩, ⟨("negated", none), "negated", "negated", defArgs s11, defBody s11, defScope s11, [], []⟩, ⟨("perhaps", none), "perhaps", "perhaps", defArgs s12, defBody s12, defScope s12, [], []⟩, ⟨("both", none), "both", "both", defArgs s13, defBody s13, defScope s13, [], []⟩, ⟨("either", none), "either", "either", defArgs s14, defBody s14, defScope s14, [], []⟩, ⟨("compared", none), "compared", "compared", defArgs s15, defBody s15, defScope s15, [], []⟩, ⟨("possible", none), "possible", "possible", defArgs s18, defBody s18, defScope s18, [], []⟩, ⟨("never_on_nulls", none), "never_on_nulls", "never_on_nulls", defArgs s19, defBody s19, defScope s19, [], []⟩, ⟨("truths_of", none), "truths_of", "truths_of", defArgs s20, defBody s20, defScope s20, [], []⟩, ⟨("truths_alone", none), "truths_alone", "truths_alone", defArgs s21, defBody s21, defScope s21, [], []⟩, ⟨("has_column_of", none), "has_column_of", "has_column_of", defArgs s22, defBody s22, defScope s22, [], []⟩, ⟨("reckoned", none), "reckoned", "reckoned", defArgs s24, defBody s24, defScope s24, [], []⟩, ⟨("truth_joined", none), "truth_joined", "truth_joined", defArgs s25, defBody s25, defScope s25, [], []⟩, ⟨("mark_value", none), "mark_value", "mark_value", defArgs s28, defBody s28, defScope s28, [], []⟩, ⟨("mark_truth", none), "mark_truth", "mark_truth", defArgs s29, defBody s29, defScope s29, [], []⟩, ⟨("worth_of_one", none), "worth_of_one", "worth_of_one", defArgs s30, defBody s30, defScope s30, [], []⟩, ⟨("_law_deck", none), "_law_deck", "_law_deck", defArgs s32, defBody s32, defScope s32, [], []⟩, ⟨("_law_pick", none), "_law_pick", "_law_pick", defArgs s33, defBody s33, defScope s33, [], []⟩, ⟨("_law_number", none), "_law_number", "_law_number", defArgs s34, defBody s34, defScope s34, [], []⟩, ⟨("_law_word", none), "_law_word", "_law_word", defArgs s35, defBody s35, defScope s35, [], []⟩, ⟨("_law_part", none), "_law_part", "_law_part", defArgs s36, defBody s36, defScope s36, [], []⟩, ⟨("_law_expr", none), "_law_expr", "_law_expr", defArgs s37, defBody s37, defScope s37, [], []⟩, ⟨("_law_leaf", none), "_law_leaf", "_law_leaf", defArgs s38, defBody s38, defScope s38, [], []⟩, ⟨("_law_joined", none), "_law_joined", "_law_joined", defArgs s39, defBody s39, defScope s39, [], []⟩, ⟨("_law_level", none), "_law_level", "_law_level", defArgs s40, defBody s40, defScope s40, [], []⟩]
def fnL1 : List He.DefD := [⟨("_law_told", none), "_law_told", "_law_told", defArgs s41, defBody s41, defScope s41, [], []⟩, ⟨("_law_value", none), "_law_value", "_law_value", defArgs s42, defBody s42, defScope s42, [], []⟩, ⟨("_law_leaf_level", none), "_law_leaf_level", "_law_leaf_level", defArgs s43, defBody s43, defScope s43, [], []⟩, ⟨("_law_marked", none), "_law_marked", "_law_marked", defArgs s44, defBody s44, defScope s44, [], []⟩, ⟨("_law_same", none), "_law_same", "_law_same", defArgs s45, defBody s45, defScope s45, [], []⟩, ⟨("_law_truth_same", none), "_law_truth_same", "_law_truth_same", defArgs s46, defBody s46, defScope s46, [], []⟩, ⟨("_law_values", none), "_law_values", "_law_values", defArgs s47, defBody s47, defScope s47, [], []⟩, ⟨("_law_at_values", none), "_law_at_values", "_law_at_values", defArgs s48, defBody s48, defScope s48, [], []⟩, ⟨("_law_unit", none), "_law_unit", "_law_unit", defArgs s49, defBody s49, defScope s49, [], []⟩, ⟨("law", none), "law", "law", defArgs s50, defBody s50, defScope s50, [], []⟩]
def fnL : List He.DefD := fnL0 ++ fnL1
def faL0 : List He.Fa := [.glo "parts_of", .glo "reduced", .glo "columns_in", .glo "leaves_of", .glo "columns_at", .glo "is_column", .glo "negated", .glo "perhaps", .glo "both", .glo "either", .glo "compared", .glo "possible", .glo "never_on_nulls", .glo "truths_of", .glo "truths_alone", .glo "has_column_of", .glo "reckoned", .glo "truth_joined", .glo "mark_value", .glo "mark_truth", .glo "worth_of_one", .glo "_law_deck", .glo "_law_pick", .glo "_law_number", .glo "_law_word", .glo "_law_part", .glo "_law_expr", .glo "_law_leaf", .glo "_law_joined", .glo "_law_level"]
def faL1 : List He.Fa := [.glo "_law_told", .glo "_law_value", .glo "_law_leaf_level", .glo "_law_marked", .glo "_law_same", .glo "_law_truth_same", .glo "_law_values", .glo "_law_at_values", .glo "_law_unit", .glo "law", .glo "LINKS", .glo "NO_PLACES", .glo "PART_PLACES", .glo "TRUTHS", .free "abs", .free "any", .free "bool", .free "int", .free "isinstance", .free "len", .free "list", .free "max", .free "min", .free "range", .free "str", .free "tuple"]
def faL : List He.Fa := faL0 ++ faL1
def tsL : List He.Tab := [((fun K => He.ga K "PART_PLACES"), ["add", "sub", "mul", "neg", "cmp", "null", "in", "not", "maybe", "and", "or"])]
def tfL : List He.Defn := [("mark_value", none), ("mark_truth", none), ("has_column_of", none)]
def exL (K : PySem.W.Frag) : Bool := tupAt K (He.ga K "LINKS") (match c_LINKS with | .tup xs => xs | _ => []) && (tupAt K (He.ga K "NO_PLACES") (match c_NO_PLACES with | .tup xs => xs | _ => []) && (tupAt K (He.ga K "TRUTHS") (match c_TRUTHS with | .tup xs => xs | _ => []) && (c_PART_PLACES.all (entAt K (He.ga K "PART_PLACES")) && (decide ((He.cT K ("mark_value", none)).2 ≠ (He.cT K ("mark_truth", none)).2) && (decide ((He.cT K ("mark_value", none)).2 ≠ (He.cT K ("has_column_of", none)).2) && (decide ((He.cT K ("mark_truth", none)).2 ≠ (He.cT K ("has_column_of", none)).2) && (true)))))))
section
variable {w : World} {K : PySem.W.Frag} {h : Heap} {g : Str → Option Value}
theorem fact_of (c : He.SaysX faL fnL tsL tfL exL w h K) {f : He.Fa} (hf : f ∈ faL) : f.ok K = true := He.SaysD.facts c.t.d hf
theorem mk_txt (X : K.In h) (G : h.Ns mainGlobals g) (c : He.SaysX faL fnL tsL tfL exL w h K) : ∃ T : Txt K w g, ∀ p ∈ T.cs, h.get? p.2 = some (PySem.W.tabObj #[]) ∧ K.lookup p.2 = none ∧ PySem.W.CodeHd h p.1 p.2 := by
  obtain ⟨fd0, D0⟩ := c.t.d.def_ 0 rfl
  have F0 : Fun K "parts_of" "parts_of" s3 (He.ga K "parts_of") fd0 := fun_of D0
  have b0 := F0.binds (ps := par .parts_of) fun _ _ _ _ _ _ us hl => match us, hl with | [_], _ => rfl
  obtain ⟨fd1, D1⟩ := c.t.d.def_ 1 rfl
  have F1 : Fun K "reduced" "reduced" s4 (He.ga K "reduced") fd1 := fun_of D1
  have b1 := F1.binds (ps := par .reduced) fun _ _ _ _ _ _ us hl => match us, hl with | [_, _], _ => rfl
  obtain ⟨fd2, D2⟩ := c.t.d.def_ 2 rfl
  have F2 : Fun K "columns_in" "columns_in" s6 (He.ga K "columns_in") fd2 := fun_of D2
  have b2 := F2.binds (ps := par .columns_in) fun _ _ _ _ _ _ us hl => match us, hl with | [_], _ => rfl
  obtain ⟨fd3, D3⟩ := c.t.d.def_ 3 rfl
  have F3 : Fun K "leaves_of" "leaves_of" s7 (He.ga K "leaves_of") fd3 := fun_of D3
  have b3 := F3.binds (ps := par .leaves_of) fun _ _ _ _ _ _ us hl => match us, hl with | [_], _ => rfl
  obtain ⟨fd4, D4⟩ := c.t.d.def_ 4 rfl
  have F4 : Fun K "columns_at" "columns_at" s8 (He.ga K "columns_at") fd4 := fun_of D4
  have b4 := F4.binds (ps := par .columns_at) fun _ _ _ _ _ _ us hl => match us, hl with | [_], _ => rfl
  obtain ⟨fd5, D5⟩ := c.t.d.def_ 5 rfl
  have F5 : Fun K "is_column" "is_column" s9 (He.ga K "is_column") fd5 := fun_of D5
  have b5 := F5.binds (ps := par .is_column) fun _ _ _ _ _ _ us hl => match us, hl with | [_], _ => rfl
  obtain ⟨fd6, D6⟩ := c.t.d.def_ 6 rfl
  have F6 : Fun K "negated" "negated" s11 (He.ga K "negated") fd6 := fun_of D6
  have b6 := F6.binds (ps := par .negated) fun _ _ _ _ _ _ us hl => match us, hl with | [_], _ => rfl
  obtain ⟨fd7, D7⟩ := c.t.d.def_ 7 rfl
  have F7 : Fun K "perhaps" "perhaps" s12 (He.ga K "perhaps") fd7 := fun_of D7
  have b7 := F7.binds (ps := par .perhaps) fun _ _ _ _ _ _ us hl => match us, hl with | [_], _ => rfl
  obtain ⟨fd8, D8⟩ := c.t.d.def_ 8 rfl
  have F8 : Fun K "both" "both" s13 (He.ga K "both") fd8 := fun_of D8
  have b8 := F8.binds (ps := par .both) fun _ _ _ _ _ _ us hl => match us, hl with | [_, _], _ => rfl
  obtain ⟨fd9, D9⟩ := c.t.d.def_ 9 rfl
  have F9 : Fun K "either" "either" s14 (He.ga K "either") fd9 := fun_of D9
  have b9 := F9.binds (ps := par .either) fun _ _ _ _ _ _ us hl => match us, hl with | [_, _], _ => rfl
  obtain ⟨fd10, D10⟩ := c.t.d.def_ 10 rfl
  have F10 : Fun K "compared" "compared" s15 (He.ga K "compared") fd10 := fun_of D10
  have b10 := F10.binds (ps := par .compared) fun _ _ _ _ _ _ us hl => match us, hl with | [_, _, _], _ => rfl
  obtain ⟨fd11, D11⟩ := c.t.d.def_ 11 rfl
  have F11 : Fun K "possible" "possible" s18 (He.ga K "possible") fd11 := fun_of D11
  have b11 := F11.binds (ps := par .possible) fun _ _ _ _ _ _ us hl => match us, hl with | [_, _], _ => rfl
  obtain ⟨fd12, D12⟩ := c.t.d.def_ 12 rfl
  have F12 : Fun K "never_on_nulls" "never_on_nulls" s19 (He.ga K "never_on_nulls") fd12 := fun_of D12
  have b12 := F12.binds (ps := par .never_on_nulls) fun _ _ _ _ _ _ us hl => match us, hl with | [_, _], _ => rfl
  obtain ⟨fd13, D13⟩ := c.t.d.def_ 13 rfl
  have F13 : Fun K "truths_of" "truths_of" s20 (He.ga K "truths_of") fd13 := fun_of D13
  have b13 := F13.binds (ps := par .truths_of) fun _ _ _ _ _ _ us hl => match us, hl with | [_, _], _ => rfl
  obtain ⟨fd14, D14⟩ := c.t.d.def_ 14 rfl
  have F14 : Fun K "truths_alone" "truths_alone" s21 (He.ga K "truths_alone") fd14 := fun_of D14
  have b14 := F14.binds (ps := par .truths_alone) fun _ _ _ _ _ _ us hl => match us, hl with | [_, _], _ => rfl
  obtain ⟨fd15, D15⟩ := c.t.d.def_ 15 rfl
  have F15 : Fun K "has_column_of" "has_column_of" s22 (He.ga K "has_column_of") fd15 := fun_of D15
  have C15 : FunC K "has_column_of" "has_column_of" s22 (He.ga K "has_column_of") fd15 (He.cT K ("has_column_of", none)).1 := funC_of (p := ("has_column_of", none)) D15
  have b15 := F15.binds (ps := par .has_column_of) fun _ _ _ _ _ _ us hl => match us, hl with | [_, _], _ => rfl
  obtain ⟨fd16, D16⟩ := c.t.d.def_ 16 rfl
  have F16 : Fun K "reckoned" "reckoned" s24 (He.ga K "reckoned") fd16 := fun_of D16
  have b16 := F16.binds (ps := par .reckoned) fun _ _ _ _ _ _ us hl => match us, hl with | [_, _], _ => rfl
  obtain ⟨fd17, D17⟩ := c.t.d.def_ 17 rfl
  have F17 : Fun K "truth_joined" "truth_joined" s25 (He.ga K "truth_joined") fd17 := fun_of D17
  have b17 := F17.binds (ps := par .truth_joined) fun _ _ _ _ _ _ us hl => match us, hl with | [_, _], _ => rfl
  obtain ⟨fd18, D18⟩ := c.t.d.def_ 18 rfl
  have F18 : Fun K "mark_value" "mark_value" s28 (He.ga K "mark_value") fd18 := fun_of D18
  have C18 : FunC K "mark_value" "mark_value" s28 (He.ga K "mark_value") fd18 (He.cT K ("mark_value", none)).1 := funC_of (p := ("mark_value", none)) D18
  have b18 := F18.binds (ps := par .mark_value) fun _ _ _ _ _ _ us hl => match us, hl with | [_, _, _], _ => rfl
  obtain ⟨fd19, D19⟩ := c.t.d.def_ 19 rfl
  have F19 : Fun K "mark_truth" "mark_truth" s29 (He.ga K "mark_truth") fd19 := fun_of D19
  have C19 : FunC K "mark_truth" "mark_truth" s29 (He.ga K "mark_truth") fd19 (He.cT K ("mark_truth", none)).1 := funC_of (p := ("mark_truth", none)) D19
  have b19 := F19.binds (ps := par .mark_truth) fun _ _ _ _ _ _ us hl => match us, hl with | [_, _, _], _ => rfl
  obtain ⟨fd20, D20⟩ := c.t.d.def_ 20 rfl
  have F20 : Fun K "worth_of_one" "worth_of_one" s30 (He.ga K "worth_of_one") fd20 := fun_of D20
  have b20 := F20.binds (ps := par .worth_of_one) fun _ _ _ _ _ _ us hl => match us, hl with | [_, _, _, _], _ => rfl
  obtain ⟨fd21, D21⟩ := c.t.d.def_ 21 rfl
  have F21 : Fun K "_law_deck" "_law_deck" s32 (He.ga K "_law_deck") fd21 := fun_of D21
  have b21 := F21.binds (ps := par ._law_deck) fun _ _ _ _ _ _ us hl => match us, hl with | [_], _ => rfl
  obtain ⟨fd22, D22⟩ := c.t.d.def_ 22 rfl
  have F22 : Fun K "_law_pick" "_law_pick" s33 (He.ga K "_law_pick") fd22 := fun_of D22
  have b22 := F22.binds (ps := par ._law_pick) fun _ _ _ _ _ _ us hl => match us, hl with | [_, _], _ => rfl
  obtain ⟨fd23, D23⟩ := c.t.d.def_ 23 rfl
  have F23 : Fun K "_law_number" "_law_number" s34 (He.ga K "_law_number") fd23 := fun_of D23
  have b23 := F23.binds (ps := par ._law_number) fun _ _ _ _ _ _ us hl => match us, hl with | [_], _ => rfl
  obtain ⟨fd24, D24⟩ := c.t.d.def_ 24 rfl
  have F24 : Fun K "_law_word" "_law_word" s35 (He.ga K "_law_word") fd24 := fun_of D24
  have b24 := F24.binds (ps := par ._law_word) fun _ _ _ _ _ _ us hl => match us, hl with | [_], _ => rfl
  obtain ⟨fd25, D25⟩ := c.t.d.def_ 25 rfl
  have F25 : Fun K "_law_part" "_law_part" s36 (He.ga K "_law_part") fd25 := fun_of D25
  have b25 := F25.binds (ps := par ._law_part) fun _ _ _ _ _ _ us hl => match us, hl with | [_, _, _], _ => rfl
  obtain ⟨fd26, D26⟩ := c.t.d.def_ 26 rfl
  have F26 : Fun K "_law_expr" "_law_expr" s37 (He.ga K "_law_expr") fd26 := fun_of D26
  have b26 := F26.binds (ps := par ._law_expr) fun _ _ _ _ _ _ us hl => match us, hl with | [_, _, _], _ => rfl
  obtain ⟨fd27, D27⟩ := c.t.d.def_ 27 rfl
  have F27 : Fun K "_law_leaf" "_law_leaf" s38 (He.ga K "_law_leaf") fd27 := fun_of D27
  have b27 := F27.binds (ps := par ._law_leaf) fun _ _ _ _ _ _ us hl => match us, hl with | [_], _ => rfl
  obtain ⟨fd28, D28⟩ := c.t.d.def_ 28 rfl
  have F28 : Fun K "_law_joined" "_law_joined" s39 (He.ga K "_law_joined") fd28 := fun_of D28
  have b28 := F28.binds (ps := par ._law_joined) fun _ _ _ _ _ _ us hl => match us, hl with | [_, _], _ => rfl
  obtain ⟨fd29, D29⟩ := c.t.d.def_ 29 rfl
  have F29 : Fun K "_law_level" "_law_level" s40 (He.ga K "_law_level") fd29 := fun_of D29
  have b29 := F29.binds (ps := par ._law_level) fun _ _ _ _ _ _ us hl => match us, hl with | [_, _], _ => rfl
  obtain ⟨fd30, D30⟩ := c.t.d.def_ 30 rfl
  have F30 : Fun K "_law_told" "_law_told" s41 (He.ga K "_law_told") fd30 := fun_of D30
  have b30 := F30.binds (ps := par ._law_told) fun _ _ _ _ _ _ us hl => match us, hl with | [_, _, _], _ => rfl
  obtain ⟨fd31, D31⟩ := c.t.d.def_ 31 rfl
  have F31 : Fun K "_law_value" "_law_value" s42 (He.ga K "_law_value") fd31 := fun_of D31
  have b31 := F31.binds (ps := par ._law_value) fun _ _ _ _ _ _ us hl => match us, hl with | [_, _], _ => rfl
  obtain ⟨fd32, D32⟩ := c.t.d.def_ 32 rfl
  have F32 : Fun K "_law_leaf_level" "_law_leaf_level" s43 (He.ga K "_law_leaf_level") fd32 := fun_of D32
  have b32 := F32.binds (ps := par ._law_leaf_level) fun _ _ _ _ _ _ us hl => match us, hl with | [_, _], _ => rfl
  obtain ⟨fd33, D33⟩ := c.t.d.def_ 33 rfl
  have F33 : Fun K "_law_marked" "_law_marked" s44 (He.ga K "_law_marked") fd33 := fun_of D33
  have b33 := F33.binds (ps := par ._law_marked) fun _ _ _ _ _ _ us hl => match us, hl with | [_], _ => rfl
  obtain ⟨fd34, D34⟩ := c.t.d.def_ 34 rfl
  have F34 : Fun K "_law_same" "_law_same" s45 (He.ga K "_law_same") fd34 := fun_of D34
  have b34 := F34.binds (ps := par ._law_same) fun _ _ _ _ _ _ us hl => match us, hl with | [_, _], _ => rfl
  obtain ⟨fd35, D35⟩ := c.t.d.def_ 35 rfl
  have F35 : Fun K "_law_truth_same" "_law_truth_same" s46 (He.ga K "_law_truth_same") fd35 := fun_of D35
  have b35 := F35.binds (ps := par ._law_truth_same) fun _ _ _ _ _ _ us hl => match us, hl with | [_, _], _ => rfl
  obtain ⟨fd36, D36⟩ := c.t.d.def_ 36 rfl
  have F36 : Fun K "_law_values" "_law_values" s47 (He.ga K "_law_values") fd36 := fun_of D36
  have b36 := F36.binds (ps := par ._law_values) fun _ _ _ _ _ _ us hl => match us, hl with | [_, _], _ => rfl
  obtain ⟨fd37, D37⟩ := c.t.d.def_ 37 rfl
  have F37 : Fun K "_law_at_values" "_law_at_values" s48 (He.ga K "_law_at_values") fd37 := fun_of D37
  have b37 := F37.binds (ps := par ._law_at_values) fun _ _ _ _ _ _ us hl => match us, hl with | [_, _, _, _, _], _ => rfl
  obtain ⟨fd38, D38⟩ := c.t.d.def_ 38 rfl
  have F38 : Fun K "_law_unit" "_law_unit" s49 (He.ga K "_law_unit") fd38 := fun_of D38
  have b38 := F38.binds (ps := par ._law_unit) fun _ _ _ _ _ _ us hl => match us, hl with | [_, _, _, _, _], _ => rfl
  obtain ⟨fd39, D39⟩ := c.t.d.def_ 39 rfl
  have F39 : Fun K "law" "law" s50 (He.ga K "law") fd39 := fun_of D39
  have b39 := F39.binds (ps := par .law) fun _ _ _ _ _ _ us hl => match us, hl with | [_], _ => rfl
  have cm := c.more
  unfold exL at cm
  simp only [Bool.and_eq_true] at cm
  obtain ⟨t_LINKS, t_NO_PLACES, t_TRUTHS, d_PART_PLACES, ne_mark_value_mark_truth, ne_mark_value_has_column_of, ne_mark_truth_has_column_of, _⟩ := cm
  refine ⟨{
    ad := (fun f => match f with
      | .parts_of => He.ga K "parts_of"
      | .reduced => He.ga K "reduced"
      | .columns_in => He.ga K "columns_in"
      | .leaves_of => He.ga K "leaves_of"
      | .columns_at => He.ga K "columns_at"
      | .is_column => He.ga K "is_column"
      | .negated => He.ga K "negated"
      | .perhaps => He.ga K "perhaps"
      | .both => He.ga K "both"
      | .either => He.ga K "either"
      | .compared => He.ga K "compared"
      | .possible => He.ga K "possible"
      | .never_on_nulls => He.ga K "never_on_nulls"
      | .truths_of => He.ga K "truths_of"
      | .truths_alone => He.ga K "truths_alone"
      | .has_column_of => He.ga K "has_column_of"
      | .reckoned => He.ga K "reckoned"
      | .truth_joined => He.ga K "truth_joined"
      | .mark_value => He.ga K "mark_value"
      | .mark_truth => He.ga K "mark_truth"
      | .worth_of_one => He.ga K "worth_of_one"
      | ._law_deck => He.ga K "_law_deck"
      | ._law_pick => He.ga K "_law_pick"
      | ._law_number => He.ga K "_law_number"
      | ._law_word => He.ga K "_law_word"
      | ._law_part => He.ga K "_law_part"
      | ._law_expr => He.ga K "_law_expr"
      | ._law_leaf => He.ga K "_law_leaf"
      | ._law_joined => He.ga K "_law_joined"
      | ._law_level => He.ga K "_law_level"
      | ._law_told => He.ga K "_law_told"
      | ._law_value => He.ga K "_law_value"
      | ._law_leaf_level => He.ga K "_law_leaf_level"
      | ._law_marked => He.ga K "_law_marked"
      | ._law_same => He.ga K "_law_same"
      | ._law_truth_same => He.ga K "_law_truth_same"
      | ._law_values => He.ga K "_law_values"
      | ._law_at_values => He.ga K "_law_at_values"
      | ._law_unit => He.ga K "_law_unit"
      | .law => He.ga K "law"
      | .mark_value__step => 0
      | .mark_truth__step => 0)
    fd := (fun f => match f with
      | .parts_of => fd0
      | .reduced => fd1
      | .columns_in => fd2
      | .leaves_of => fd3
      | .columns_at => fd4
      | .is_column => fd5
      | .negated => fd6
      | .perhaps => fd7
      | .both => fd8
      | .either => fd9
      | .compared => fd10
      | .possible => fd11
      | .never_on_nulls => fd12
      | .truths_of => fd13
      | .truths_alone => fd14
      | .has_column_of => fd15
      | .reckoned => fd16
      | .truth_joined => fd17
      | .mark_value => fd18
      | .mark_truth => fd19
      | .worth_of_one => fd20
      | ._law_deck => fd21
      | ._law_pick => fd22
      | ._law_number => fd23
      | ._law_word => fd24
      | ._law_part => fd25
      | ._law_expr => fd26
      | ._law_leaf => fd27
      | ._law_joined => fd28
      | ._law_level => fd29
      | ._law_told => fd30
      | ._law_value => fd31
      | ._law_leaf_level => fd32
      | ._law_marked => fd33
      | ._law_same => fd34
      | ._law_truth_same => fd35
      | ._law_values => fd36
      | ._law_at_values => fd37
      | ._law_unit => fd38
      | .law => fd39
      | .mark_value__step => fd0
      | .mark_truth__step => fd0)
    fn := (fun f hf => match f, hf with
      | .parts_of, _ => F0
      | .reduced, _ => F1
      | .columns_in, _ => F2
      | .leaves_of, _ => F3
      | .columns_at, _ => F4
      | .is_column, _ => F5
      | .negated, _ => F6
      | .perhaps, _ => F7
      | .both, _ => F8
      | .either, _ => F9
      | .compared, _ => F10
      | .possible, _ => F11
      | .never_on_nulls, _ => F12
      | .truths_of, _ => F13
      | .truths_alone, _ => F14
      | .has_column_of, _ => F15
      | .reckoned, _ => F16
      | .truth_joined, _ => F17
      | .mark_value, _ => F18
      | .mark_truth, _ => F19
      | .worth_of_one, _ => F20
      | ._law_deck, _ => F21
      | ._law_pick, _ => F22
      | ._law_number, _ => F23
      | ._law_word, _ => F24
      | ._law_part, _ => F25
      | ._law_expr, _ => F26
      | ._law_leaf, _ => F27
      | ._law_joined, _ => F28
      | ._law_level, _ => F29
      | ._law_told, _ => F30
      | ._law_value, _ => F31
      | ._law_leaf_level, _ => F32
      | ._law_marked, _ => F33
      | ._law_same, _ => F34
      | ._law_truth_same, _ => F35
      | ._law_values, _ => F36
      | ._law_at_values, _ => F37
      | ._law_unit, _ => F38
      | .law, _ => F39
      | .mark_value__step, h => by cases h
      | .mark_truth__step, h => by cases h)
    mg := (fun f hf => match f, hf with
      | .parts_of, _ => He.glo_ok X G (fact_of c (List.mem_append_left _ (show _ ∈ faL0 from (.head _))))
      | .reduced, _ => He.glo_ok X G (fact_of c (List.mem_append_left _ (show _ ∈ faL0 from (.tail _ (.head _)))))
      | .columns_in, _ => He.glo_ok X G (fact_of c (List.mem_append_left _ (show _ ∈ faL0 from (.tail _ (.tail _ (.head _))))))
      | .leaves_of, _ => He.glo_ok X G (fact_of c (List.mem_append_left _ (show _ ∈ faL0 from (.tail _ (.tail _ (.tail _ (.head _)))))))
      | .columns_at, _ => He.glo_ok X G (fact_of c (List.mem_append_left _ (show _ ∈ faL0 from (.tail _ (.tail _ (.tail _ (.tail _ (.head _))))))))
      | .is_column, _ => He.glo_ok X G (fact_of c (List.mem_append_left _ (show _ ∈ faL0 from (.tail _ (.tail _ (.tail _ (.tail _ (.tail _ (.head _)))))))))
      | .negated, _ => He.glo_ok X G (fact_of c (List.mem_append_left _ (show _ ∈ faL0 from (.tail _ (.tail _ (.tail _ (.tail _ (.tail _ (.tail _ (.head _))))))))))
      | .perhaps, _ => He.glo_ok X G (fact_of c (List.mem_append_left _ (show _ ∈ faL0 from (.tail _ (.tail _ (.tail _ (.tail _ (.tail _ (.tail _ (.tail _ (.head _)))))))))))
      | .both, _ => He.glo_ok X G (fact_of c (List.mem_append_left _ (show _ ∈ faL0 from (.tail _ (.tail _ (.tail _ (.tail _ (.tail _ (.tail _ (.tail _ (.tail _ (.head _))))))))))))
      | .either, _ => He.glo_ok X G (fact_of c (List.mem_append_left _ (show _ ∈ faL0 from (.tail _ (.tail _ (.tail _ (.tail _ (.tail _ (.tail _ (.tail _ (.tail _ (.tail _ (.head _)))))))))))))
      | .compared, _ => He.glo_ok X G (fact_of c (List.mem_append_left _ (show _ ∈ faL0 from (.tail _ (.tail _ (.tail _ (.tail _ (.tail _ (.tail _ (.tail _ (.tail _ (.tail _ (.tail _ (.head _))))))))))))))
      | .possible, _ => He.glo_ok X G (fact_of c (List.mem_append_left _ (show _ ∈ faL0 from (.tail _ (.tail _ (.tail _ (.tail _ (.tail _ (.tail _ (.tail _ (.tail _ (.tail _ (.tail _ (.tail _ (.head _)))))))))))))))
      | .never_on_nulls, _ => He.glo_ok X G (fact_of c (List.mem_append_left _ (show _ ∈ faL0 from (.tail _ (.tail _ (.tail _ (.tail _ (.tail _ (.tail _ (.tail _ (.tail _ (.tail _ (.tail _ (.tail _ (.tail _ (.head _))))))))))))))))
      | .truths_of, _ => He.glo_ok X G (fact_of c (List.mem_append_left _ (show _ ∈ faL0 from (.tail _ (.tail _ (.tail _ (.tail _ (.tail _ (.tail _ (.tail _ (.tail _ (.tail _ (.tail _ (.tail _ (.tail _ (.tail _ (.head _)))))))))))))))))
      | .truths_alone, _ => He.glo_ok X G (fact_of c (List.mem_append_left _ (show _ ∈ faL0 from (.tail _ (.tail _ (.tail _ (.tail _ (.tail _ (.tail _ (.tail _ (.tail _ (.tail _ (.tail _ (.tail _ (.tail _ (.tail _ (.tail _ (.head _))))))))))))))))))
      | .has_column_of, _ => He.glo_ok X G (fact_of c (List.mem_append_left _ (show _ ∈ faL0 from (.tail _ (.tail _ (.tail _ (.tail _ (.tail _ (.tail _ (.tail _ (.tail _ (.tail _ (.tail _ (.tail _ (.tail _ (.tail _ (.tail _ (.tail _ (.head _)))))))))))))))))))
      | .reckoned, _ => He.glo_ok X G (fact_of c (List.mem_append_left _ (show _ ∈ faL0 from (.tail _ (.tail _ (.tail _ (.tail _ (.tail _ (.tail _ (.tail _ (.tail _ (.tail _ (.tail _ (.tail _ (.tail _ (.tail _ (.tail _ (.tail _ (.tail _ (.head _))))))))))))))))))))
      | .truth_joined, _ => He.glo_ok X G (fact_of c (List.mem_append_left _ (show _ ∈ faL0 from (.tail _ (.tail _ (.tail _ (.tail _ (.tail _ (.tail _ (.tail _ (.tail _ (.tail _ (.tail _ (.tail _ (.tail _ (.tail _ (.tail _ (.tail _ (.tail _ (.tail _ (.head _)))))))))))))))))))))
      | .mark_value, _ => He.glo_ok X G (fact_of c (List.mem_append_left _ (show _ ∈ faL0 from (.tail _ (.tail _ (.tail _ (.tail _ (.tail _ (.tail _ (.tail _ (.tail _ (.tail _ (.tail _ (.tail _ (.tail _ (.tail _ (.tail _ (.tail _ (.tail _ (.tail _ (.tail _ (.head _))))))))))))))))))))))
      | .mark_truth, _ => He.glo_ok X G (fact_of c (List.mem_append_left _ (show _ ∈ faL0 from (.tail _ (.tail _ (.tail _ (.tail _ (.tail _ (.tail _ (.tail _ (.tail _ (.tail _ (.tail _ (.tail _ (.tail _ (.tail _ (.tail _ (.tail _ (.tail _ (.tail _ (.tail _ (.tail _ (.head _)))))))))))))))))))))))
      | .worth_of_one, _ => He.glo_ok X G (fact_of c (List.mem_append_left _ (show _ ∈ faL0 from (.tail _ (.tail _ (.tail _ (.tail _ (.tail _ (.tail _ (.tail _ (.tail _ (.tail _ (.tail _ (.tail _ (.tail _ (.tail _ (.tail _ (.tail _ (.tail _ (.tail _ (.tail _ (.tail _ (.tail _ (.head _))))))))))))))))))))))))
      | ._law_deck, _ => He.glo_ok X G (fact_of c (List.mem_append_left _ (show _ ∈ faL0 from (.tail _ (.tail _ (.tail _ (.tail _ (.tail _ (.tail _ (.tail _ (.tail _ (.tail _ (.tail _ (.tail _ (.tail _ (.tail _ (.tail _ (.tail _ (.tail _ (.tail _ (.tail _ (.tail _ (.tail _ (.tail _ (.head _)))))))))))))))))))))))))
      | ._law_pick, _ => He.glo_ok X G (fact_of c (List.mem_append_left _ (show _ ∈ faL0 from (.tail _ (.tail _ (.tail _ (.tail _ (.tail _ (.tail _ (.tail _ (.tail _ (.tail _ (.tail _ (.tail _ (.tail _ (.tail _ (.tail _ (.tail _ (.tail _ (.tail _ (.tail _ (.tail _ (.tail _ (.tail _ (.tail _ (.head _))))))))))))))))))))))))))
      | ._law_number, _ => He.glo_ok X G (fact_of c (List.mem_append_left _ (show _ ∈ faL0 from (.tail _ (.tail _ (.tail _ (.tail _ (.tail _ (.tail _ (.tail _ (.tail _ (.tail _ (.tail _ (.tail _ (.tail _ (.tail _ (.tail _ (.tail _ (.tail _ (.tail _ (.tail _ (.tail _ (.tail _ (.tail _ (.tail _ (.tail _ (.head _)))))))))))))))))))))))))))
      | ._law_word, _ => He.glo_ok X G (fact_of c (List.mem_append_left _ (show _ ∈ faL0 from (.tail _ (.tail _ (.tail _ (.tail _ (.tail _ (.tail _ (.tail _ (.tail _ (.tail _ (.tail _ (.tail _ (.tail _ (.tail _ (.tail _ (.tail _ (.tail _ (.tail _ (.tail _ (.tail _ (.tail _ (.tail _ (.tail _ (.tail _ (.tail _ (.head _))))))))))))))))))))))))))))
      | ._law_part, _ => He.glo_ok X G (fact_of c (List.mem_append_left _ (show _ ∈ faL0 from (.tail _ (.tail _ (.tail _ (.tail _ (.tail _ (.tail _ (.tail _ (.tail _ (.tail _ (.tail _ (.tail _ (.tail _ (.tail _ (.tail _ (.tail _ (.tail _ (.tail _ (.tail _ (.tail _ (.tail _ (.tail _ (.tail _ (.tail _ (.tail _ (.tail _ (.head _)))))))))))))))))))))))))))))
      | ._law_expr, _ => He.glo_ok X G (fact_of c (List.mem_append_left _ (show _ ∈ faL0 from (.tail _ (.tail _ (.tail _ (.tail _ (.tail _ (.tail _ (.tail _ (.tail _ (.tail _ (.tail _ (.tail _ (.tail _ (.tail _ (.tail _ (.tail _ (.tail _ (.tail _ (.tail _ (.tail _ (.tail _ (.tail _ (.tail _ (.tail _ (.tail _ (.tail _ (.tail _ (.head _))))))))))))))))))))))))))))))
      | ._law_leaf, _ => He.glo_ok X G (fact_of c (List.mem_append_left _ (show _ ∈ faL0 from (.tail _ (.tail _ (.tail _ (.tail _ (.tail _ (.tail _ (.tail _ (.tail _ (.tail _ (.tail _ (.tail _ (.tail _ (.tail _ (.tail _ (.tail _ (.tail _ (.tail _ (.tail _ (.tail _ (.tail _ (.tail _ (.tail _ (.tail _ (.tail _ (.tail _ (.tail _ (.tail _ (.head _)))))))))))))))))))))))))))))))
      | ._law_joined, _ => He.glo_ok X G (fact_of c (List.mem_append_left _ (show _ ∈ faL0 from (.tail _ (.tail _ (.tail _ (.tail _ (.tail _ (.tail _ (.tail _ (.tail _ (.tail _ (.tail _ (.tail _ (.tail _ (.tail _ (.tail _ (.tail _ (.tail _ (.tail _ (.tail _ (.tail _ (.tail _ (.tail _ (.tail _ (.tail _ (.tail _ (.tail _ (.tail _ (.tail _ (.tail _ (.head _))))))))))))))))))))))))))))))))
      | ._law_level, _ => He.glo_ok X G (fact_of c (List.mem_append_left _ (show _ ∈ faL0 from (.tail _ (.tail _ (.tail _ (.tail _ (.tail _ (.tail _ (.tail _ (.tail _ (.tail _ (.tail _ (.tail _ (.tail _ (.tail _ (.tail _ (.tail _ (.tail _ (.tail _ (.tail _ (.tail _ (.tail _ (.tail _ (.tail _ (.tail _ (.tail _ (.tail _ (.tail _ (.tail _ (.tail _ (.tail _ (.head _)))))))))))))))))))))))))))))))))
      | ._law_told, _ => He.glo_ok X G (fact_of c (List.mem_append_right _ (show _ ∈ faL1 from (.head _))))
      | ._law_value, _ => He.glo_ok X G (fact_of c (List.mem_append_right _ (show _ ∈ faL1 from (.tail _ (.head _)))))
      | ._law_leaf_level, _ => He.glo_ok X G (fact_of c (List.mem_append_right _ (show _ ∈ faL1 from (.tail _ (.tail _ (.head _))))))
      | ._law_marked, _ => He.glo_ok X G (fact_of c (List.mem_append_right _ (show _ ∈ faL1 from (.tail _ (.tail _ (.tail _ (.head _)))))))
      | ._law_same, _ => He.glo_ok X G (fact_of c (List.mem_append_right _ (show _ ∈ faL1 from (.tail _ (.tail _ (.tail _ (.tail _ (.head _))))))))
      | ._law_truth_same, _ => He.glo_ok X G (fact_of c (List.mem_append_right _ (show _ ∈ faL1 from (.tail _ (.tail _ (.tail _ (.tail _ (.tail _ (.head _)))))))))
      | ._law_values, _ => He.glo_ok X G (fact_of c (List.mem_append_right _ (show _ ∈ faL1 from (.tail _ (.tail _ (.tail _ (.tail _ (.tail _ (.tail _ (.head _))))))))))
      | ._law_at_values, _ => He.glo_ok X G (fact_of c (List.mem_append_right _ (show _ ∈ faL1 from (.tail _ (.tail _ (.tail _ (.tail _ (.tail _ (.tail _ (.tail _ (.head _)))))))))))
      | ._law_unit, _ => He.glo_ok X G (fact_of c (List.mem_append_right _ (show _ ∈ faL1 from (.tail _ (.tail _ (.tail _ (.tail _ (.tail _ (.tail _ (.tail _ (.tail _ (.head _))))))))))))
      | .law, _ => He.glo_ok X G (fact_of c (List.mem_append_right _ (show _ ∈ faL1 from (.tail _ (.tail _ (.tail _ (.tail _ (.tail _ (.tail _ (.tail _ (.tail _ (.tail _ (.head _)))))))))))))
      | .mark_value__step, h => by cases h
      | .mark_truth__step, h => by cases h)
    ns := (fun f hf => match f, hf with
      | .parts_of, _ => He.eqO_ok (fact_of c (List.mem_append_left _ (show _ ∈ faL0 from (.head _))))
      | .reduced, _ => He.eqO_ok (fact_of c (List.mem_append_left _ (show _ ∈ faL0 from (.tail _ (.head _)))))
      | .columns_in, _ => He.eqO_ok (fact_of c (List.mem_append_left _ (show _ ∈ faL0 from (.tail _ (.tail _ (.head _))))))
      | .leaves_of, _ => He.eqO_ok (fact_of c (List.mem_append_left _ (show _ ∈ faL0 from (.tail _ (.tail _ (.tail _ (.head _)))))))
      | .columns_at, _ => He.eqO_ok (fact_of c (List.mem_append_left _ (show _ ∈ faL0 from (.tail _ (.tail _ (.tail _ (.tail _ (.head _))))))))
      | .is_column, _ => He.eqO_ok (fact_of c (List.mem_append_left _ (show _ ∈ faL0 from (.tail _ (.tail _ (.tail _ (.tail _ (.tail _ (.head _)))))))))
      | .negated, _ => He.eqO_ok (fact_of c (List.mem_append_left _ (show _ ∈ faL0 from (.tail _ (.tail _ (.tail _ (.tail _ (.tail _ (.tail _ (.head _))))))))))
      | .perhaps, _ => He.eqO_ok (fact_of c (List.mem_append_left _ (show _ ∈ faL0 from (.tail _ (.tail _ (.tail _ (.tail _ (.tail _ (.tail _ (.tail _ (.head _)))))))))))
      | .both, _ => He.eqO_ok (fact_of c (List.mem_append_left _ (show _ ∈ faL0 from (.tail _ (.tail _ (.tail _ (.tail _ (.tail _ (.tail _ (.tail _ (.tail _ (.head _))))))))))))
      | .either, _ => He.eqO_ok (fact_of c (List.mem_append_left _ (show _ ∈ faL0 from (.tail _ (.tail _ (.tail _ (.tail _ (.tail _ (.tail _ (.tail _ (.tail _ (.tail _ (.head _)))))))))))))
      | .compared, _ => He.eqO_ok (fact_of c (List.mem_append_left _ (show _ ∈ faL0 from (.tail _ (.tail _ (.tail _ (.tail _ (.tail _ (.tail _ (.tail _ (.tail _ (.tail _ (.tail _ (.head _))))))))))))))
      | .possible, _ => He.eqO_ok (fact_of c (List.mem_append_left _ (show _ ∈ faL0 from (.tail _ (.tail _ (.tail _ (.tail _ (.tail _ (.tail _ (.tail _ (.tail _ (.tail _ (.tail _ (.tail _ (.head _)))))))))))))))
      | .never_on_nulls, _ => He.eqO_ok (fact_of c (List.mem_append_left _ (show _ ∈ faL0 from (.tail _ (.tail _ (.tail _ (.tail _ (.tail _ (.tail _ (.tail _ (.tail _ (.tail _ (.tail _ (.tail _ (.tail _ (.head _))))))))))))))))
      | .truths_of, _ => He.eqO_ok (fact_of c (List.mem_append_left _ (show _ ∈ faL0 from (.tail _ (.tail _ (.tail _ (.tail _ (.tail _ (.tail _ (.tail _ (.tail _ (.tail _ (.tail _ (.tail _ (.tail _ (.tail _ (.head _)))))))))))))))))
      | .truths_alone, _ => He.eqO_ok (fact_of c (List.mem_append_left _ (show _ ∈ faL0 from (.tail _ (.tail _ (.tail _ (.tail _ (.tail _ (.tail _ (.tail _ (.tail _ (.tail _ (.tail _ (.tail _ (.tail _ (.tail _ (.tail _ (.head _))))))))))))))))))
      | .has_column_of, _ => He.eqO_ok (fact_of c (List.mem_append_left _ (show _ ∈ faL0 from (.tail _ (.tail _ (.tail _ (.tail _ (.tail _ (.tail _ (.tail _ (.tail _ (.tail _ (.tail _ (.tail _ (.tail _ (.tail _ (.tail _ (.tail _ (.head _)))))))))))))))))))
      | .reckoned, _ => He.eqO_ok (fact_of c (List.mem_append_left _ (show _ ∈ faL0 from (.tail _ (.tail _ (.tail _ (.tail _ (.tail _ (.tail _ (.tail _ (.tail _ (.tail _ (.tail _ (.tail _ (.tail _ (.tail _ (.tail _ (.tail _ (.tail _ (.head _))))))))))))))))))))
      | .truth_joined, _ => He.eqO_ok (fact_of c (List.mem_append_left _ (show _ ∈ faL0 from (.tail _ (.tail _ (.tail _ (.tail _ (.tail _ (.tail _ (.tail _ (.tail _ (.tail _ (.tail _ (.tail _ (.tail _ (.tail _ (.tail _ (.tail _ (.tail _ (.tail _ (.head _)))))))))))))))))))))
      | .mark_value, _ => He.eqO_ok (fact_of c (List.mem_append_left _ (show _ ∈ faL0 from (.tail _ (.tail _ (.tail _ (.tail _ (.tail _ (.tail _ (.tail _ (.tail _ (.tail _ (.tail _ (.tail _ (.tail _ (.tail _ (.tail _ (.tail _ (.tail _ (.tail _ (.tail _ (.head _))))))))))))))))))))))
      | .mark_truth, _ => He.eqO_ok (fact_of c (List.mem_append_left _ (show _ ∈ faL0 from (.tail _ (.tail _ (.tail _ (.tail _ (.tail _ (.tail _ (.tail _ (.tail _ (.tail _ (.tail _ (.tail _ (.tail _ (.tail _ (.tail _ (.tail _ (.tail _ (.tail _ (.tail _ (.tail _ (.head _)))))))))))))))))))))))
      | .worth_of_one, _ => He.eqO_ok (fact_of c (List.mem_append_left _ (show _ ∈ faL0 from (.tail _ (.tail _ (.tail _ (.tail _ (.tail _ (.tail _ (.tail _ (.tail _ (.tail _ (.tail _ (.tail _ (.tail _ (.tail _ (.tail _ (.tail _ (.tail _ (.tail _ (.tail _ (.tail _ (.tail _ (.head _))))))))))))))))))))))))
      | ._law_deck, _ => He.eqO_ok (fact_of c (List.mem_append_left _ (show _ ∈ faL0 from (.tail _ (.tail _ (.tail _ (.tail _ (.tail _ (.tail _ (.tail _ (.tail _ (.tail _ (.tail _ (.tail _ (.tail _ (.tail _ (.tail _ (.tail _ (.tail _ (.tail _ (.tail _ (.tail _ (.tail _ (.tail _ (.head _)))))))))))))))))))))))))
      | ._law_pick, _ => He.eqO_ok (fact_of c (List.mem_append_left _ (show _ ∈ faL0 from (.tail _ (.tail _ (.tail _ (.tail _ (.tail _ (.tail _ (.tail _ (.tail _ (.tail _ (.tail _ (.tail _ (.tail _ (.tail _ (.tail _ (.tail _ (.tail _ (.tail _ (.tail _ (.tail _ (.tail _ (.tail _ (.tail _ (.head _))))))))))))))))))))))))))
      | ._law_number, _ => He.eqO_ok (fact_of c (List.mem_append_left _ (show _ ∈ faL0 from (.tail _ (.tail _ (.tail _ (.tail _ (.tail _ (.tail _ (.tail _ (.tail _ (.tail _ (.tail _ (.tail _ (.tail _ (.tail _ (.tail _ (.tail _ (.tail _ (.tail _ (.tail _ (.tail _ (.tail _ (.tail _ (.tail _ (.tail _ (.head _)))))))))))))))))))))))))))
      | ._law_word, _ => He.eqO_ok (fact_of c (List.mem_append_left _ (show _ ∈ faL0 from (.tail _ (.tail _ (.tail _ (.tail _ (.tail _ (.tail _ (.tail _ (.tail _ (.tail _ (.tail _ (.tail _ (.tail _ (.tail _ (.tail _ (.tail _ (.tail _ (.tail _ (.tail _ (.tail _ (.tail _ (.tail _ (.tail _ (.tail _ (.tail _ (.head _))))))))))))))))))))))))))))
      | ._law_part, _ => He.eqO_ok (fact_of c (List.mem_append_left _ (show _ ∈ faL0 from (.tail _ (.tail _ (.tail _ (.tail _ (.tail _ (.tail _ (.tail _ (.tail _ (.tail _ (.tail _ (.tail _ (.tail _ (.tail _ (.tail _ (.tail _ (.tail _ (.tail _ (.tail _ (.tail _ (.tail _ (.tail _ (.tail _ (.tail _ (.tail _ (.tail _ (.head _)))))))))))))))))))))))))))))
      | ._law_expr, _ => He.eqO_ok (fact_of c (List.mem_append_left _ (show _ ∈ faL0 from (.tail _ (.tail _ (.tail _ (.tail _ (.tail _ (.tail _ (.tail _ (.tail _ (.tail _ (.tail _ (.tail _ (.tail _ (.tail _ (.tail _ (.tail _ (.tail _ (.tail _ (.tail _ (.tail _ (.tail _ (.tail _ (.tail _ (.tail _ (.tail _ (.tail _ (.tail _ (.head _))))))))))))))))))))))))))))))
      | ._law_leaf, _ => He.eqO_ok (fact_of c (List.mem_append_left _ (show _ ∈ faL0 from (.tail _ (.tail _ (.tail _ (.tail _ (.tail _ (.tail _ (.tail _ (.tail _ (.tail _ (.tail _ (.tail _ (.tail _ (.tail _ (.tail _ (.tail _ (.tail _ (.tail _ (.tail _ (.tail _ (.tail _ (.tail _ (.tail _ (.tail _ (.tail _ (.tail _ (.tail _ (.tail _ (.head _)))))))))))))))))))))))))))))))
      | ._law_joined, _ => He.eqO_ok (fact_of c (List.mem_append_left _ (show _ ∈ faL0 from (.tail _ (.tail _ (.tail _ (.tail _ (.tail _ (.tail _ (.tail _ (.tail _ (.tail _ (.tail _ (.tail _ (.tail _ (.tail _ (.tail _ (.tail _ (.tail _ (.tail _ (.tail _ (.tail _ (.tail _ (.tail _ (.tail _ (.tail _ (.tail _ (.tail _ (.tail _ (.tail _ (.tail _ (.head _))))))))))))))))))))))))))))))))
      | ._law_level, _ => He.eqO_ok (fact_of c (List.mem_append_left _ (show _ ∈ faL0 from (.tail _ (.tail _ (.tail _ (.tail _ (.tail _ (.tail _ (.tail _ (.tail _ (.tail _ (.tail _ (.tail _ (.tail _ (.tail _ (.tail _ (.tail _ (.tail _ (.tail _ (.tail _ (.tail _ (.tail _ (.tail _ (.tail _ (.tail _ (.tail _ (.tail _ (.tail _ (.tail _ (.tail _ (.tail _ (.head _)))))))))))))))))))))))))))))))))
      | ._law_told, _ => He.eqO_ok (fact_of c (List.mem_append_right _ (show _ ∈ faL1 from (.head _))))
      | ._law_value, _ => He.eqO_ok (fact_of c (List.mem_append_right _ (show _ ∈ faL1 from (.tail _ (.head _)))))
      | ._law_leaf_level, _ => He.eqO_ok (fact_of c (List.mem_append_right _ (show _ ∈ faL1 from (.tail _ (.tail _ (.head _))))))
      | ._law_marked, _ => He.eqO_ok (fact_of c (List.mem_append_right _ (show _ ∈ faL1 from (.tail _ (.tail _ (.tail _ (.head _)))))))
      | ._law_same, _ => He.eqO_ok (fact_of c (List.mem_append_right _ (show _ ∈ faL1 from (.tail _ (.tail _ (.tail _ (.tail _ (.head _))))))))
      | ._law_truth_same, _ => He.eqO_ok (fact_of c (List.mem_append_right _ (show _ ∈ faL1 from (.tail _ (.tail _ (.tail _ (.tail _ (.tail _ (.head _)))))))))
      | ._law_values, _ => He.eqO_ok (fact_of c (List.mem_append_right _ (show _ ∈ faL1 from (.tail _ (.tail _ (.tail _ (.tail _ (.tail _ (.tail _ (.head _))))))))))
      | ._law_at_values, _ => He.eqO_ok (fact_of c (List.mem_append_right _ (show _ ∈ faL1 from (.tail _ (.tail _ (.tail _ (.tail _ (.tail _ (.tail _ (.tail _ (.head _)))))))))))
      | ._law_unit, _ => He.eqO_ok (fact_of c (List.mem_append_right _ (show _ ∈ faL1 from (.tail _ (.tail _ (.tail _ (.tail _ (.tail _ (.tail _ (.tail _ (.tail _ (.head _))))))))))))
      | .law, _ => He.eqO_ok (fact_of c (List.mem_append_right _ (show _ ∈ faL1 from (.tail _ (.tail _ (.tail _ (.tail _ (.tail _ (.tail _ (.tail _ (.tail _ (.tail _ (.head _)))))))))))))
      | .mark_value__step, h => by cases h
      | .mark_truth__step, h => by cases h)
    bd := (fun f hf => match f, hf with
      | .parts_of, _ => b0
      | .reduced, _ => b1
      | .columns_in, _ => b2
      | .leaves_of, _ => b3
      | .columns_at, _ => b4
      | .is_column, _ => b5
      | .negated, _ => b6
      | .perhaps, _ => b7
      | .both, _ => b8
      | .either, _ => b9
      | .compared, _ => b10
      | .possible, _ => b11
      | .never_on_nulls, _ => b12
      | .truths_of, _ => b13
      | .truths_alone, _ => b14
      | .has_column_of, _ => b15
      | .reckoned, _ => b16
      | .truth_joined, _ => b17
      | .mark_value, _ => b18
      | .mark_truth, _ => b19
      | .worth_of_one, _ => b20
      | ._law_deck, _ => b21
      | ._law_pick, _ => b22
      | ._law_number, _ => b23
      | ._law_word, _ => b24
      | ._law_part, _ => b25
      | ._law_expr, _ => b26
      | ._law_leaf, _ => b27
      | ._law_joined, _ => b28
      | ._law_level, _ => b29
      | ._law_told, _ => b30
      | ._law_value, _ => b31
      | ._law_leaf_level, _ => b32
      | ._law_marked, _ => b33
      | ._law_same, _ => b34
      | ._law_truth_same, _ => b35
      | ._law_values, _ => b36
      | ._law_at_values, _ => b37
      | ._law_unit, _ => b38
      | .law, _ => b39
      | .mark_value__step, h => by cases h
      | .mark_truth__step, h => by cases h)
    lawB := fun s u => by
      obtain ⟨_, _, _, _, _, _, _, _, _, rfl, _, _⟩ := F39.ex
      exact .of_eq rfl
    c_mark_value := (He.cT K ("mark_value", none)).1
    P_mark_value := (He.cT K ("mark_value", none)).2
    fc_mark_value := C18
    u_mark_value := by
      intro p hp e
      simp only [List.mem_cons, List.not_mem_nil, or_false] at hp
      rcases hp with rfl | rfl | rfl
      · rfl
      · exact (of_decide_eq_true ne_mark_value_mark_truth e.symm).elim
      · exact (of_decide_eq_true ne_mark_value_has_column_of e.symm).elim
    c_mark_truth := (He.cT K ("mark_truth", none)).1
    P_mark_truth := (He.cT K ("mark_truth", none)).2
    fc_mark_truth := C19
    u_mark_truth := by
      intro p hp e
      simp only [List.mem_cons, List.not_mem_nil, or_false] at hp
      rcases hp with rfl | rfl | rfl
      · exact (of_decide_eq_true ne_mark_value_mark_truth e).elim
      · rfl
      · exact (of_decide_eq_true ne_mark_truth_has_column_of e.symm).elim
    c_has_column_of := (He.cT K ("has_column_of", none)).1
    P_has_column_of := (He.cT K ("has_column_of", none)).2
    fc_has_column_of := C15
    u_has_column_of := by
      intro p hp e
      simp only [List.mem_cons, List.not_mem_nil, or_false] at hp
      rcases hp with rfl | rfl | rfl
      · exact (of_decide_eq_true ne_mark_value_has_column_of e).elim
      · exact (of_decide_eq_true ne_mark_truth_has_column_of e).elim
      · rfl
    z_abs := He.free_ok X G (fact_of c (List.mem_append_right _ (show _ ∈ faL1 from (.tail _ (.tail _ (.tail _ (.tail _ (.tail _ (.tail _ (.tail _ (.tail _ (.tail _ (.tail _ (.tail _ (.tail _ (.tail _ (.tail _ (.head _))))))))))))))))))
    z_any := He.free_ok X G (fact_of c (List.mem_append_right _ (show _ ∈ faL1 from (.tail _ (.tail _ (.tail _ (.tail _ (.tail _ (.tail _ (.tail _ (.tail _ (.tail _ (.tail _ (.tail _ (.tail _ (.tail _ (.tail _ (.tail _ (.head _)))))))))))))))))))
    z_bool := He.free_ok X G (fact_of c (List.mem_append_right _ (show _ ∈ faL1 from (.tail _ (.tail _ (.tail _ (.tail _ (.tail _ (.tail _ (.tail _ (.tail _ (.tail _ (.tail _ (.tail _ (.tail _ (.tail _ (.tail _ (.tail _ (.tail _ (.head _))))))))))))))))))))
    z_int := He.free_ok X G (fact_of c (List.mem_append_right _ (show _ ∈ faL1 from (.tail _ (.tail _ (.tail _ (.tail _ (.tail _ (.tail _ (.tail _ (.tail _ (.tail _ (.tail _ (.tail _ (.tail _ (.tail _ (.tail _ (.tail _ (.tail _ (.tail _ (.head _)))))))))))))))))))))
    z_isinstance := He.free_ok X G (fact_of c (List.mem_append_right _ (show _ ∈ faL1 from (.tail _ (.tail _ (.tail _ (.tail _ (.tail _ (.tail _ (.tail _ (.tail _ (.tail _ (.tail _ (.tail _ (.tail _ (.tail _ (.tail _ (.tail _ (.tail _ (.tail _ (.tail _ (.head _))))))))))))))))))))))
    z_len := He.free_ok X G (fact_of c (List.mem_append_right _ (show _ ∈ faL1 from (.tail _ (.tail _ (.tail _ (.tail _ (.tail _ (.tail _ (.tail _ (.tail _ (.tail _ (.tail _ (.tail _ (.tail _ (.tail _ (.tail _ (.tail _ (.tail _ (.tail _ (.tail _ (.tail _ (.head _)))))))))))))))))))))))
    z_list := He.free_ok X G (fact_of c (List.mem_append_right _ (show _ ∈ faL1 from (.tail _ (.tail _ (.tail _ (.tail _ (.tail _ (.tail _ (.tail _ (.tail _ (.tail _ (.tail _ (.tail _ (.tail _ (.tail _ (.tail _ (.tail _ (.tail _ (.tail _ (.tail _ (.tail _ (.tail _ (.head _))))))))))))))))))))))))
    z_max := He.free_ok X G (fact_of c (List.mem_append_right _ (show _ ∈ faL1 from (.tail _ (.tail _ (.tail _ (.tail _ (.tail _ (.tail _ (.tail _ (.tail _ (.tail _ (.tail _ (.tail _ (.tail _ (.tail _ (.tail _ (.tail _ (.tail _ (.tail _ (.tail _ (.tail _ (.tail _ (.tail _ (.head _)))))))))))))))))))))))))
    z_min := He.free_ok X G (fact_of c (List.mem_append_right _ (show _ ∈ faL1 from (.tail _ (.tail _ (.tail _ (.tail _ (.tail _ (.tail _ (.tail _ (.tail _ (.tail _ (.tail _ (.tail _ (.tail _ (.tail _ (.tail _ (.tail _ (.tail _ (.tail _ (.tail _ (.tail _ (.tail _ (.tail _ (.tail _ (.head _))))))))))))))))))))))))))
    z_range := He.free_ok X G (fact_of c (List.mem_append_right _ (show _ ∈ faL1 from (.tail _ (.tail _ (.tail _ (.tail _ (.tail _ (.tail _ (.tail _ (.tail _ (.tail _ (.tail _ (.tail _ (.tail _ (.tail _ (.tail _ (.tail _ (.tail _ (.tail _ (.tail _ (.tail _ (.tail _ (.tail _ (.tail _ (.tail _ (.head _)))))))))))))))))))))))))))
    z_str := He.free_ok X G (fact_of c (List.mem_append_right _ (show _ ∈ faL1 from (.tail _ (.tail _ (.tail _ (.tail _ (.tail _ (.tail _ (.tail _ (.tail _ (.tail _ (.tail _ (.tail _ (.tail _ (.tail _ (.tail _ (.tail _ (.tail _ (.tail _ (.tail _ (.tail _ (.tail _ (.tail _ (.tail _ (.tail _ (.tail _ (.head _))))))))))))))))))))))))))))
    z_tuple := He.free_ok X G (fact_of c (List.mem_append_right _ (show _ ∈ faL1 from (.tail _ (.tail _ (.tail _ (.tail _ (.tail _ (.tail _ (.tail _ (.tail _ (.tail _ (.tail _ (.tail _ (.tail _ (.tail _ (.tail _ (.tail _ (.tail _ (.tail _ (.tail _ (.tail _ (.tail _ (.tail _ (.tail _ (.tail _ (.tail _ (.tail _ (.head _)))))))))))))))))))))))))))))
    kb_mark_truth_0_cond_worth_folds := by
      obtain ⟨_, _, _, _, _, _, _, _, _, rfl, _, _⟩ := F19.ex
      exact fun us ws h1 h2 => match us, ws, h1, h2 with | [], [_, _, _], _, _ => rfl
    kb_mark_value_0_expr_worth_folds := by
      obtain ⟨_, _, _, _, _, _, _, _, _, rfl, _, _⟩ := F18.ex
      exact fun us ws h1 h2 => match us, ws, h1, h2 with | [], [_, _, _], _, _ => rfl
    kb_never_on_nulls_0_cond_unit := by
      obtain ⟨_, _, _, _, _, _, _, _, _, rfl, _, _⟩ := F12.ex
      exact fun us ws h1 h2 => match us, ws, h1, h2 with | [], [_, _], _, _ => rfl
    kb_possible_0_cond_unit := by
      obtain ⟨_, _, _, _, _, _, _, _, _, rfl, _, _⟩ := F11.ex
      exact fun us ws h1 h2 => match us, ws, h1, h2 with | [], [_, _], _, _ => rfl
    c_LINKSa := He.ga K "LINKS"
    c_LINKSg := He.glo_ok X G (fact_of c (List.mem_append_right _ (show _ ∈ faL1 from (.tail _ (.tail _ (.tail _ (.tail _ (.tail _ (.tail _ (.tail _ (.tail _ (.tail _ (.tail _ (.head _))))))))))))))
    c_LINKSr := fun P b t H m => tupAt_ok t_LINKS P w b t H m
    c_NO_PLACESa := He.ga K "NO_PLACES"
    c_NO_PLACESg := He.glo_ok X G (fact_of c (List.mem_append_right _ (show _ ∈ faL1 from (.tail _ (.tail _ (.tail _ (.tail _ (.tail _ (.tail _ (.tail _ (.tail _ (.tail _ (.tail _ (.tail _ (.head _)))))))))))))))
    c_NO_PLACESr := fun P b t H m => tupAt_ok t_NO_PLACES P w b t H m
    c_PART_PLACESa := He.ga K "PART_PLACES"
    c_PART_PLACESg := He.glo_ok X G (fact_of c (List.mem_append_right _ (show _ ∈ faL1 from (.tail _ (.tail _ (.tail _ (.tail _ (.tail _ (.tail _ (.tail _ (.tail _ (.tail _ (.tail _ (.tail _ (.tail _ (.head _))))))))))))))))
    c_PART_PLACESd := cdict_of (c.t.tab 0 rfl) d_PART_PLACES
    c_TRUTHSa := He.ga K "TRUTHS"
    c_TRUTHSg := He.glo_ok X G (fact_of c (List.mem_append_right _ (show _ ∈ faL1 from (.tail _ (.tail _ (.tail _ (.tail _ (.tail _ (.tail _ (.tail _ (.tail _ (.tail _ (.tail _ (.tail _ (.tail _ (.tail _ (.head _)))))))))))))))))
    c_TRUTHSr := fun P b t H m => tupAt_ok t_TRUTHS P w b t H m
  }, (List.forall_mem_cons.mpr ⟨⟨c.empty _ (.head _), c.out _ (.head _), PySem.W.codeHd_of_K X (c.hd _ (.head _))⟩, (List.forall_mem_cons.mpr ⟨⟨c.empty _ (.tail _ (.head _)), c.out _ (.tail _ (.head _)), PySem.W.codeHd_of_K X (c.hd _ (.tail _ (.head _)))⟩, (List.forall_mem_cons.mpr ⟨⟨c.empty _ (.tail _ (.tail _ (.head _))), c.out _ (.tail _ (.tail _ (.head _))), PySem.W.codeHd_of_K X (c.hd _ (.tail _ (.tail _ (.head _))))⟩, (fun _ h => nomatch h)⟩)⟩)⟩)⟩
end
end Gn
namespace Gn
open PySem L2 Ml
theorem memA {α : Type} {x : α} {a b : List α} (h : x ∈ a ++ b) : x ∈ a ∨ x ∈ b := by simpa using h
theorem memC {α : Type} {x y : α} {b : List α} (h : x ∈ y :: b) : x = y ∨ x ∈ b := by simpa using h
theorem cut_mid (a b c : List D) : cutX (a ++ b ++ c) (some (a.length : Int)) (some ((a.length + b.length : Nat) : Int)) = b := by
  simp only [cutX, HT.sIx_nat]
  rw [Nat.min_eq_left (by simp), Nat.min_eq_left (by simp [List.length_append]), List.append_assoc, List.drop_left, Nat.add_sub_cancel_left, List.take_left]
theorem cut_pre (a b : List D) : cutX (a ++ b) none (some (a.length : Int)) = a := by
  simp only [cutX, HT.sIx_nat, HT.sIx_none]
  simp [List.length_append]
theorem cut_post (a b : List D) : cutX (a ++ b) (some (a.length : Int)) none = b := by
  simp only [cutX, HT.sIx_nat, HT.sIx_none]
  simp [List.length_append]
theorem at_zero {α : Type} (x : α) (xs : List α) : atI (x :: xs) 0 = some x := by simp [atI, ixN]
local macro_rules | `(tactic| array_get_dec) => `(tactic| with_reducible first | assumption | exact lk_new | (apply lk_set; array_get_dec) | (apply lk_ne (by first | assumption | omega); array_get_dec) | (apply lk_app; array_get_dec))
local macro_rules | `(tactic| array_mem_dec) => `(tactic| first
  | refine s_seq ?_ | refine th_nx ?_ | refine th_rt ?_ | refine th_bk ?_ | refine th_ct ?_ | refine re_rt ?_ | refine re_nx ?_ | refine tu_nx ?_ | refine tu_rt ?_ | refine tu_bk ?_ | refine tu_ct ?_
  | refine s_asg ?_ | refine s_if ?_ | refine s_rt ?_ | refine s_ex ?_ | refine s_nx ?_ | refine s_bk ?_ | refine s_ct ?_ | refine s_for ?_ | refine s_aug rfl ?_
  | refine g_name ?_ | refine g_subL ?_ | refine g_subD ?_ | refine g_tup rfl ?_ | refine gs_cons ?_ | refine gs_nil ?_
  | refine v_var rfl ?_ | refine v_con ?_ | refine v_pick ?_ | refine v_bin ?_ | refine v_call ?_ | refine v_tup ?_ | refine v_lst ?_ | refine v_app ?_ | refine v_neg ?_ | refine v_if ?_ | refine v_and ?_ | refine v_or ?_ | refine v_not ?_ | refine v_isi ?_ | refine v_met ?_ | refine v_sl ?_ | refine v_lrev ?_ | refine v_revT ?_ | refine v_comp ?_ | refine v_comp2 ?_ | refine v_getOr ?_ | refine v_cget ?_ | refine v_newD ?_
  | refine c_tst ?_ | refine c_tru ?_ | refine c_not ?_ | refine c_and ?_ | refine c_or ?_ | refine c_yes ?_
  | refine a_cons ?_ | refine a_nil ?_ | refine o_no ?_ | refine o_part ?_ | refine i_seq ?_ | refine i_rng1 ?_ | refine i_rngD ?_ | refine i_keys ?_ | refine one_i ?_
  | refine bl_i ?_ | refine int_i ?_ | refine str_i ?_ | refine tup_i ?_ | refine ref_i ?_ | refine tru_bl ?_ | refine tru_tup ?_ | (with_reducible apply tru_lst; array_get_dec) | refine sq_tup ?_ | (with_reducible apply sq_lst; array_get_dec)
  | refine o_eqI ?_ | refine o_eqS ?_ | refine o_eqB ?_ | refine o_neS ?_ | refine o_is ?_ | refine o_isn ?_ | refine o_lt ?_ | refine o_le ?_ | refine o_gt ?_ | refine o_ge ?_
  | refine o_ixT (at_zero _ _) ?_ | refine o_ixT rfl ?_ | refine o_addI ?_ | refine o_sub ?_ | refine o_iadd ?_ | refine o_isub ?_
  | refine f_lenT ?_ | refine f_lenR ?_ | (with_reducible apply f_lenL; array_get_dec) | refine f_intI ?_ | refine f_intB ?_ | refine f_abs ?_ | refine f_max ?_ | refine f_min ?_ | refine f_listT ?_ | (with_reducible apply f_listL; array_get_dec) | refine f_tupT ?_ | (with_reducible apply f_tupL; array_get_dec)
  | refine sl_t ?_
  | refine ⟨(rfl : List.length _ = _), ?_⟩)
local macro_rules | `(tactic| decreasing_trivial_pre_omega) => `(tactic| repeat array_mem_dec)
section
theorem at_rng {xs : List D} {i : Nat} {x : D} (h : xs[i]? = some x) : atI xs (i : Int) = some x := by
  have hl := lt_of h
  have : ixN xs.length (i : Int) = some i := by simp [ixN, hl]
  simp [atI, this, h]
end
local macro_rules | `(tactic| sizeOf_list_dec) => `(tactic| repeat (first | array_mem_dec | refine ⟨by simp only [List.length_cons, List.length_nil, sizeLine]; omega, ?_⟩))
section
/-- all but those at es stays -/
structure Ks (es : List Nat) (S S' : Sto) : Prop where
  at_ : ∀ (i : Nat) (o : O), i ∉ es → S[i]? = some o → S'[i]? = some o
  len : S.length ≤ S'.length
theorem Ks.refl {es S} : Ks es S S := ⟨fun _ _ _ h => h, Nat.le_refl _⟩
theorem Ks.trans {es S S1 S2} (a : Ks es S S1) (b : Ks es S1 S2) : Ks es S S2 := ⟨fun i o n h => b.at_ i o n (a.at_ i o n h), Nat.le_trans a.len b.len⟩
theorem Ks.app {es S S' J} (h : Ks es S S') : Ks es S (S' ++ J) := ⟨fun i o n e => lk_app (h.at_ i o n e), by have := h.len; simp; omega⟩
theorem Ks.set {es S S'} {n : Nat} {u : O} (h : Ks es S S') (hn : n ∈ es ∨ S.length ≤ n) : Ks es S (S'.set n u) := ⟨fun i o ni e => by
  have hne : i ≠ n := fun z => by
    subst z
    rcases hn with z | z
    · exact ni z
    · have := lt_of e; omega
  exact lk_ne hne (h.at_ i o ni e), by simpa using h.len⟩
theorem Ks.more {es fs S S'} (h : Ks es S S') (i : ∀ x ∈ es, x ∈ fs) : Ks fs S S' := ⟨fun j o n e => h.at_ j o (fun z => n (i j z)) e, h.len⟩
theorem Kp.ks {es S S'} (h : Kp S S') : Ks es S S' := ⟨fun i o _ e => h i o e, h.len⟩
/-- what was fresh may be spoilt -/
theorem Ks.drop {es S S'} {n : Nat} (h : Ks (n :: es) S S') (hn : S.length ≤ n) : Ks es S S' := ⟨fun j o nj e => h.at_ j o (fun z => by
  rcases memC z with z | z
  · have := lt_of e; omega
  · exact nj z) e, h.len⟩
/-- a deck -/
def Dk (p : Nat) (S : Sto) : Prop := ∃ ns : List Int, S[p]? = some (.lst (ns.map D.int))
theorem Dk.ks {p es S S'} (h : Dk p S) (k : Ks es S S') (n : p ∉ es) : Dk p S' := let ⟨ns, e⟩ := h; ⟨ns, k.at_ _ _ n e⟩
theorem Dk.app {p S J} (h : Dk p S) : Dk p (S ++ J) := let ⟨ns, e⟩ := h; ⟨ns, lk_app e⟩
theorem Dk.lt {p S} (h : Dk p S) : p < S.length := let ⟨_, e⟩ := h; lt_of e
theorem Dk.set {p S n u} (h : Dk p S) (hn : p ≠ n) : Dk p (S.set n u) := let ⟨ns, e⟩ := h; ⟨ns, lk_ne hn e⟩
variable {k p : Nat} {S : Sto} {Q : D → Sto → Prop}
theorem pick_ok {m : Int} (hm : 0 < m) (hp : Dk p S) (q : ∀ r S', 0 ≤ r → r < m → Ks [p] S S' → Dk p S' → Q (.int r) S') : w1 (den (k + 1) ._law_pick) [.ref p, .int m] S Q := by
  obtain ⟨ns, hp⟩ := hp
  refine w_body ?_
  unfold b__law_pick
  decreasing_trivial_pre_omega
  rcases List.eq_nil_or_concat ns with h | ⟨xs, y, h⟩
  · subst h
    refine iff_t ?_
    decreasing_trivial_pre_omega
    exact q 0 S (Int.le_refl _) hm .refl ⟨[], hp⟩
  · subst h
    have e : ((xs ++ [y]).map D.int).isEmpty = false := by simp
    rw [List.concat_eq_append] at *
    rw [e]
    refine iff_f ?_
    have hp' : S[p]? = some (.lst (xs.map D.int ++ [.int y])) := by rw [hp, List.map_append]; rfl
    decreasing_trivial_pre_omega
    refine ⟨ty_lst hp, ?_⟩
    decreasing_trivial_pre_omega
    refine m_pop hp' ?_
    decreasing_trivial_pre_omega
    refine o_mod hm ?_
    decreasing_trivial_pre_omega
    exact q _ _ (Int.emod_nonneg _ (by omega)) (Int.emod_lt_of_pos _ hm) (Ks.refl.set (.inl (by simp))) ⟨xs, lk_set hp'⟩
theorem number_ok (hp : Dk p S) (q : ∀ z S', 0 ≤ z → z ≤ 999999999 → Ks [p] S S' → Dk p S' → Q (.int z) S') : w1 (den (k + 2) ._law_number) [.ref p] S Q := by
  refine w_body ?_
  unfold b__law_number
  sizeOf_list_dec
  refine pick_ok (by decide) hp ?_
  intro r S1 h0 h1 k1 hp1
  sizeOf_list_dec
  refine iff_b (fun _ => ?_) (fun _ => ?_)
  · sizeOf_list_dec
    refine pick_ok (by decide) hp1 ?_
    intro r2 S2 h2 h3 k2 hp2
    sizeOf_list_dec
    exact q _ _ (by omega) (by omega) (k1.trans k2) hp2
  · sizeOf_list_dec
    refine pick_ok (by decide) hp1 ?_
    intro r2 S2 h2 h3 k2 hp2
    sizeOf_list_dec
    exact q _ _ (by omega) (by omega) (k1.trans k2) hp2
/-- an item of a list told on the spot, drawn -/
theorem at_in {xs : List D} {r : Int} (h0 : 0 ≤ r) (h1 : r < xs.length) : ∃ x, atI xs r = some x ∧ x ∈ xs := by
  obtain ⟨i, rfl⟩ := Int.eq_ofNat_of_zero_le h0
  have hi : i < xs.length := by omega
  exact ⟨xs[i], at_rng (List.getElem?_eq_getElem hi), List.getElem_mem hi⟩
def words : List Str := ["", "a", "ab", "b", "Zeta 9"]
theorem word_ok (hp : Dk p S) (q : ∀ z S', z ∈ words → Ks [p] S S' → Dk p S' → Q (.str z) S') : w1 (den (k + 2) ._law_word) [.ref p] S Q := by
  refine w_body ?_
  unfold b__law_word
  sizeOf_list_dec
  have hl := hp.lt
  refine pick_ok (by decide) hp.app ?_
  intro r S1 h0 h1 k1 hp1
  sizeOf_list_dec
  refine ⟨k1.at_ _ _ (by simp; omega) lk_new, ?_⟩
  obtain ⟨x, hx, hm⟩ := at_in (xs := [D.str "", .str "a", .str "ab", .str "b", .str "Zeta 9"]) h0 (by simpa using h1)
  refine ⟨x, hx, ?_⟩
  sizeOf_list_dec
  have hw : ∃ z, x = .str z ∧ z ∈ words := by
    simp at hm
    rcases hm with h | h | h | h | h <;> exact ⟨_, h, by simp [words]⟩
  obtain ⟨z, rfl, hz⟩ := hw
  exact q z S1 hz (Ks.refl.app.trans k1) hp1
end
section
theorem mul_r {i j : Int} (h : -(2 ^ 64) < j ∧ j < 2 ^ 64) : mulOk i j = true := by
  unfold mulOk
  rw [decide_eq_true h]; simp
theorem mul_l {i j : Int} (h : -(2 ^ 64) < i ∧ i < 2 ^ 64) : mulOk i j = true := by
  unfold mulOk
  rw [decide_eq_true h]; simp
def isI (xs : List D) : Prop := ∀ x ∈ xs, ∃ i, x = D.int i
theorem isI_rng (lo : Int) (n : Nat) : isI (rngD lo n) := by
  intro x hx
  simp only [rngD, List.mem_map] at hx
  obtain ⟨i, _, rfl⟩ := hx
  exact ⟨_, rfl⟩
theorem rng_len (lo : Int) (n : Nat) : (rngD lo n).length = n := by simp [rngD]
theorem isI_snoc {xs : List D} (h : isI xs) (i : Int) : isI (xs ++ [.int i]) := by
  intro x hx
  rcases memA hx with hx | hx
  · exact h x hx
  · simp at hx; exact ⟨i, hx⟩
theorem isI_ints : ∀ {xs : List D}, isI xs → ∃ ns : List Int, xs = ns.map D.int
  | [], _ => ⟨[], rfl⟩
  | x :: xs, h => by
    obtain ⟨i, rfl⟩ := h x (by simp)
    obtain ⟨ns, rfl⟩ := isI_ints (xs := xs) fun y hy => h y (by simp [hy])
    exact ⟨i :: ns, rfl⟩
theorem i_rl {γ : Sl} {S : Sto} {e : EvM} {Q : Option (Nat × O) → List D → Sto → Prop} (h : wE e γ S fun d S1 => ∃ xs, d = .rl xs ∧ Q none xs S1) : wI (rlI e) γ S Q := by
  obtain ⟨d, S1, e1, xs, rfl, q⟩ := h
  exact ⟨_, _, S1, by unfold rlI; simp only [e1], q⟩
theorem m_rev {n : Nat} {xs : List D} {S : Sto} {Q : D → Sto → Prop} (hn : S[n]? = some (.lst xs)) (q : Q .non (S.set n (.lst xs.reverse))) : wM reverseF (.ref n) [] S Q := ⟨.non, _, by unfold reverseF; simp only [hn], q⟩
variable {k p : Nat} {S : Sto} {Q : D → Sto → Prop}
theorem deck_ok {ns : List Int} (hns : ns.length ≤ 63) (q : ∀ r S', Kp S S' → Dk r S' → S[r]? = none → Q (.ref r) S') : w1 (den (k + 1) ._law_deck) [.rl (ns.map D.int)] S Q := by
  refine w_body ?_
  unfold b__law_deck
  sizeOf_list_dec
  rw [List.length_map]
  refine o_mul (mul_l ⟨by decide, by decide⟩) ?_
  sizeOf_list_dec
  refine i_rl ?_
  sizeOf_list_dec
  refine ⟨_, rfl, ?_⟩
  refine for_inv (fun rest γ T => ∃ (row : List D) (mix : Int) (a b c : Option D), isI rest ∧ rest.length ≤ 63 ∧ γ = [some (.rl (ns.map D.int)), some (.ref S.length), some (.int mix), a, b, c] ∧ T[S.length]? = some (.lst row) ∧ isI row ∧ row.length + 60 * rest.length ≤ 60 * 63 ∧ Kp S T) ?_ ?_ _ _ _ ?_
  · rintro x rest γ T ⟨row, mix, a, b, c, hr, hrl, rfl, ht, hrow, hlen, hk⟩
    refine ⟨trivial, ?_⟩
    obtain ⟨w, rfl⟩ := hr x (by simp)
    have hr' : isI rest := fun y hy => hr y (by simp [hy])
    simp only [List.length_cons] at hlen hrl
    sizeOf_list_dec
    refine o_mul (mul_r ⟨by decide, by decide⟩) ?_
    sizeOf_list_dec
    refine o_mod (by decide) ?_
    sizeOf_list_dec
    refine o_mul (mul_l ⟨by decide, by decide⟩) ?_
    sizeOf_list_dec
    refine o_mod (by decide) ?_
    sizeOf_list_dec
    generalize (if w < 0 then -w else w) = left
    refine iff_d (fun _ => ?_) (fun _ => ?_)
    · sizeOf_list_dec
      refine ⟨⟨by omega, by omega⟩, ?_⟩
      refine for_inv (fun rest2 γ T => ∃ (row : List D) (mix left : Int) (e : Option D), isI rest2 ∧ γ = [some (.rl (ns.map D.int)), some (.ref S.length), some (.int mix), some (.int w), some (.int left), e] ∧ T[S.length]? = some (.lst row) ∧ isI row ∧ row.length + rest2.length + 60 * rest.length ≤ 60 * 63 ∧ Kp S T) ?_ ?_ _ _ _ ?_
      · rintro x rest2 γ T ⟨row, mix, left, e, hr2, rfl, ht, hrow, hlen, hk⟩
        refine ⟨trivial, ?_⟩
        obtain ⟨tn, rfl⟩ := hr2 x (by simp)
        have hr2' : isI rest2 := fun y hy => hr2 y (by simp [hy])
        (simp only [List.length_cons] at hlen)
        sizeOf_list_dec
        refine iff_d (fun _ => ?_) (fun _ => ?_)
        · sizeOf_list_dec
          refine ⟨ty_lst ht, ?_⟩
          sizeOf_list_dec
          refine o_mod (by decide) ?_
          sizeOf_list_dec
          refine m_append ht (by simp only [sizeLine]; omega) ?_
          sizeOf_list_dec
          refine o_div (by decide +kernel) ?_
          sizeOf_list_dec
          exact ⟨_, _, _, _, hr2', rfl, lk_set ht, isI_snoc hrow _, by simp; omega, hk.set (by simp)⟩
        · sizeOf_list_dec
          exact ⟨_, _, _, _, hr2', rfl, ht, hrow, by omega, hk⟩
      · rintro γ T ⟨row, mix, left, e, hr2, rfl, ht, hrow, hlen, hk⟩
        refine ⟨trivial, ?_⟩
        refine .nx ⟨row, _, _, _, _, hr', by omega, rfl, ht, hrow, by simpa using hlen, hk⟩
      · refine ⟨row, _, left, _, isI_rng _ _, rfl, ht, hrow, ?_, hk⟩
        rw [rng_len]; simp; omega
    · sizeOf_list_dec
      exact ⟨row, _, _, _, _, hr', by omega, rfl, ht, hrow, by omega, hk⟩
  · rintro γ T ⟨row, mix, a, b, c, hr, hrl, rfl, ht, hrow, hlen, hk⟩
    refine ⟨trivial, ?_⟩
    sizeOf_list_dec
    refine ⟨⟨by omega, by omega⟩, ?_⟩
    refine for_inv (fun rest2 γ T => ∃ (row : List D) (mix : Int) (e : Option D), isI rest2 ∧ γ = [some (.rl (ns.map D.int)), some (.ref S.length), some (.int mix), a, b, e] ∧ T[S.length]? = some (.lst row) ∧ isI row ∧ row.length + rest2.length ≤ 60 * 63 + 330 ∧ Kp S T) ?_ ?_ _ _ _ ?_
    · rintro x rest2 γ T ⟨row, mix, e, hr2, rfl, ht, hrow, hlen, hk⟩
      refine ⟨trivial, ?_⟩
      obtain ⟨tn, rfl⟩ := hr2 x (by simp)
      have hr2' : isI rest2 := fun y hy => hr2 y (by simp [hy])
      (simp only [List.length_cons] at hlen)
      sizeOf_list_dec
      refine o_mul (mul_r ⟨by decide, by decide⟩) ?_
      sizeOf_list_dec
      refine o_mul (mul_l ⟨by decide, by decide⟩) ?_
      sizeOf_list_dec
      refine o_mod (by decide) ?_
      sizeOf_list_dec
      refine ⟨ty_lst ht, ?_⟩
      sizeOf_list_dec
      refine o_div (by decide +kernel) ?_
      sizeOf_list_dec
      refine o_mod (by decide) ?_
      sizeOf_list_dec
      refine m_append ht (by simp only [sizeLine]; omega) ?_
      sizeOf_list_dec
      exact ⟨_, _, _, hr2', rfl, lk_set ht, isI_snoc hrow _, by simp; omega, hk.set (by simp)⟩
    · rintro γ T ⟨row, mix, e, hr2, rfl, ht, hrow, hlen, hk⟩
      refine ⟨trivial, ?_⟩
      sizeOf_list_dec
      refine ⟨ty_lst ht, ?_⟩
      sizeOf_list_dec
      obtain ⟨ms, rfl⟩ := isI_ints hrow
      refine m_rev ht ?_
      sizeOf_list_dec
      refine q _ _ (hk.set (by simp)) ⟨ms.reverse, ?_⟩ (by simp)
      rw [lk_set ht, List.map_reverse]
    · refine ⟨row, mix, _, isI_rng _ _, rfl, ht, hrow, ?_, hk⟩
      rw [rng_len]; simp; omega
  · refine ⟨[], _, none, none, none, fun x hx => ?_, by simpa using hns, rfl, lk_new, by simp [isI], by simp; omega, Kp.refl.app⟩
    obtain ⟨i, _, rfl⟩ := List.mem_map.mp hx
    exact ⟨i, rfl⟩
end
section
/-! ### terms and leaves -/
inductive Tm where
  | num (z : Int) | text (s : Str) | col (u c : Nat) | neg (a : Tm) | bin (w : Str) (a b : Tm)
namespace Tm
def d : Tm → D
  | num z => .tup [.str "num", .int z]
  | text s => .tup [.str "text", .str s]
  | col u c => .tup [.str "col", .int u, .int c]
  | neg a => .tup [.str "neg", a.d]
  | bin w a b => .tup [.str w, a.d, b.d]
def cols : Tm → List (Nat × Nat)
  | num _ => [] | text _ => [] | col u c => [(u, c)] | neg a => a.cols | bin _ a b => a.cols ++ b.cols
def part : Tm → Prop
  | num z => 0 ≤ z ∧ z ≤ 999999999
  | col u c => u < 4 ∧ c < 2
  | _ => False
def okN : Tm → Prop
  | num z => 0 ≤ z ∧ z ≤ 999999999
  | col u c => u < 4 ∧ c < 2
  | text _ => False
  | neg a => a.okN
  | bin w a b => a.okN ∧ b.okN ∧ (w = "add" ∨ w = "sub" ∨ (w = "mul" ∧ b.part))
def okT : Tm → Prop
  | text s => s ∈ words
  | col u c => u < 4 ∧ c = 2
  | _ => False
def ht : Tm → Nat
  | neg a => a.ht + 1 | bin _ a b => max a.ht b.ht + 1 | _ => 0
theorem okN_of : ∀ {t : Tm}, t.part → t.okN
  | num z, h => h | col u c, h => h
theorem ht_part : ∀ {t : Tm}, t.part → t.ht = 0
  | num z, h => rfl | col u c, h => rfl
theorem ht_okT : ∀ {t : Tm}, t.okT → t.ht = 0
  | text z, h => rfl | col u c, h => rfl
end Tm
def cD (x : Nat × Nat) : D := .tup [.int x.1, .int x.2]
/-- the columns told so far -/
structure Cl (q : Nat) (S : Sto) (n : Nat) (cs : List (Nat × Nat)) : Prop where
  ex : ∃ xs : List (Nat × Nat), S[q]? = some (.lst (xs.map cD)) ∧ xs.length ≤ n ∧ ∀ x, x ∈ xs ↔ x ∈ cs
theorem Cl.ks {q n cs es S S'} (h : Cl q S n cs) (k : Ks es S S') (nq : q ∉ es) : Cl q S' n cs := let ⟨xs, e, l, m⟩ := h; ⟨xs, k.at_ _ _ nq e, l, m⟩
theorem Cl.lt {q n cs S} (h : Cl q S n cs) : q < S.length := let ⟨_, e, _⟩ := h; lt_of e
theorem Cl.app {q n cs S J} (h : Cl q S n cs) : Cl q (S ++ J) n cs := let ⟨xs, e, l, m⟩ := h; ⟨xs, lk_app e, l, m⟩
def okB (tx : Bool) (t : Tm) : Prop := if tx then t.okT else t.okN
variable {k p q n : Nat} {S : Sto} {Q : D → Sto → Prop} {cs : List (Nat × Nat)}
theorem nat_of {r : Int} (h0 : 0 ≤ r) : ∃ i : Nat, r = (i : Int) := Int.eq_ofNat_of_zero_le h0
theorem part_ok {tx : Bool} (hp : Dk p S) (hq : Cl q S n cs) (hn : n ≤ 1000) (hne : p ≠ q)
    (hQ : ∀ (t : Tm) S', (if tx then t.okT else t.part) → Ks [p, q] S S' → Dk p S' → Cl q S' (n + 1) (cs ++ t.cols) → Q t.d S') : w1 (den (k + 3) ._law_part) [.ref p, .bl tx, .ref q] S Q := by
  have n1 : q ∉ [p] := by simp; omega
  have m1 : ∀ x ∈ [p], x ∈ [p, q] := by simp
  refine w_body ?_
  unfold b__law_part
  sizeOf_list_dec
  refine pick_ok (by decide) hp ?_
  intro r S1 h0 h1 k1 hp1
  have hq1 := hq.ks k1 n1
  have up : ∀ {T : Sto}, Cl q T n cs → Cl q T (n + 1) (cs ++ []) := fun ⟨xs, e, l, m⟩ => ⟨xs, e, by omega, by simpa using m⟩
  sizeOf_list_dec
  refine iff_b (fun _ => ?_) (fun _ => ?_)
  · sizeOf_list_dec
    cases tx with
    | true =>
      refine iff_t ?_
      sizeOf_list_dec
      refine word_ok hp1 ?_
      intro z S2 hz k2 hp2
      sizeOf_list_dec
      exact hQ (.text z) S2 hz ((k1.trans k2).more m1) hp2 (up (hq1.ks k2 n1))
    | false =>
      refine iff_f ?_
      sizeOf_list_dec
      refine number_ok hp1 ?_
      intro z S2 z0 z1 k2 hp2
      sizeOf_list_dec
      exact hQ (.num z) S2 ⟨z0, z1⟩ ((k1.trans k2).more m1) hp2 (up (hq1.ks k2 n1))
  · sizeOf_list_dec
    refine pick_ok (by decide) hp1 ?_
    intro u S2 u0 u1 k2 hp2
    have hq2 := hq1.ks k2 n1
    obtain ⟨u, rfl⟩ := nat_of u0
    sizeOf_list_dec
    cases tx with
    | true =>
      refine iff_t ?_
      sizeOf_list_dec
      obtain ⟨xs, e, l, m⟩ := hq2
      refine ⟨ty_lst e, ?_⟩
      sizeOf_list_dec
      refine m_append e (by simp only [sizeLine, List.length_map]; omega) ?_
      sizeOf_list_dec
      refine hQ (.col u 2) _ ⟨by omega, by omega⟩ (((k1.trans k2).more m1).set (.inl (by simp))) (hp2.set hne) ⟨xs ++ [(u, 2)], ?_, by simp; omega, fun x => by simp only [List.mem_append, m, Tm.cols]⟩
      rw [lk_set e, List.map_append]; rfl
    | false =>
      refine iff_f ?_
      sizeOf_list_dec
      refine pick_ok (by decide) hp2 ?_
      intro c S3 c0 c1 k3 hp3
      obtain ⟨c, rfl⟩ := nat_of c0
      sizeOf_list_dec
      obtain ⟨xs, e, l, m⟩ := (hq2.ks k3 n1)
      refine ⟨ty_lst e, ?_⟩
      sizeOf_list_dec
      refine m_append e (by simp only [sizeLine, List.length_map]; omega) ?_
      sizeOf_list_dec
      refine hQ (.col u c) _ ⟨by omega, by omega⟩ ((((k1.trans k2).trans k3).more m1).set (.inl (by simp))) (hp3.set hne) ⟨xs ++ [(u, c)], ?_, by simp; omega, fun x => by simp only [List.mem_append, m, Tm.cols]⟩
      rw [lk_set e, List.map_append]; rfl
end
section
variable {k p q n : Nat} {S : Sto} {Q : D → Sto → Prop} {cs : List (Nat × Nat)}
theorem Cl.same {n m : Nat} {cs ds : List (Nat × Nat)} (h : Cl q S n cs) (l : n ≤ m) (e : ∀ x, x ∈ cs ↔ x ∈ ds) : Cl q S m ds := let ⟨xs, a, b, c⟩ := h; ⟨xs, a, by omega, fun x => (c x).trans (e x)⟩
theorem in3 {α : Type} {a b c : List α} : ∀ x, x ∈ a ++ b ++ c ↔ x ∈ a ++ (b ++ c) := fun x => by simp [or_assoc]
theorem in4 {α : Type} {a b c : List α} : ∀ x, x ∈ a ++ b ++ c ↔ x ∈ a ++ (c ++ b) := fun x => by simp only [List.mem_append]; rw [or_assoc, or_comm (a := x ∈ b)]
theorem expr_ok {tx : Bool} (hp : Dk p S) (hq : Cl q S n cs) (hn : n ≤ 900) (hne : p ≠ q)
    (hQ : ∀ (t : Tm) S', okB tx t → t.ht ≤ 3 → Ks [p, q] S S' → Dk p S' → Cl q S' (n + 4) (cs ++ t.cols) → Q t.d S') : w1 (den (k + 4) ._law_expr) [.ref p, .bl tx, .ref q] S Q := by
  have n1 : q ∉ [p] := by simp; omega
  have m1 : ∀ x ∈ [p], x ∈ [p, q] := by simp
  refine w_body ?_
  unfold b__law_expr
  sizeOf_list_dec
  refine part_ok (tx := tx) hp hq (by omega) hne ?_
  intro t0 S1 ht0 k1 hp1 hq1
  sizeOf_list_dec
  cases tx with
  | true =>
    refine iff_t ?_
    sizeOf_list_dec
    exact hQ t0 S1 ht0 (by rw [Tm.ht_okT ht0]; omega) k1 hp1 (hq1.same (by omega) fun _ => Iff.rfl)
  | false =>
    refine iff_f ?_
    have ht0 : t0.part := ht0
    have l1 := hp1.lt
    have l2 := hq1.lt
    sizeOf_list_dec
    refine pick_ok (by decide) hp1.app ?_
    intro r S2 r0 r1 k2 hp2
    sizeOf_list_dec
    have k12 : Ks [p, q] S S2 := (k1.app).trans (k2.more m1)
    have hq2 := hq1.app.ks k2 n1
    refine ⟨k2.at_ _ _ (by simp; omega) lk_new, ?_⟩
    obtain ⟨x, hx, hm⟩ := at_in (xs := [D.int 0, .int 0, .int 0, .int 1, .int 1, .int 2, .int 3]) r0 (by simpa using r1)
    refine ⟨x, hx, ?_⟩
    have hw : ∃ z : Nat, x = .int z ∧ z ≤ 3 := by
      simp at hm
      rcases hm with h | h | h | h <;> subst h
      · exact ⟨0, rfl, by omega⟩
      · exact ⟨1, rfl, by omega⟩
      · exact ⟨2, rfl, by omega⟩
      · exact ⟨3, rfl, by omega⟩
    obtain ⟨z, rfl, hz⟩ := hw
    sizeOf_list_dec
    refine ⟨⟨by omega, by omega⟩, ?_⟩
    refine for_inv (fun rest γ T => ∃ (t : Tm) (a b : Option D), γ = [some (.ref p), some (.bl false), some (.ref q), some t.d, a, b] ∧ t.okN ∧ t.ht + rest.length ≤ 3 ∧ Ks [p, q] S T ∧ Dk p T ∧ Cl q T (n + 4 - rest.length) (cs ++ t.cols)) ?_ ?_ _ _ _ ?_
    · rintro v rest γ T ⟨t, a, b, rfl, ht, hh, kT, hpT, hqT⟩
      refine ⟨trivial, ?_⟩
      simp only [List.length_cons] at hh hqT
      sizeOf_list_dec
      refine pick_ok (by decide) hpT ?_
      intro w T1 w0 w1 kT1 hpT1
      have kk := kT.trans (kT1.more m1)
      have hq1 := hqT.ks kT1 n1
      sizeOf_list_dec
      refine iff_b (fun _ => ?_) (fun hw4 => ?_)
      · sizeOf_list_dec
        exact ⟨.neg t, _, _, rfl, ht, by simp only [Tm.ht]; omega, kk, hpT1, hq1.same (by omega) fun _ => Iff.rfl⟩
      · sizeOf_list_dec
        refine iff_b (fun _ => ?_) (fun hw3 => ?_)
        · sizeOf_list_dec
          refine part_ok (tx := false) hpT1 hq1 (by omega) hne ?_
          intro t2 T2 ht2 kT2 hpT2 hqT2
          sizeOf_list_dec
          have ht2 : t2.part := ht2
          refine ⟨.bin "sub" t2 t, _, _, rfl, ⟨Tm.okN_of ht2, ht, .inr (.inl rfl)⟩, ?_, kk.trans kT2, hpT2, hqT2.same (by omega) in4⟩
          simp only [Tm.ht, Tm.ht_part ht2]; omega
        · sizeOf_list_dec
          obtain ⟨w, rfl⟩ := nat_of w0
          have hw3' : w < 3 := by
            simp only [beq_eq_false_iff_ne, ne_eq] at hw4 hw3
            omega
          obtain ⟨wd, hwd, hws⟩ : ∃ wd : Str, atI [D.str "add", .str "sub", .str "mul"] (w : Int) = some (.str wd) ∧ (wd = "add" ∨ wd = "sub" ∨ wd = "mul") := by
            rcases w with _ | _ | _ | w
            · exact ⟨_, rfl, .inl rfl⟩
            · exact ⟨_, rfl, .inr (.inl rfl)⟩
            · exact ⟨_, rfl, .inr (.inr rfl)⟩
            · omega
          refine ⟨lk_new, _, hwd, ?_⟩
          sizeOf_list_dec
          refine part_ok (tx := false) hpT1.app hq1.app (by omega) hne ?_
          intro t2 T2 ht2 kT2 hpT2 hqT2
          sizeOf_list_dec
          have ht2 : t2.part := ht2
          refine ⟨.bin wd t t2, _, _, rfl, ⟨ht, Tm.okN_of ht2, ?_⟩, ?_, kk.app.trans kT2, hpT2, hqT2.same (by omega) in3⟩
          · rcases hws with h | h | h
            · exact .inl h
            · exact .inr (.inl h)
            · exact .inr (.inr ⟨h, ht2⟩)
          · simp only [Tm.ht, Tm.ht_part ht2]; omega
    · rintro γ T ⟨t, a, b, rfl, ht, hh, kT, hpT, hqT⟩
      refine ⟨trivial, ?_⟩
      sizeOf_list_dec
      exact hQ t T ht (by simpa using hh) kT hpT (hqT.same (by omega) fun _ => Iff.rfl)
    · refine ⟨t0, none, none, rfl, Tm.okN_of ht0, ?_, k12, hp2, hq2.same ?_ fun _ => Iff.rfl⟩
      · rw [rng_len, Tm.ht_part ht0]; simp; omega
      · rw [rng_len]; simp; omega
/-- a leaf -/
inductive Lf where
  | null (a : Tm) | cmp (op : Str) (a b : Tm)
def ops : List Str := ["=", "<>", "<", "<=", ">", ">="]
namespace Lf
def d : Lf → D
  | null a => .tup [.str "null", a.d]
  | cmp op a b => .tup [.str "cmp", .str op, a.d, b.d]
def cols : Lf → List (Nat × Nat)
  | null a => a.cols | cmp _ a b => a.cols ++ b.cols
def ok : Lf → Prop
  | null a => (∃ tx, okB tx a) ∧ a.ht ≤ 3
  | cmp op a b => op ∈ ops ∧ (∃ tx, okB tx a ∧ okB tx b) ∧ a.ht ≤ 3 ∧ b.ht ≤ 3
end Lf
/-- a leaf with its columns, as told -/
structure LvR (S : Sto) (p : Nat) (L : Lf) (d : D) : Prop where
  ex : ∃ q, d = .tup [L.d, .ref q] ∧ L.ok ∧ q ≠ p ∧ Cl q S 10 L.cols
theorem leaf_ok (hp : Dk p S) (hQ : ∀ (L : Lf) d S', LvR S' p L d → Ks [p] S S' → Dk p S' → Q d S') : w1 (den (k + 5) ._law_leaf) [.ref p] S Q := by
  have l0 := hp.lt
  have n1 : S.length ∉ [p] := by simp; omega
  have hne : p ≠ S.length := by omega
  have dr : ∀ {T : Sto}, Ks [p, S.length] S T → Ks [p] S T := fun h => (h.more (fs := [S.length, p]) (by simp)).drop (Nat.le_refl _)
  refine w_body ?_
  unfold b__law_leaf
  sizeOf_list_dec
  refine pick_ok (by decide) hp.app ?_
  intro r S1 r0 r1 k1 hp1
  have c0 : Cl S.length (S ++ [O.lst []]) 0 [] := ⟨[], lk_new, by simp, by simp⟩
  have c1 := c0.ks k1 n1
  have kk1 : Ks [p, S.length] S S1 := Ks.refl.app.trans (k1.more (by simp))
  generalize hb : (r == 0) = tx
  sizeOf_list_dec
  rw [hb]
  refine pick_ok (by decide) hp1 ?_
  intro r2 S2 r20 r21 k2 hp2
  have c2 := c1.ks k2 n1
  have kk2 := kk1.trans (k2.more (by simp))
  sizeOf_list_dec
  refine iff_b (fun _ => ?_) (fun _ => ?_)
  · sizeOf_list_dec
    refine expr_ok (tx := tx) hp2 c2 (by omega) hne ?_
    intro t S3 ht hh k3 hp3 c3
    sizeOf_list_dec
    exact hQ (.null t) _ S3 ⟨S.length, rfl, ⟨⟨tx, ht⟩, hh⟩, by omega, c3.same (by omega) fun x => by simp [Lf.cols]⟩ (dr (kk2.trans k3)) hp3
  · sizeOf_list_dec
    refine expr_ok (tx := tx) hp2 c2 (by omega) hne ?_
    intro t S3 ht hh k3 hp3 c3
    sizeOf_list_dec
    refine expr_ok (tx := tx) hp3 c3 (by omega) hne ?_
    intro t2 S4 ht2 hh2 k4 hp4 c4
    sizeOf_list_dec
    have l4 := c4.lt
    refine pick_ok (by decide) hp4.app ?_
    intro r3 S5 r30 r31 k5 hp5
    sizeOf_list_dec
    refine ⟨k5.at_ _ _ (by simp; have := hp4.lt; omega) lk_new, ?_⟩
    obtain ⟨x, hx, hm⟩ := at_in (xs := [D.str "=", .str "<>", .str "<", .str "<=", .str ">", .str ">="]) r30 (by simpa using r31)
    refine ⟨x, hx, ?_⟩
    have hw : ∃ z, x = .str z ∧ z ∈ ops := by
      simp at hm
      rcases hm with h | h | h | h | h | h <;> exact ⟨_, h, by simp [ops]⟩
    obtain ⟨z, rfl, hz⟩ := hw
    sizeOf_list_dec
    exact hQ (.cmp z t t2) _ S5 ⟨S.length, rfl, ⟨hz, ⟨tx, ht, ht2⟩, hh, hh2⟩, by omega, (c4.app.ks k5 n1).same (by omega) fun x => by simp [Lf.cols]⟩ (dr (((kk2.trans k3).trans k4).app.trans (k5.more (by simp)))) hp5
end
section
/-- a list told by a plain map -/
theorem comp_map {ck : Option (Nat × O)} {i n : Nat} {e : EvM} {γ : Sl} {S : Sto} {g : D → D} {acc xs : List D} {Q : Sto → Prop} (hn : S[n]? = some (.lst acc)) (hck : Chk ck S ∧ ∀ m o, ck = some (m, o) → m ≠ n)
    (he : ∀ x ∈ xs, ∀ (T : Sto) (Q' : D → Sto → Prop), Q' (g x) T → wE e (γ.set i (some x)) T Q') (hl : acc.length + xs.length ≤ 1000000) (q : Q (S.set n (.lst (acc ++ xs.map g)))) : wK ck (.one i) yesC e γ n xs S Q := by
  have hc : ∀ acc', Chk ck (S.set n (.lst acc')) := fun acc' => by
    obtain ⟨h1, h2⟩ := hck
    cases ck with
    | none => trivial
    | some c => obtain ⟨m, o⟩ := c; exact lk_ne (h2 m o rfl) h1
  refine k_inv (fun rest T => ∃ acc', T = S.set n (.lst acc') ∧ acc' ++ rest.map g = acc ++ xs.map g ∧ (∀ x ∈ rest, x ∈ xs) ∧ acc'.length + rest.length ≤ 1000000) ?_ ?_ _ _ ?_
  · rintro x rest T ⟨acc', rfl, h1, h2, h3⟩
    refine ⟨hc acc', _, rfl, ?_⟩
    sizeOf_list_dec
    refine iff_t ?_
    refine he x (h2 x (by simp)) _ _ ?_
    refine ⟨acc', lk_set hn, by simp only [sizeLine]; simp at h3; omega, acc' ++ [g x], by rw [List.set_set], by rw [← h1]; simp, fun y hy => h2 y (by simp [hy]), by simp at h3 ⊢; omega⟩
  · rintro T ⟨acc', rfl, h1, _, _⟩
    refine ⟨hc acc', ?_⟩
    rw [← h1] at q
    simpa using q
  · refine ⟨acc, ?_, rfl, fun _ h => h, hl⟩
    obtain ⟨hl, e⟩ := List.getElem?_eq_some_iff.mp hn
    rw [← e, List.set_getElem_self]
/-! ### bones -/
inductive Bn where
  | lf (i : Nat) | un (w : Str) (a : Bn) | bi (w : Str) (a b : Bn)
namespace Bn
def bone : Bn → D
  | lf i => .tup [.str "leaf", .int i] | un w a => .tup [.str w, a.bone] | bi w a b => .tup [.str w, a.bone, b.bone]
def tree (f : Nat → D) : Bn → D
  | lf i => f i | un w a => .tup [.str w, a.tree f] | bi w a b => .tup [.str w, a.tree f, b.tree f]
def idx : Bn → List Nat
  | lf i => [i] | un _ a => a.idx | bi _ a b => a.idx ++ b.idx
def ok : Bn → Prop
  | lf _ => True | un w a => (w = "not" ∨ w = "maybe") ∧ a.ok | bi w a b => (w = "and" ∨ w = "or") ∧ a.ok ∧ b.ok
def ht : Bn → Nat
  | lf _ => 0 | un _ a => a.ht + 1 | bi _ a b => max a.ht b.ht + 1
end Bn
theorem split1 {α : Type} {xs : List α} {i : Nat} (h : i < xs.length) : ∃ l x r, xs = l ++ x :: r ∧ l.length = i :=
  ⟨xs.take i, xs[i], xs.drop (i + 1), by rw [← List.drop_eq_getElem_cons h, List.take_append_drop], by simp; omega⟩
theorem split2 {α : Type} {xs : List α} {i : Nat} (h : i + 1 < xs.length) : ∃ l x y r, xs = l ++ x :: y :: r ∧ l.length = i := by
  obtain ⟨l, x, r, e, hl⟩ := split1 (xs := xs) (i := i) (by omega)
  cases r with
  | nil => subst e; simp at h; omega
  | cons y r => exact ⟨l, x, y, r, e, hl⟩
theorem set_mid {α : Type} (l : List α) (x y : α) (r : List α) : (l ++ x :: r).set l.length y = l ++ y :: r := by simp
theorem at_mid (l : List D) (x : D) (r : List D) : atI (l ++ x :: r) (l.length : Int) = some x := at_rng (by simp)
theorem at_mid2 (l : List D) (x y : D) (r : List D) : atI (l ++ x :: y :: r) ((l.length : Int) + 1) = some y := by
  have := at_rng (xs := l ++ x :: y :: r) (i := l.length + 1) (x := y) (by simp)
  simpa using this
theorem ix_nat {n i : Nat} (h : i < n) : ixN n (i : Int) = some i := by simp [ixN, h]
end
section
variable {k p n : Nat} {S : Sto} {Q : D → Sto → Prop}
/-- the trees and bones under way -/
structure Jn (f : Nat → D) (N h : Nat) (S : Sto) (a b : Nat) (bs : List Bn) : Prop where
  ta : S[a]? = some (.lst (bs.map (Bn.tree f)))
  tb : S[b]? = some (.lst (bs.map Bn.bone))
  ne : a ≠ b
  idx : bs.flatMap Bn.idx = List.range N
  ok : ∀ x ∈ bs, x.ok ∧ x.ht ≤ h
  pos : 0 < bs.length ∧ bs.length ≤ N
theorem at_m (f : Bn → D) (l : List Bn) (x : Bn) (r : List Bn) : atI ((l ++ x :: r).map f) (l.length : Int) = some (f x) := at_rng (by simp)
theorem at_m2 (f : Bn → D) (l : List Bn) (x y : Bn) (r : List Bn) : atI ((l ++ x :: y :: r).map f) ((l.length : Int) + 1) = some (f y) := by
  have := at_rng (xs := (l ++ x :: y :: r).map f) (i := l.length + 1) (x := f y) (by simp)
  simpa using this
theorem set_m (f : Bn → D) (l : List Bn) (x z : Bn) (r : List Bn) : ((l ++ x :: r).map f).set l.length (f z) = (l ++ z :: r).map f := by
  rw [List.map_append, List.map_append, List.map_cons, List.map_cons]
  have : l.length = (l.map f).length := by simp
  rw [this, List.set_append_right _ _ (Nat.le_refl _)]
  simp
theorem cut_m1 (f : Bn → D) (l : List Bn) (z y : Bn) (r : List Bn) : cutX ((l ++ z :: y :: r).map f) none (some ((l.length : Int) + 1)) = (l ++ [z]).map f := by
  have := cut_pre ((l ++ [z]).map f) ((y :: r).map f)
  rw [← List.map_append] at this
  simpa using this
theorem cut_m2 (f : Bn → D) (l : List Bn) (z y : Bn) (r : List Bn) : cutX ((l ++ z :: y :: r).map f) (some ((l.length : Int) + 2)) none = r.map f := by
  have := cut_post ((l ++ [z, y]).map f) (r.map f)
  rw [← List.map_append] at this
  simpa using this
theorem app_m (f : Bn → D) (l : List Bn) (z : Bn) (r : List Bn) : (l ++ [z]).map f ++ r.map f = (l ++ z :: r).map f := by simp
theorem cut_two (f : Bn → D) (x y : Bn) (r : List Bn) : cutX ((x :: y :: r).map f) (some 2) none = r.map f := by
  have := cut_post ([x, y].map f) (r.map f)
  simpa using this
theorem Jn.swap {f : Nat → D} {N h : Nat} {S T : Sto} {a b a' b' : Nat} {l r m : List Bn} {z : Bn} (h1 : Jn f N h S a b (l ++ m ++ r)) (ta : T[a']? = some (.lst ((l ++ z :: r).map (Bn.tree f)))) (tb : T[b']? = some (.lst ((l ++ z :: r).map Bn.bone))) (ne : a' ≠ b') (hi : z.idx = m.flatMap Bn.idx) (hz : z.ok ∧ z.ht ≤ h + 1) (hm : 0 < m.length) : Jn f N (h + 1) T a' b' (l ++ z :: r) := by
  refine ⟨ta, tb, ne, ?_, fun x hx => ?_, ?_⟩
  · rw [← h1.idx]; simp [hi]
  · rcases memA hx with hx | hx
    · obtain ⟨a, b⟩ := h1.ok x (by simp [hx]); exact ⟨a, by omega⟩
    · rcases memC hx with hx | hx
      · subst hx; exact hz
      · obtain ⟨a, b⟩ := h1.ok x (by simp [hx]); exact ⟨a, by omega⟩
  · have := h1.pos; simp at this ⊢; omega
def headD : D → D
  | .tup (x :: _) => x
  | _ => .non
def fOf (ls : List Lf) (i : Nat) : D := match ls[i]? with
  | some L => L.d
  | none => .non
theorem joined_ok {ls : List Lf} {xs : List D} (hp : Dk p S) (hn : S[n]? = some (.lst xs)) (hx : xs.map headD = ls.map Lf.d) (ht : ∀ x ∈ xs, ∃ y ys, x = .tup (y :: ys)) (h0 : 0 < ls.length) (h1 : ls.length ≤ 5) (hne : p ≠ n)
    (hQ : ∀ (b : Bn) S', b.ok → b.ht ≤ 20 → b.idx = List.range ls.length → Ks [p] S S' → Dk p S' → Q (.tup [b.tree (fOf ls), b.bone]) S') : w1 (den (k + 2) ._law_joined) [.ref p, .ref n] S Q := by
  have hxl : xs.length = ls.length := by
    have := congrArg List.length hx
    simpa using this
  have ln := lt_of hn
  have lp := hp.lt
  refine w_body ?_
  unfold b__law_joined
  sizeOf_list_dec
  refine comp_map (g := headD) lk_new ⟨lk_app hn, fun m o e => by cases e; omega⟩ ?_ (by simp; omega) ?_
  · intro x hx' T Q' hQ'
    obtain ⟨y, ys, rfl⟩ := ht x hx'
    sizeOf_list_dec
    exact hQ'
  rw [hx, List.nil_append]
  have e1 : (S ++ [O.lst []]).set S.length (O.lst (ls.map Lf.d)) = S ++ [O.lst (ls.map Lf.d)] := by simp
  rw [e1]
  sizeOf_list_dec
  refine ⟨⟨by omega, by omega⟩, ?_⟩
  rw [Int.toNat_natCast]
  refine comp_map (g := fun d => .tup [.str "leaf", d]) lk_new ⟨trivial, fun m o e => by cases e⟩ ?_ (by rw [rng_len]; simp; omega) ?_
  · intro x hx' T Q' hQ'
    sizeOf_list_dec
    exact hQ'
  have e2 : ((rngD 0 xs.length).map fun d => D.tup [.str "leaf", d]) = ((List.range ls.length).map Bn.lf).map Bn.bone := by
    simp only [rngD, List.map_map, hxl]
    apply List.map_congr_left
    intro i _
    simp [Bn.bone]
  have e3 : ls.map Lf.d = ((List.range ls.length).map Bn.lf).map (Bn.tree (fOf ls)) := by
    rw [List.map_map]
    apply List.ext_getElem?
    intro i
    simp only [List.getElem?_map, Function.comp_apply]
    by_cases hi : i < ls.length
    · simp [hi, Bn.tree, fOf]
    · rw [List.getElem?_eq_none (by omega), List.getElem?_eq_none (by simp; omega)]; rfl
  rw [e2, List.nil_append]
  have e4 : (S ++ [O.lst (ls.map Lf.d)] ++ [O.lst []]).set (S ++ [O.lst (ls.map Lf.d)]).length (O.lst (((List.range ls.length).map Bn.lf).map Bn.bone)) = S ++ [O.lst (ls.map Lf.d)] ++ [O.lst (((List.range ls.length).map Bn.lf).map Bn.bone)] := by simp
  rw [e4]
  have hlen : (S ++ [O.lst (ls.map Lf.d)]).length = S.length + 1 := by simp
  rw [hlen]
  have J0 : Jn (fOf ls) ls.length 0 (S ++ [O.lst (ls.map Lf.d)] ++ [O.lst (((List.range ls.length).map Bn.lf).map Bn.bone)]) S.length (S.length + 1) ((List.range ls.length).map Bn.lf) := by
    refine ⟨?_, ?_, by omega, ?_, ?_, by simpa using h0⟩
    · rw [e3]; exact lk_app lk_new
    · rw [← hlen]; exact lk_new
    · simp [List.flatMap_map, Bn.idx]
    · intro x hx
      obtain ⟨i, _, rfl⟩ := List.mem_map.mp hx
      exact ⟨trivial, Nat.le_refl _⟩
  have K0 : Ks [p] S (S ++ [O.lst (ls.map Lf.d)] ++ [O.lst (((List.range ls.length).map Bn.lf).map Bn.bone)]) := Ks.refl.app.app
  have D0 : Dk p (S ++ [O.lst (ls.map Lf.d)] ++ [O.lst (((List.range ls.length).map Bn.lf).map Bn.bone)]) := hp.app.app
  have hn0 : (S ++ [O.lst (ls.map Lf.d)] ++ [O.lst (((List.range ls.length).map Bn.lf).map Bn.bone)])[n]? = some (.lst xs) := lk_app (lk_app hn)
  generalize S ++ [O.lst (ls.map Lf.d)] ++ [O.lst (((List.range ls.length).map Bn.lf).map Bn.bone)] = S0 at *
  sizeOf_list_dec
  refine o_mul (mul_l ⟨by decide, by decide⟩) ?_
  sizeOf_list_dec
  refine ⟨⟨by omega, by omega⟩, ?_⟩
  refine for_inv (fun rest γ T => ∃ (a b : Nat) (bs : List Bn) (x4 x5 x6 x7 x8 : Option D), γ = [some (.ref p), some (.ref n), some (.ref a), some (.ref b), x4, x5, x6, x7, x8] ∧ rest.length ≤ 15 ∧ Jn (fOf ls) ls.length (15 - rest.length) T a b bs ∧ Ks [p] S T ∧ Dk p T ∧ S.length ≤ a ∧ S.length ≤ b) ?_ ?_ _ _ _ ?_
  · rintro v rest γ T ⟨a, b, bs, x4, x5, x6, x7, x8, rfl, hr, J, kT, hpT, la, lb⟩
    refine ⟨trivial, ?_⟩
    simp only [List.length_cons] at hr J
    obtain ⟨h, hh⟩ : ∃ h, 15 - (rest.length + 1) = h := ⟨_, rfl⟩
    rw [hh] at J
    have hh2 : 15 - rest.length = h + 1 := by omega
    rw [hh2]
    obtain ⟨ta, tb, hab, hid, hok, hpos⟩ := id J
    sizeOf_list_dec
    rw [List.length_map]
    refine pick_ok (by omega) hpT ?_
    intro i T1 i0 i1 k1 hp1
    obtain ⟨i, rfl⟩ := nat_of i0
    have np : a ∉ [p] ∧ b ∉ [p] := by simp; omega
    have ta1 := k1.at_ _ _ np.1 ta
    have tb1 := k1.at_ _ _ np.2 tb
    clear ta tb
    sizeOf_list_dec
    refine pick_ok (by omega) hp1 ?_
    intro w T2 w0 w1 k2 hp2
    obtain ⟨w, rfl⟩ := nat_of w0
    have ta2 := k2.at_ _ _ np.1 ta1
    have tb2 := k2.at_ _ _ np.2 tb1
    clear ta1 tb1
    have kk := (kT.trans k1).trans k2
    sizeOf_list_dec
    refine iff_d (fun hw2 => ?_) (fun hw2 => ?_)
    · obtain ⟨wd, hwd, hws⟩ : ∃ wd : Str, atI [D.str "not", .str "maybe"] (w : Int) = some (.str wd) ∧ (wd = "not" ∨ wd = "maybe") := by
        rcases w with _ | _ | w
        · exact ⟨_, rfl, .inl rfl⟩
        · exact ⟨_, rfl, .inr rfl⟩
        · omega
      obtain ⟨l, x, r, rfl, hl⟩ := split1 (xs := bs) (i := i) (by omega)
      subst hl
      obtain ⟨ox, hxh⟩ := hok x (by simp)
      have hal := lt_of ta2
      have hbl := lt_of tb2
      sizeOf_list_dec
      refine ⟨lk_new, _, hwd, ?_⟩
      sizeOf_list_dec
      refine o_ixL (lk_app ta2) (at_m _ l x r) ?_
      sizeOf_list_dec
      refine ⟨_, lk_app ta2, l.length, ix_nat (by simp), ?_⟩
      rw [show D.tup [D.str wd, x.tree (fOf ls)] = (Bn.un wd x).tree (fOf ls) from rfl, set_m]
      sizeOf_list_dec
      refine o_ixL (lk_ne (Ne.symm hab) (lk_app tb2)) (at_m _ l x r) ?_
      sizeOf_list_dec
      refine ⟨_, lk_ne (Ne.symm hab) (lk_app tb2), l.length, ix_nat (by simp), ?_⟩
      rw [show D.tup [D.str wd, x.bone] = (Bn.un wd x).bone from rfl, set_m]
      sizeOf_list_dec
      refine ⟨a, b, l ++ .un wd x :: r, _, _, _, _, _, rfl, by omega, Jn.swap (m := [x]) (by simpa using J) (lk_ne hab (lk_set (lk_app ta2))) (lk_set (lk_ne (Ne.symm hab) (lk_app tb2))) hab (by simp [Bn.idx]) ⟨⟨hws, ox⟩, by simp only [Bn.ht]; omega⟩ (by simp), (kk.app.set (.inr la)).set (.inr lb), (hp2.app.set (by omega)).set (by omega), la, lb⟩
    · sizeOf_list_dec
      rw [List.length_map]
      refine iff_d (fun hl1 => ?_) (fun hl1 => ?_)
      · sizeOf_list_dec
        rw [List.length_map]
        obtain ⟨j, hj, hj2⟩ : ∃ j : Nat, (if (bs.length : Int) - 2 < i then (bs.length : Int) - 2 else i) = (j : Int) ∧ j + 1 < bs.length := by
          split
          · exact ⟨bs.length - 2, by omega, by omega⟩
          · exact ⟨i, rfl, by omega⟩
        rw [hj]
        sizeOf_list_dec
        obtain ⟨wd, hwd, hws⟩ : ∃ wd : Str, atI [D.str "and", .str "or"] ((w : Int) - 2) = some (.str wd) ∧ (wd = "and" ∨ wd = "or") := by
          rcases w with _ | _ | _ | _ | w
          · omega
          · omega
          · exact ⟨_, rfl, .inl rfl⟩
          · exact ⟨_, rfl, .inr rfl⟩
          · omega
        obtain ⟨l, x, y, r, rfl, hl⟩ := split2 (xs := bs) (i := j) hj2
        subst hl
        obtain ⟨ox, hxh⟩ := hok x (by simp)
        obtain ⟨oy, hyh⟩ := hok y (by simp)
        have hal := lt_of ta2
        have hbl := lt_of tb2
        refine ⟨lk_new, _, hwd, ?_⟩
        sizeOf_list_dec
        refine o_ixL (lk_app ta2) (at_m _ l x (y :: r)) ?_
        sizeOf_list_dec
        refine o_ixL (lk_app ta2) (at_m2 _ l x y r) ?_
        sizeOf_list_dec
        refine ⟨_, lk_app ta2, l.length, ix_nat (by simp), ?_⟩
        rw [show D.tup [D.str wd, x.tree (fOf ls), y.tree (fOf ls)] = (Bn.bi wd x y).tree (fOf ls) from rfl, set_m]
        sizeOf_list_dec
        refine o_ixL (lk_ne (Ne.symm hab) (lk_app tb2)) (at_m _ l x (y :: r)) ?_
        sizeOf_list_dec
        refine o_ixL (lk_ne (Ne.symm hab) (lk_app tb2)) (at_m2 _ l x y r) ?_
        sizeOf_list_dec
        refine ⟨_, lk_ne (Ne.symm hab) (lk_app tb2), l.length, ix_nat (by simp), ?_⟩
        rw [show D.tup [D.str wd, x.bone, y.bone] = (Bn.bi wd x y).bone from rfl, set_m]
        have kk2 : Ks [p] S (((T2 ++ [O.lst [D.str "and", .str "or"]]).set a (O.lst ((l ++ Bn.bi wd x y :: y :: r).map (Bn.tree (fOf ls))))).set b (O.lst ((l ++ Bn.bi wd x y :: y :: r).map Bn.bone))) := (kk.app.set (.inr la)).set (.inr lb)
        have hp3 : Dk p (((T2 ++ [O.lst [D.str "and", .str "or"]]).set a (O.lst ((l ++ Bn.bi wd x y :: y :: r).map (Bn.tree (fOf ls))))).set b (O.lst ((l ++ Bn.bi wd x y :: y :: r).map Bn.bone))) := (hp2.app.set (by omega)).set (by omega)
        have ta3 : (((T2 ++ [O.lst [D.str "and", .str "or"]]).set a (O.lst ((l ++ Bn.bi wd x y :: y :: r).map (Bn.tree (fOf ls))))).set b (O.lst ((l ++ Bn.bi wd x y :: y :: r).map Bn.bone)))[a]? = some (O.lst ((l ++ Bn.bi wd x y :: y :: r).map (Bn.tree (fOf ls)))) := lk_ne hab (lk_set (lk_app ta2))
        have tb3 : (((T2 ++ [O.lst [D.str "and", .str "or"]]).set a (O.lst ((l ++ Bn.bi wd x y :: y :: r).map (Bn.tree (fOf ls))))).set b (O.lst ((l ++ Bn.bi wd x y :: y :: r).map Bn.bone)))[b]? = some (O.lst ((l ++ Bn.bi wd x y :: y :: r).map Bn.bone)) := lk_set (lk_ne (Ne.symm hab) (lk_app tb2))
        generalize (((T2 ++ [O.lst [D.str "and", .str "or"]]).set a (O.lst ((l ++ Bn.bi wd x y :: y :: r).map (Bn.tree (fOf ls))))).set b (O.lst ((l ++ Bn.bi wd x y :: y :: r).map Bn.bone))) = T3 at *
        sizeOf_list_dec
        refine sl_l ta3 ?_
        rw [cut_m1]
        sizeOf_list_dec
        refine sl_l (lk_app ta3) ?_
        rw [cut_m2]
        sizeOf_list_dec
        have hbx : (l ++ x :: y :: r).length ≤ 5 := by omega
        simp only [List.length_append, List.length_cons] at hbx
        refine o_addL (lk_app lk_new) lk_new (by simp only [List.length_map, List.length_append, List.length_cons, List.length_nil, sizeLine]; omega) ?_
        rw [app_m]
        have kk3 := kk2.app (J := [O.lst ((l ++ [Bn.bi wd x y]).map (Bn.tree (fOf ls)))]) |>.app (J := [O.lst (r.map (Bn.tree (fOf ls)))]) |>.app (J := [O.lst ((l ++ Bn.bi wd x y :: r).map (Bn.tree (fOf ls)))])
        have hp4 := hp3.app (J := [O.lst ((l ++ [Bn.bi wd x y]).map (Bn.tree (fOf ls)))]) |>.app (J := [O.lst (r.map (Bn.tree (fOf ls)))]) |>.app (J := [O.lst ((l ++ Bn.bi wd x y :: r).map (Bn.tree (fOf ls)))])
        have tb4 := lk_app (J := [O.lst ((l ++ Bn.bi wd x y :: r).map (Bn.tree (fOf ls)))]) (lk_app (J := [O.lst (r.map (Bn.tree (fOf ls)))]) (lk_app (J := [O.lst ((l ++ [Bn.bi wd x y]).map (Bn.tree (fOf ls)))]) tb3))
        have ta4 := lk_new (S := T3 ++ [O.lst ((l ++ [Bn.bi wd x y]).map (Bn.tree (fOf ls)))] ++ [O.lst (r.map (Bn.tree (fOf ls)))]) (o := O.lst ((l ++ Bn.bi wd x y :: r).map (Bn.tree (fOf ls))))
        have l3 := kk2.len
        have hal3 : T3.length + 2 = (T3 ++ [O.lst ((l ++ [Bn.bi wd x y]).map (Bn.tree (fOf ls)))] ++ [O.lst (r.map (Bn.tree (fOf ls)))]).length := by simp
        have l5 : T3.length + 3 = (T3 ++ [O.lst ((l ++ [Bn.bi wd x y]).map (Bn.tree (fOf ls)))] ++ [O.lst (r.map (Bn.tree (fOf ls)))] ++ [O.lst ((l ++ Bn.bi wd x y :: r).map (Bn.tree (fOf ls)))]).length := by simp
        rw [← hal3] at ta4 ⊢
        generalize T3 ++ [O.lst ((l ++ [Bn.bi wd x y]).map (Bn.tree (fOf ls)))] ++ [O.lst (r.map (Bn.tree (fOf ls)))] ++ [O.lst ((l ++ Bn.bi wd x y :: r).map (Bn.tree (fOf ls)))] = T4 at *
        sizeOf_list_dec
        refine sl_l tb4 ?_
        rw [cut_m1]
        sizeOf_list_dec
        refine sl_l (lk_app tb4) ?_
        rw [cut_m2]
        sizeOf_list_dec
        refine o_addL (lk_app lk_new) lk_new (by simp only [List.length_map, List.length_append, List.length_cons, List.length_nil, sizeLine]; omega) ?_
        rw [app_m]
        sizeOf_list_dec
        refine ⟨_, _, l ++ .bi wd x y :: r, _, _, _, _, _, rfl, by omega, Jn.swap (m := [x, y]) (by simpa using J) (lk_app (lk_app (lk_app ta4))) lk_new (by simp; omega) (by simp [Bn.idx]) ⟨⟨hws, ox, oy⟩, by simp only [Bn.ht]; omega⟩ (by simp), kk3.app.app.app, hp4.app.app.app, by omega, by simp; omega⟩
      · sizeOf_list_dec
        exact ⟨a, b, bs, _, _, _, _, _, rfl, by omega, ⟨ta2, tb2, hab, hid, fun x hx => ⟨(hok x hx).1, by have := (hok x hx).2; omega⟩, hpos⟩, kk, hp2, la, lb⟩
  · rintro γ T ⟨a, b, bs, x4, x5, x6, x7, x8, rfl, hr, J, kT, hpT, la, lb⟩
    refine ⟨trivial, ?_⟩
    simp only [List.length_nil] at J
    refine .nx ?_
    refine s_seq ?_
    refine s_while ?_
    refine wh_inv (fun m γ T => ∃ (a b : Nat) (bs : List Bn) (x4 x5 x6 x7 x8 : Option D), γ = [some (.ref p), some (.ref n), some (.ref a), some (.ref b), x4, x5, x6, x7, x8] ∧ bs.length = m ∧ Jn (fOf ls) ls.length (20 - m) T a b bs ∧ Ks [p] S T ∧ Dk p T ∧ S.length ≤ a ∧ S.length ≤ b) ?_ turns bs.length _ _ ?_ (by have := J.pos; simp only [turns]; omega)
    · clear J la lb kT hpT
      rintro m γ T ⟨a, b, bs, x4, x5, x6, x7, x8, rfl, hm, J, kT, hpT, la, lb⟩
      obtain ⟨ta, tb, hab, hid, hok, hpos⟩ := id J
      sizeOf_list_dec
      rw [List.length_map]
      refine iff_d (fun hl1 => ?_) (fun hl1 => ?_)
      · obtain ⟨l, x, y, r, rfl, hl⟩ := split2 (xs := bs) (i := 0) (by omega)
        cases l with
        | cons _ _ => cases hl
        | nil =>
          obtain ⟨ox, hxh⟩ := hok x (by simp)
          obtain ⟨oy, hyh⟩ := hok y (by simp)
          have hal := lt_of ta
          have hbl := lt_of tb
          simp only [List.nil_append] at *
          simp only [List.length_cons] at hm hpos
          sizeOf_list_dec
          refine o_ixL ta (at_m _ [] x (y :: r)) ?_
          sizeOf_list_dec
          refine o_ixL ta (at_m2 _ [] x y r) ?_
          sizeOf_list_dec
          refine sl_l (lk_app ta) ?_
          rw [cut_two]
          sizeOf_list_dec
          have hrl : r.length ≤ 3 := by omega
          refine o_addL (lk_app lk_new) lk_new (by simp only [List.length_map, List.length_cons, List.length_nil, sizeLine]; omega) ?_
          rw [show [D.tup [D.str "or", x.tree (fOf ls), y.tree (fOf ls)]] ++ r.map (Bn.tree (fOf ls)) = (Bn.bi "or" x y :: r).map (Bn.tree (fOf ls)) from rfl]
          have kk1 := kT.app (J := [O.lst [D.tup [D.str "or", x.tree (fOf ls), y.tree (fOf ls)]]]) |>.app (J := [O.lst (r.map (Bn.tree (fOf ls)))]) |>.app (J := [O.lst ((Bn.bi "or" x y :: r).map (Bn.tree (fOf ls)))])
          have hp1 := hpT.app (J := [O.lst [D.tup [D.str "or", x.tree (fOf ls), y.tree (fOf ls)]]]) |>.app (J := [O.lst (r.map (Bn.tree (fOf ls)))]) |>.app (J := [O.lst ((Bn.bi "or" x y :: r).map (Bn.tree (fOf ls)))])
          have tb1 := lk_app (J := [O.lst ((Bn.bi "or" x y :: r).map (Bn.tree (fOf ls)))]) (lk_app (J := [O.lst (r.map (Bn.tree (fOf ls)))]) (lk_app (J := [O.lst [D.tup [D.str "or", x.tree (fOf ls), y.tree (fOf ls)]]]) tb))
          have ta1 := lk_new (S := T ++ [O.lst [D.tup [D.str "or", x.tree (fOf ls), y.tree (fOf ls)]]] ++ [O.lst (r.map (Bn.tree (fOf ls)))]) (o := O.lst ((Bn.bi "or" x y :: r).map (Bn.tree (fOf ls))))
          have l3 := kT.len
          have hal3 : T.length + 2 = (T ++ [O.lst [D.tup [D.str "or", x.tree (fOf ls), y.tree (fOf ls)]]] ++ [O.lst (r.map (Bn.tree (fOf ls)))]).length := by simp
          have l5 : T.length + 3 = (T ++ [O.lst [D.tup [D.str "or", x.tree (fOf ls), y.tree (fOf ls)]]] ++ [O.lst (r.map (Bn.tree (fOf ls)))] ++ [O.lst ((Bn.bi "or" x y :: r).map (Bn.tree (fOf ls)))]).length := by simp
          rw [← hal3] at ta1 ⊢
          generalize T ++ [O.lst [D.tup [D.str "or", x.tree (fOf ls), y.tree (fOf ls)]]] ++ [O.lst (r.map (Bn.tree (fOf ls)))] ++ [O.lst ((Bn.bi "or" x y :: r).map (Bn.tree (fOf ls)))] = T4 at *
          sizeOf_list_dec
          refine o_ixL tb1 (at_m _ [] x (y :: r)) ?_
          sizeOf_list_dec
          refine o_ixL tb1 (at_m2 _ [] x y r) ?_
          sizeOf_list_dec
          refine sl_l (lk_app tb1) ?_
          rw [cut_two]
          sizeOf_list_dec
          refine o_addL (lk_app lk_new) lk_new (by simp only [List.length_map, List.length_cons, List.length_nil, sizeLine]; omega) ?_
          rw [show [D.tup [D.str "or", x.bone, y.bone]] ++ r.map Bn.bone = (Bn.bi "or" x y :: r).map Bn.bone from rfl]
          sizeOf_list_dec
          refine ⟨m - 1, by omega, _, _, .bi "or" x y :: r, _, _, _, _, _, rfl, by simp; omega, ?_, kk1.app.app.app, hp1.app.app.app, by omega, by simp; omega⟩
          rw [show 20 - (m - 1) = 20 - m + 1 from by omega]
          exact Jn.swap (l := []) (m := [x, y]) (by simpa using J) (lk_app (lk_app (lk_app ta1))) lk_new (by simp; omega) (by simp [Bn.idx]) ⟨⟨.inr rfl, ox, oy⟩, by simp only [Bn.ht]; omega⟩ (by simp)
      · cases bs with
        | nil => simp at hpos
        | cons x r =>
          cases r with
          | cons y r => exfalso; simp at hl1; omega
          | nil =>
            sizeOf_list_dec
            refine o_ixL ta (at_m _ [] x []) ?_
            sizeOf_list_dec
            refine o_ixL tb (at_m _ [] x []) ?_
            sizeOf_list_dec
            obtain ⟨o1, o2⟩ := hok x (by simp)
            exact hQ x _ o1 (by omega) (by simpa using hid) kT hpT
    · obtain ⟨ta, tb, hab, hid, hok, hpos⟩ := id J
      exact ⟨a, b, bs, _, _, _, _, _, rfl, rfl, ⟨ta, tb, hab, hid, fun x hx => ⟨(hok x hx).1, by have := (hok x hx).2; omega⟩, hpos⟩, kT, hpT, la, lb⟩
  · refine ⟨_, _, (List.range ls.length).map Bn.lf, none, none, none, none, none, rfl, by rw [rng_len]; omega, ?_, K0, D0, Nat.le_refl _, by omega⟩
    obtain ⟨ta, tb, hab, hid, hok, hpos⟩ := J0
    exact ⟨ta, tb, hab, hid, fun x hx => ⟨(hok x hx).1, by have := (hok x hx).2; omega⟩, hpos⟩
end
section
/-! ### levels -/
namespace Bn
def lev (f : Nat → Nat) : Bn → Nat
  | lf i => f i
  | un w a => if w = "not" then 2 - a.lev f else if 0 < a.lev f then 2 else 0
  | bi w a b => if w = "and" then min (a.lev f) (b.lev f) else max (a.lev f) (b.lev f)
theorem lev_le {f : Nat → Nat} (h : ∀ i, f i ≤ 2) : ∀ b : Bn, b.lev f ≤ 2
  | lf i => h i
  | un w a => by have := lev_le h a; simp only [lev]; split <;> (try split) <;> omega
  | bi w a b => by have := lev_le h a; have := lev_le h b; simp only [lev]; split <;> omega
theorem lev_congr {f g : Nat → Nat} : ∀ b : Bn, (∀ i ∈ b.idx, f i = g i) → b.lev f = b.lev g
  | lf i, h => h i (by simp [idx])
  | un w a, h => by simp only [lev]; rw [lev_congr a h]
  | bi w a b, h => by simp only [lev]; rw [lev_congr a fun i hi => h i (by simp [idx, hi]), lev_congr b fun i hi => h i (by simp [idx, hi])]
end Bn
def atN (vs : List Nat) (i : Nat) : Nat := vs.getD i 0
def natD (n : Nat) : D := .int n
variable {k p n m : Nat} {S : Sto} {Q : D → Sto → Prop}
theorem atN_le {vs : List Nat} (hv : ∀ x ∈ vs, x ≤ 2) (i : Nat) : atN vs i ≤ 2 := by
  unfold atN
  (rw [List.getD_eq_getElem?_getD])
  cases h : vs[i]? with
  | none => simp
  | some x => exact hv x (List.mem_of_getElem? h)
theorem level_ok {vs : List Nat} (hv : ∀ x ∈ vs, x ≤ 2) (hm : S[m]? = some (.lst (vs.map natD))) : ∀ (b : Bn) (k : Nat) (Q : D → Sto → Prop), b.ok → (∀ i ∈ b.idx, i < vs.length) → b.ht ≤ k → Q (natD (b.lev (atN vs))) S → w1 (den (k + 1) ._law_level) [b.bone, .ref m] S Q
  | .lf i, k, Q, ho, hi, hk, q => by
    have hi' : i < vs.length := hi i (by simp [Bn.idx])
    refine w_body ?_
    unfold b__law_level
    sizeOf_list_dec
    refine iff_t ?_
    sizeOf_list_dec
    refine o_ixL hm (i := (i : Int)) (at_rng (x := natD (atN vs i)) ?_) (th_rt (re_rt q))
    simp [atN, hi']
  | .un w a, k + 1, Q, ho, hi, hk, q => by
    obtain ⟨hw, ha⟩ := ho
    have la : a.lev (atN vs) ≤ 2 := Bn.lev_le (fun i => atN_le hv i) a
    refine w_body ?_
    unfold b__law_level
    have e : Bn.lev (atN vs) (Bn.un w a) = if w = "not" then 2 - a.lev (atN vs) else if 0 < a.lev (atN vs) then 2 else 0 := rfl
    rw [e] at q
    rcases hw with rfl | rfl
    · sizeOf_list_dec
      refine iff_f ?_
      sizeOf_list_dec
      refine level_ok hv hm a k _ ha hi (by simpa [Bn.ht] using hk) ?_
      generalize a.lev (atN vs) = v at *
      simp only [natD]
      sizeOf_list_dec
      refine iff_t ?_
      sizeOf_list_dec
      rw [if_pos rfl] at q
      have : (2 : Int) - v = ((2 - v : Nat) : Int) := by omega
      rw [this]; exact q
    · sizeOf_list_dec
      refine iff_f ?_
      sizeOf_list_dec
      refine level_ok hv hm a k _ ha hi (by simpa [Bn.ht] using hk) ?_
      generalize a.lev (atN vs) = v at *
      simp only [natD]
      sizeOf_list_dec
      refine iff_f ?_
      sizeOf_list_dec
      refine iff_t ?_
      sizeOf_list_dec
      refine o_mul (mul_l ⟨by decide, by decide⟩) ?_
      sizeOf_list_dec
      rw [if_neg (by decide)] at q
      by_cases hv0 : 0 < v
      · have : decide ((0 : Int) < v) = true := decide_eq_true (by omega)
        rw [this]; rw [if_pos hv0] at q; exact q
      · have : decide ((0 : Int) < v) = false := decide_eq_false (by omega)
        rw [this]; rw [if_neg hv0] at q; exact q
  | .bi w a b, k + 1, Q, ho, hi, hk, q => by
    obtain ⟨hw, ha, hb⟩ := ho
    have e : Bn.lev (atN vs) (Bn.bi w a b) = if w = "and" then min (a.lev (atN vs)) (b.lev (atN vs)) else max (a.lev (atN vs)) (b.lev (atN vs)) := rfl
    rw [e] at q
    simp only [Bn.ht] at hk
    have nn : (w == ("leaf" : Str)) = false ∧ (w == ("not" : Str)) = false ∧ (w == ("maybe" : Str)) = false := by
      rcases hw with rfl | rfl <;> decide
    refine w_body ?_
    unfold b__law_level
    sizeOf_list_dec
    rw [nn.1]
    refine iff_f ?_
    sizeOf_list_dec
    refine level_ok hv hm a k _ ha (fun i h => hi i (by simp [Bn.idx, h])) (by omega) ?_
    generalize a.lev (atN vs) = v at *
    simp only [natD]
    sizeOf_list_dec
    rw [nn.2.1]
    refine iff_f ?_
    sizeOf_list_dec
    rw [nn.2.2]
    refine iff_f ?_
    sizeOf_list_dec
    refine level_ok hv hm b k _ hb (fun i h => hi i (by simp [Bn.idx, h])) (by omega) ?_
    generalize b.lev (atN vs) = u at *
    simp only [natD]
    sizeOf_list_dec
    rcases hw with rfl | rfl
    · refine iff_t ?_
      sizeOf_list_dec
      rw [if_pos rfl] at q
      have : (if (u : Int) < v then (u : Int) else v) = ((min v u : Nat) : Int) := by split <;> omega
      rw [this]; exact q
    · refine iff_f ?_
      sizeOf_list_dec
      rw [if_neg (by decide)] at q
      have : (if (u : Int) > v then (u : Int) else v) = ((max v u : Nat) : Int) := by split <;> omega
      rw [this]; exact q
  | .un w a, 0, Q, ho, hi, hk, q => by simp [Bn.ht] at hk
  | .bi w a b, 0, Q, ho, hi, hk, q => by simp [Bn.ht] at hk
end
section
/-- a filtering comprehension -/
theorem k_filter {p : D → Bool} {P : D → Prop} {i n : Nat} {tt : CvM} {e : EvM} {γ : Sl} {T : Sto} {ck} {Q : Sto → Prop} {xs : List D} (hn : T[n]? = some (.lst [])) (hl : xs.length ≤ 1000000)
    (hP : ∀ x ∈ xs, P x) (hck : ∀ T' : Sto, Kp (T.set n (.lst [])) (T'.set n (.lst [])) → Chk ck T')
    (ht : ∀ (x : D) (T' : Sto) (Q' : Bool → Sto → Prop), P x → Q' (p x) T' → wC tt (γ.set i (some x)) T' Q')
    (he : ∀ (x : D) (T' : Sto) (Q' : D → Sto → Prop), P x → Q' x T' → wE e (γ.set i (some x)) T' Q')
    (q : ∀ T' : Sto, (∀ (j : Nat) (o : O), j ≠ n → T[j]? = some o → T'[j]? = some o) → T'[n]? = some (.lst (xs.filter p)) → Q T') : wK ck (.one i) tt e γ n xs T Q := by
  have ext : ∀ T' : Sto, (∀ (j : Nat) (o : O), j ≠ n → T[j]? = some o → T'[j]? = some o) → n < T'.length → Kp (T.set n (.lst [])) (T'.set n (.lst [])) := by
    intro T' h hl j o hj
    by_cases e : j = n
    · subst e
      rw [List.getElem?_set_self (lt_of hn)] at hj
      rw [List.getElem?_set_self hl]; exact hj
    · rw [List.getElem?_set_ne (Ne.symm e)] at hj ⊢
      exact h j o e hj
  refine k_inv (fun rest T' => ∃ acc, (∀ x ∈ rest, P x) ∧ (∀ (j : Nat) (o : O), j ≠ n → T[j]? = some o → T'[j]? = some o) ∧ T'[n]? = some (.lst acc) ∧ acc ++ rest.filter p = xs.filter p ∧ acc.length + rest.length ≤ 1000000) ?_ ?_ _ _ ?_
  · rintro x r T' ⟨acc, hr, h1, h2, h3, h4⟩
    refine ⟨hck T' (ext T' h1 (lt_of h2)), _, rfl, ?_⟩
    refine ht x T' _ (hr x (by simp)) ?_
    have hr' : ∀ y ∈ r, P y := fun y hy => hr y (by simp [hy])
    simp only [List.length_cons] at h4
    refine iff_b (fun hp => ?_) (fun hp => ?_)
    · refine he x T' _ (hr x (by simp)) ?_
      refine ⟨acc, h2, by simp only [sizeLine]; omega, acc ++ [x], hr', fun j o hj e => ?_, lk_set h2, ?_, by simp; omega⟩
      · rw [List.getElem?_set_ne (Ne.symm hj)]; exact h1 j o hj e
      · rw [← h3, List.filter_cons, if_pos hp]; simp
    · refine ⟨acc, hr', h1, h2, ?_, by omega⟩
      rw [← h3, List.filter_cons, if_neg (by simp [hp])]
  · rintro T' ⟨acc, hr, h1, h2, h3, h4⟩
    refine ⟨hck T' (ext T' h1 (lt_of h2)), q T' h1 ?_⟩
    rw [h2]; simp at h3; rw [h3]
  · exact ⟨[], hP, fun _ _ _ h => h, hn, by simp, by simpa using hl⟩
/-! ### what a leaf can be, and all ways at once -/
def hitB (w : Nat) (cs : List (Nat × Nat)) : Bool := cs.any fun x => x.1 == w
def Lf.tagN : Lf → Nat
  | .null _ => 2 | .cmp _ _ _ => 1
def wayOf (w : Nat) (L : Lf) : List Nat := match L with
  | .null _ => if hitB w L.cols then [2] else [0, 2]
  | .cmp _ _ _ => if hitB w L.cols then [1] else [0, 1, 2]
theorem way_ok (w : Nat) (L : Lf) : 0 < (wayOf w L).length ∧ (wayOf w L).length ≤ 3 ∧ ∀ x ∈ wayOf w L, x ≤ 2 := by
  cases L <;> simp only [wayOf] <;> split <;> simp
def prod : List (List Nat) → Nat
  | [] => 1 | w :: ws => w.length * prod ws
def decN : List (List Nat) → Nat → List Nat
  | [], _ => [] | w :: ws, c => atN w (c % w.length) :: decN ws (c / w.length)
def goodW (ws : List (List Nat)) : Prop := ∀ w ∈ ws, 0 < w.length ∧ w.length ≤ 3 ∧ ∀ x ∈ w, x ≤ 2
/-- one of each way -/
inductive Pick : List (List Nat) → List Nat → Prop
  | nil : Pick [] []
  | cons {w ws x xs} (h : x ∈ w) (r : Pick ws xs) : Pick (w :: ws) (x :: xs)
theorem dec_len : ∀ (ws : List (List Nat)) (c : Nat), (decN ws c).length = ws.length
  | [], c => rfl
  | w :: ws, c => by simp [decN, dec_len ws]
theorem atN_mem {w : List Nat} {i : Nat} (h : i < w.length) : atN w i ∈ w := by
  unfold atN; rw [List.getD_eq_getElem?_getD]
  simp [h]
theorem dec_pick : ∀ (ws : List (List Nat)) (c : Nat), goodW ws → Pick ws (decN ws c)
  | [], c, _ => .nil
  | w :: ws, c, h => .cons (atN_mem (Nat.mod_lt _ (h w (by simp)).1)) (dec_pick ws _ fun x hx => h x (by simp [hx]))
theorem pick_dec : ∀ {ws : List (List Nat)} {vs : List Nat}, Pick ws vs → ∃ c, c < prod ws ∧ decN ws c = vs
  | _, _, .nil => ⟨0, by simp [prod], rfl⟩
  | w :: ws, x :: xs, .cons h r => by
    obtain ⟨c, hc, e⟩ := pick_dec r
    obtain ⟨i, hi, ei⟩ := List.getElem_of_mem h
    refine ⟨i + w.length * c, ?_, ?_⟩
    · simp only [prod]
      calc i + w.length * c < w.length + w.length * c := by omega
        _ = w.length * (c + 1) := by rw [Nat.mul_add, Nat.mul_one, Nat.add_comm]
        _ ≤ w.length * prod ws := Nat.mul_le_mul_left _ hc
    · simp only [decN]
      rw [Nat.add_mul_mod_self_left, Nat.mod_eq_of_lt hi, Nat.add_mul_div_left _ _ (by omega), Nat.div_eq_of_lt hi, Nat.zero_add, e]
      congr 1
      unfold atN; rw [List.getD_eq_getElem?_getD]; simp [hi, ei]
theorem pick_le {ws : List (List Nat)} {vs : List Nat} (h : Pick ws vs) : goodW ws → ∀ x ∈ vs, x ≤ 2 := by
  induction h with
  | nil => simp
  | cons h r ih =>
    intro g x hx
    rcases memC hx with hx | hx
    · subst hx; exact (g _ (by simp)).2.2 _ h
    · exact ih (fun w hw => g w (by simp [hw])) x hx
theorem pick_len {ws : List (List Nat)} {vs : List Nat} (h : Pick ws vs) : vs.length = ws.length := by
  induction h with
  | nil => rfl
  | cons h r ih => simp [ih]
/-- what can be seen -/
def seenB (b : Bn) (ws : List (List Nat)) (n l : Nat) : Bool := (List.range n).any fun c => b.lev (atN (decN ws c)) == l
theorem seen_all {b : Bn} {ws : List (List Nat)} (g : goodW ws) (l : Nat) : seenB b ws (prod ws) l = true ↔ ∃ vs, Pick ws vs ∧ b.lev (atN vs) = l := by
  unfold seenB
  rw [List.any_eq_true]
  constructor
  · rintro ⟨c, _, e⟩; exact ⟨_, dec_pick ws c g, by simpa using e⟩
  · rintro ⟨vs, h, e⟩
    obtain ⟨c, hc, rfl⟩ := pick_dec h
    exact ⟨c, by simpa using hc, by simpa using e⟩
theorem prod_le : ∀ {ws : List (List Nat)}, goodW ws → prod ws ≤ 3 ^ ws.length ∧ 0 < prod ws
  | [], _ => ⟨by simp [prod], by simp [prod]⟩
  | w :: ws, h => by
    obtain ⟨h1, h2⟩ := prod_le (ws := ws) fun x hx => h x (by simp [hx])
    obtain ⟨h3, h4, _⟩ := h w (by simp)
    simp only [prod, List.length_cons, Nat.pow_succ]
    refine ⟨?_, Nat.mul_pos h3 h2⟩
    rw [Nat.mul_comm]
    exact Nat.mul_le_mul h1 h4
end
section
set_option maxHeartbeats 1000000 -- wide
variable {k p n : Nat} {S : Sto} {Q : D → Sto → Prop}
def LvRs (S : Sto) (p : Nat) : List Lf → List D → Prop
  | [], [] => True
  | L :: ls, d :: ds => LvR S p L d ∧ LvRs S p ls ds
  | _, _ => False
theorem LvR.ks {S S' : Sto} {L : Lf} {d : D} (h : LvR S p L d) (k : Ks [p] S S') : LvR S' p L d := let ⟨q, e, o, n, c⟩ := h; ⟨q, e, o, n, c.ks k (by simpa using n)⟩
theorem LvRs.ks {S S' : Sto} (k : Ks [p] S S') : ∀ {ls : List Lf} {ds : List D}, LvRs S p ls ds → LvRs S' p ls ds
  | [], [], _ => trivial
  | _ :: _, _ :: _, ⟨a, b⟩ => ⟨a.ks k, b.ks k⟩
theorem LvRs.len {S : Sto} : ∀ {ls : List Lf} {ds : List D}, LvRs S p ls ds → ds.length = ls.length
  | [], [], _ => rfl
  | _ :: _, _ :: _, ⟨_, b⟩ => by simp [b.len]
/-- lists of naturals, told by number; none of them at v -/
def Wys (S : Sto) (v : Nat) : List (List Nat) → List D → Prop
  | [], [] => True
  | w :: ws, d :: ds => (∃ r, d = .ref r ∧ S[r]? = some (.lst (w.map natD)) ∧ r ≠ v) ∧ Wys S v ws ds
  | _, _ => False
theorem Wys.ks {S S' : Sto} {v : Nat} {es : List Nat} (he : ∀ x ∈ es, x = v) (k : Ks es S S') : ∀ {ws : List (List Nat)} {ds : List D}, Wys S v ws ds → Wys S' v ws ds
  | [], [], _ => trivial
  | _ :: _, _ :: _, ⟨⟨r, e, a, n⟩, b⟩ => ⟨⟨r, e, k.at_ _ _ (fun z => n (he r z)) a, n⟩, b.ks he k⟩
theorem Wys.snoc {S : Sto} {v r : Nat} {w : List Nat} : ∀ {ws : List (List Nat)} {ds : List D}, Wys S v ws ds → S[r]? = some (.lst (w.map natD)) → r ≠ v → Wys S v (ws ++ [w]) (ds ++ [.ref r])
  | [], [], _, a, b => ⟨⟨r, rfl, a, b⟩, trivial⟩
  | _ :: _, _ :: _, ⟨h, t⟩, a, b => ⟨h, t.snoc a b⟩
theorem Wys.len {S : Sto} {v : Nat} : ∀ {ws : List (List Nat)} {ds : List D}, Wys S v ws ds → ds.length = ws.length
  | [], [], _ => rfl
  | _ :: _, _ :: _, ⟨_, b⟩ => by simp [b.len]
def seenD (s : Nat → Bool) : List D := [.bl (s 0), .bl (s 1), .bl (s 2)]
def fstIs (w : Nat) (x : D) : Bool := match x with
  | .tup (.int i :: _) => i == (w : Int)
  | _ => false
theorem hit_eq {w : Nat} {cs ds : List (Nat × Nat)} (h : ∀ x, x ∈ cs ↔ x ∈ ds) : decide ((0 : Int) < (((cs.map cD).filter (fstIs w)).length : Int)) = hitB w ds := by
  have e : (cs.map cD).filter (fstIs w) = (cs.filter fun x => x.1 == w).map cD := by
    rw [List.filter_map]
    congr 1
    apply List.filter_congr
    intro x _
    simp only [Function.comp_apply, cD, fstIs]
    rw [Bool.eq_iff_iff]
    simp only [beq_iff_eq]
    omega
  rw [e, List.length_map]
  rw [Bool.eq_iff_iff]
  unfold hitB
  simp only [decide_eq_true_eq, List.any_eq_true]
  constructor
  · intro hl
    obtain ⟨x, hx⟩ := List.exists_mem_of_length_pos (l := cs.filter fun x => x.1 == w) (by omega)
    obtain ⟨h1, h2⟩ := List.mem_filter.mp hx
    exact ⟨x, (h x).mp h1, h2⟩
  · rintro ⟨x, h1, h2⟩
    have := List.length_pos_of_mem (a := x) (l := cs.filter fun x => x.1 == w) (List.mem_filter.mpr ⟨(h x).mpr h1, h2⟩)
    omega
theorem told_ok {b : Bn} {ls : List Lf} {xs : List D} {w : Nat} (hn : S[n]? = some (.lst xs)) (hx : LvRs S p ls xs) (hl : ls.length ≤ 5) (ho : b.ok) (hi : b.idx = List.range ls.length) (hk : b.ht ≤ k)
    (hQ : ∀ r S', Kp S S' → S'[r]? = some (.lst [.bl (seenB b (ls.map (wayOf w)) (prod (ls.map (wayOf w))) 2), .bl (seenB b (ls.map (wayOf w)) (prod (ls.map (wayOf w))) 0), .bl (seenB b (ls.map (wayOf w)) (prod (ls.map (wayOf w))) 1)]) → Q (.ref r) S') : w1 (den (k + 2) ._law_told) [.ref n, b.bone, .int w] S Q := by
  have ln := lt_of hn
  refine w_body ?_
  unfold b__law_told
  sizeOf_list_dec
  refine for_inv (fun rest γ T => ∃ (ld lr : List Lf) (rs : List D) (x4 x5 x6 x7 x8 x9 x10 x11 x12 : Option D), γ = [some (.ref n), some b.bone, some (.int w), some (.ref S.length), x4, x5, x6, x7, x8, x9, x10, x11, x12] ∧ ls = ld ++ lr ∧ LvRs S p lr rest ∧ T[S.length]? = some (.lst rs) ∧ Wys T S.length (ld.map (wayOf w)) rs ∧ Kp S T) ?_ ?_ _ _ _ ?_
  · rintro d rest γ T ⟨ld, lr, rs, x4, x5, x6, x7, x8, x9, x10, x11, x12, rfl, he, hr, hw, hW, kT⟩
    refine ⟨kT _ _ hn, ?_⟩
    cases lr with
    | nil => exact hr.elim
    | cons L lr =>
      obtain ⟨⟨q, rfl, hL, hqp, cs, hcs, hcl, hcm⟩, hr⟩ := hr
      have lq := lt_of hcs
      have hq1 := kT _ _ hcs
      sizeOf_list_dec
      refine k_filter (P := fun x => ∃ y : Nat × Nat, x = cD y) (p := fstIs w) lk_new (by simp; omega) (fun x hx => by obtain ⟨y, _, e⟩ := List.mem_map.mp hx; exact ⟨y, e.symm⟩) (fun T' h => ?_) ?_ ?_ ?_
      · have lT := lt_of hq1
        have := h q _ (lk_ne (by omega) (lk_app hq1))
        rw [List.getElem?_set_ne (by omega)] at this
        exact this
      · rintro x T' Q' ⟨y, rfl⟩ q
        sizeOf_list_dec
        exact q
      · rintro x T' Q' ⟨y, rfl⟩ q
        sizeOf_list_dec
        exact q
      · intro T1 k1 h1
        sizeOf_list_dec
        rw [hit_eq hcm]
        have lT := lt_of hw
        have k2 : Kp T T1 := fun j o e => k1 j o (by have := lt_of e; omega) (lk_app e)
        have hw1 := k2 _ _ hw
        have hW1 := hW.ks (es := []) (fun x h => by cases h) (Kp.ks k2)
        have kk := kT.trans k2
        have rsl := hW.len
        have ldl : ld.length ≤ 5 := by rw [he] at hl; simp at hl; omega
        simp only [List.length_map] at rsl
        have fin : ∀ v : List Nat, v = wayOf w L → ∃ (ld lr : List Lf) (rs' : List D) (y4 y5 y6 y7 y8 y9 y10 y11 y12 : Option D), ([some (.ref n), some b.bone, some (.int w), some (.ref S.length), some (.tup [L.d, .ref q]), some (.bl (hitB w L.cols)), x6, x7, x8, x9, x10, x11, x12] : Sl) = [some (.ref n), some b.bone, some (.int w), some (.ref S.length), y4, y5, y6, y7, y8, y9, y10, y11, y12] ∧ ls = ld ++ lr ∧ LvRs S p lr rest ∧ ((T1 ++ [O.lst (v.map natD)]).set S.length (O.lst (rs ++ [.ref T1.length])))[S.length]? = some (.lst rs') ∧ Wys ((T1 ++ [O.lst (v.map natD)]).set S.length (O.lst (rs ++ [.ref T1.length]))) S.length (ld.map (wayOf w)) rs' ∧ Kp S ((T1 ++ [O.lst (v.map natD)]).set S.length (O.lst (rs ++ [.ref T1.length]))) := by
          rintro v rfl
          have lT1 := lt_of hw1
          refine ⟨ld ++ [L], lr, rs ++ [.ref T1.length], _, _, _, _, _, _, _, _, _, rfl, by simp [he], hr, lk_set (lk_app hw1), ?_, (kk.app).set (by simp)⟩
          rw [List.map_append]
          refine Wys.snoc ?_ (lk_ne (by omega) lk_new) (by omega)
          refine (hW1.ks (es := []) (fun x h => by cases h) Ks.refl.app).ks (es := [S.length]) (by simp) (Ks.refl.set (.inl (by simp)))
        cases L with
        | null a =>
          refine o_ixT rfl ?_
          sizeOf_list_dec
          refine iff_t ?_
          sizeOf_list_dec
          refine ⟨ty_lst hw1, ?_⟩
          sizeOf_list_dec
          cases hb : hitB w (Lf.null a).cols with
          | true =>
            refine iff_t ?_
            sizeOf_list_dec
            refine m_append (lk_app hw1) (by simp only [sizeLine]; omega) ?_
            sizeOf_list_dec
            have := fin [2] (by simp only [wayOf, hb]; rfl)
            rw [hb] at this
            exact this
          | false =>
            refine iff_f ?_
            sizeOf_list_dec
            refine m_append (lk_app hw1) (by simp only [sizeLine]; omega) ?_
            sizeOf_list_dec
            have := fin [0, 2] (by simp only [wayOf, hb]; rfl)
            rw [hb] at this
            exact this
        | cmp op a a2 =>
          refine o_ixT rfl ?_
          sizeOf_list_dec
          refine iff_f ?_
          sizeOf_list_dec
          refine ⟨ty_lst hw1, ?_⟩
          sizeOf_list_dec
          cases hb : hitB w (Lf.cmp op a a2).cols with
          | true =>
            refine iff_t ?_
            sizeOf_list_dec
            refine m_append (lk_app hw1) (by simp only [sizeLine]; omega) ?_
            sizeOf_list_dec
            have := fin [1] (by simp only [wayOf, hb]; rfl)
            rw [hb] at this
            exact this
          | false =>
            refine iff_f ?_
            sizeOf_list_dec
            refine m_append (lk_app hw1) (by simp only [sizeLine]; omega) ?_
            sizeOf_list_dec
            have := fin [0, 1, 2] (by simp only [wayOf, hb]; rfl)
            rw [hb] at this
            exact this
  · rintro γ T ⟨ld, lr, rs, x4, x5, x6, x7, x8, x9, x10, x11, x12, rfl, he, hr, hw, hW, kT⟩
    refine ⟨kT _ _ hn, ?_⟩
    cases lr with
    | cons _ _ => exact hr.elim
    | nil =>
      rw [List.append_nil] at he
      subst he
      have g : goodW (ls.map (wayOf w)) := fun v hv => by
        obtain ⟨L, _, rfl⟩ := List.mem_map.mp hv
        exact way_ok w L
      have gl : (ls.map (wayOf w)).length ≤ 5 := by simpa using hl
      have gi : ∀ i ∈ b.idx, i < (ls.map (wayOf w)).length := by rw [hi]; simp
      generalize ls.map (wayOf w) = ws at *
      sizeOf_list_dec
      refine for_inv (fun rest γ T' => ∃ (wr : List (List Nat)) (m : Nat) (y7 : Option D), γ = [some (.ref n), some b.bone, some (.int w), some (.ref S.length), x4, x5, some (.int m), y7, x8, x9, x10, x11, x12] ∧ T' = T ∧ Wys T S.length wr rest ∧ goodW wr ∧ m * prod wr = prod ws) ?_ ?_ _ _ _ ?_
      · rintro d rest γ T' ⟨wr, m, y7, rfl, rfl, hR, gr, hm⟩
        refine ⟨hw, ?_⟩
        cases wr with
        | nil => exact hR.elim
        | cons v wr =>
          obtain ⟨⟨r, rfl, hr, hne⟩, hR⟩ := hR
          obtain ⟨v0, v3, _⟩ := gr v (by simp)
          sizeOf_list_dec
          rw [List.length_map]
          refine o_mul (mul_r ⟨by omega, by omega⟩) ?_
          sizeOf_list_dec
          refine ⟨wr, m * v.length, some (.ref r), ?_, rfl, hR, fun x hx => gr x (by simp [hx]), ?_⟩
          · rw [Int.natCast_mul]; rfl
          · rw [← hm]; simp only [prod]; rw [Nat.mul_assoc]
      · rintro γ T' ⟨wr, m, y7, rfl, rfl, hR, gr, hm⟩
        refine ⟨hw, ?_⟩
        cases wr with
        | cons _ _ => exact hR.elim
        | nil =>
          simp only [prod, Nat.mul_one] at hm
          subst hm
          obtain ⟨pl, p0⟩ := prod_le g
          have p5 : prod ws ≤ 243 := Nat.le_trans pl (Nat.le_trans (Nat.pow_le_pow_right (by decide) gl) (by decide))
          have lT := lt_of hw
          sizeOf_list_dec
          refine ⟨⟨by omega, by omega⟩, ?_⟩
          rw [Int.toNat_natCast]
          generalize hsn : T'.length = sn at *
          have lk0 : Kp S (T' ++ [O.lst [D.bl false, .bl false, .bl false]]) := kT.app
          have hw0 : (T' ++ [O.lst [D.bl false, .bl false, .bl false]])[S.length]? = some (.lst rs) := lk_app hw
          have hs0 : (T' ++ [O.lst [D.bl false, .bl false, .bl false]])[sn]? = some (.lst (seenD fun l => seenB b ws 0 l)) := by rw [← hsn]; exact lk_new
          have hW0 := hW.ks (S' := T' ++ [O.lst [D.bl false, .bl false, .bl false]]) (es := []) (fun x h => by cases h) Ks.refl.app
          have hWs : ∀ {ws : List (List Nat)} {ds : List D}, Wys T' S.length ws ds → Wys (T' ++ [O.lst [D.bl false, .bl false, .bl false]]) sn ws ds := by
            intro ws
            induction ws with
            | nil => intro ds h; cases ds with
              | nil => trivial
              | cons _ _ => exact h.elim
            | cons v ws ih => intro ds h; cases ds with
              | nil => exact h.elim
              | cons d ds =>
                obtain ⟨⟨r, e, a, _⟩, t⟩ := h
                exact ⟨⟨r, e, lk_app a, by have := lt_of a; omega⟩, ih t⟩
          have hW1 := hWs hW
          clear hW hW0 hWs kT hw
          have snl : S.length < sn := by omega
          generalize T' ++ [O.lst [D.bl false, .bl false, .bl false]] = T0 at *
          refine for_inv (fun rest γ T => ∃ (c m : Nat) (y7 y9 y10 y11 : Option D), rest = (List.range m).map (fun (i : Nat) => D.int ((c + i : Nat) : Int)) ∧ c + m = prod ws ∧ γ = [some (.ref n), some b.bone, some (.int w), some (.ref S.length), x4, x5, some (.int (prod ws)), y7, some (.ref sn), y9, y10, y11, x12] ∧ T[sn]? = some (.lst (seenD fun l => seenB b ws c l)) ∧ T[S.length]? = some (.lst rs) ∧ Wys T sn ws rs ∧ Kp S T) ?_ ?_ _ _ _ ?_
          · rintro d rest γ T ⟨c, m, y7, y9, y10, y11, hr, hcm, rfl, hs, hw, hW, kT⟩
            refine ⟨trivial, ?_⟩
            cases m with
            | zero => simp at hr
            | succ m =>
              rw [List.range_succ_eq_map] at hr
              simp only [List.map_cons, List.map_map, Nat.add_zero] at hr
              obtain ⟨hx0, hrt⟩ := List.cons.inj hr
              subst hx0
              have hrest : rest = (List.range m).map (fun (i : Nat) => D.int ((c + 1 + i : Nat) : Int)) := by
                rw [hrt]
                apply List.map_congr_left
                intro i _
                simp only [Function.comp_apply]
                congr 2
                omega
              clear hr hrt
              have lT := lt_of hs
              sizeOf_list_dec
              refine for_inv (fun rest2 γ T2 => ∃ (wr : List (List Nat)) (vs : List Nat) (cc : Nat) (y7 : Option D), γ = [some (.ref n), some b.bone, some (.int w), some (.ref S.length), x4, x5, some (.int (prod ws)), y7, some (.ref sn), some (.int c), some (.int cc), some (.ref T.length), x12] ∧ Wys T sn wr rest2 ∧ goodW wr ∧ vs ++ decN wr cc = decN ws c ∧ vs.length + wr.length ≤ 5 ∧ Kp T T2 ∧ T2[T.length]? = some (.lst (vs.map natD))) ?_ ?_ _ _ _ ?_
              · rintro d2 rest2 γ T2 ⟨wr, vs, cc, y7, rfl, hR, gr, hd, hvl, kT2, hv⟩
                refine ⟨kT2 _ _ hw, ?_⟩
                cases wr with
                | nil => exact hR.elim
                | cons v wr =>
                  obtain ⟨⟨r, rfl, hr, hne⟩, hR⟩ := hR
                  obtain ⟨v0, v3, _⟩ := gr v (by simp)
                  simp only [List.length_cons] at hvl
                  have hr2 := kT2 _ _ hr
                  have lr := lt_of hr
                  sizeOf_list_dec
                  refine ⟨ty_lst hv, ?_⟩
                  sizeOf_list_dec
                  rw [List.length_map]
                  refine o_mod (by omega) ?_
                  sizeOf_list_dec
                  have hmod : cc % v.length < v.length := Nat.mod_lt _ v0
                  refine o_ixL hr2 (i := (cc : Int) % (v.length : Int)) (d := natD (atN v (cc % v.length))) ?_ ?_
                  · rw [← Int.natCast_emod]
                    refine at_rng ?_
                    simp [atN, hmod]
                  sizeOf_list_dec
                  refine m_append hv (by simp only [sizeLine, List.length_map]; omega) ?_
                  sizeOf_list_dec
                  rw [List.length_map]
                  refine o_div ⟨by omega, ?_⟩ ?_
                  · rw [Int.natAbs_natCast]
                    have : v.length.log2 ≤ v.length := Nat.log2_le_self _
                    omega
                  sizeOf_list_dec
                  refine ⟨wr, vs ++ [atN v (cc % v.length)], cc / v.length, some (.ref r), ?_, hR, fun x hx => gr x (by simp [hx]), ?_, by simp; omega, kT2.set (by simp), ?_⟩
                  · rw [Int.natCast_ediv]; rfl
                  · rw [← hd]; simp [decN]
                  · rw [lk_set hv]; simp
              · rintro γ T2 ⟨wr, vs, cc, y7, rfl, hR, gr, hd, hvl, kT2, hv⟩
                refine ⟨kT2 _ _ hw, ?_⟩
                cases wr with
                | cons _ _ => exact hR.elim
                | nil =>
                  simp only [decN, List.append_nil] at hd
                  subst hd
                  have vle := pick_le (dec_pick ws c g) g
                  have hvlen := dec_len ws c
                  have l2 : b.lev (atN (decN ws c)) ≤ 2 := Bn.lev_le (fun i => atN_le vle i) b
                  sizeOf_list_dec
                  refine level_ok vle hv b k _ ho (by rw [hvlen]; exact gi) hk ?_
                  generalize hL : b.lev (atN (decN ws c)) = L at *
                  simp only [natD]
                  sizeOf_list_dec
                  have hs2 := kT2 _ _ hs
                  refine ⟨_, hs2, L, ix_nat (by simp [seenD]; omega), ?_⟩
                  sizeOf_list_dec
                  refine ⟨c + 1, m, _, _, _, _, hrest, by omega, rfl, ?_, lk_ne (by omega) (kT2 _ _ hw), ?_, (kT.trans kT2).set (List.getElem?_eq_none (by omega))⟩
                  · rw [lk_set hs2]
                    have e : ∀ l, seenB b ws (c + 1) l = (seenB b ws c l || L == l) := fun l => by
                      unfold seenB
                      rw [List.range_succ, List.any_append]
                      simp [hL]
                    simp only [seenD, e]
                    rcases L with _ | _ | _ | L
                    · simp
                    · simp
                    · simp
                    · omega
                  · exact (hW.ks (es := []) (fun x h => by cases h) (Kp.ks kT2)).ks (es := [sn]) (by simp) (Ks.refl.set (.inl (by simp)))
              · exact ⟨ws, [], c, _, rfl, hW, g, rfl, by simpa using gl, Kp.refl.app, lk_new⟩
          · rintro γ T ⟨c, m, y7, y9, y10, y11, hr, hcm, rfl, hs, hw, hW, kT⟩
            refine ⟨trivial, ?_⟩
            have hm0 : m = 0 := by
              have := congrArg List.length hr
              simpa using this.symm
            have hc : c = prod ws := by omega
            subst hc
            sizeOf_list_dec
            refine o_ixL hs rfl ?_
            sizeOf_list_dec
            refine o_ixL hs rfl ?_
            sizeOf_list_dec
            refine o_ixL hs rfl ?_
            sizeOf_list_dec
            exact hQ _ _ kT.app lk_new
          · exact ⟨0, prod ws, _, _, _, _, by simp [rngD], by omega, rfl, hs0, hw0, hW1, lk0⟩
      · exact ⟨ws, 1, _, rfl, rfl, hW, g, by simp⟩
  · exact ⟨[], ls, [], _, _, _, _, _, _, _, _, _, rfl, rfl, hx, lk_new, trivial, Kp.refl.app⟩
end
section
/-! ### trees -/
inductive N where
  | col (xs : List D)
  | agg (xs : List D) (c : Option (List D))
  | atm (w : Str) (xs : List D)
  | un (w : Str) (a : N)
  | inn (a : N) (q : D)
  | two (w : Str) (p : List D) (a b : N)
namespace N
def colD (xs : List D) : D := .tup (.str "col" :: xs)
def d : N → D
  | col xs => colD xs
  | agg xs none => .tup (.str "agg" :: xs)
  | agg xs (some c) => .tup (.str "agg" :: (xs ++ [colD c]))
  | atm w xs => .tup (.str w :: xs)
  | un w a => .tup [.str w, a.d]
  | inn a q => .tup [.str "in", a.d, q]
  | two w p a b => .tup (.str w :: (p ++ [a.d, b.d]))
def w : N → Str
  | col _ => "col" | agg _ _ => "agg" | atm w _ => w | un w _ => w | inn _ _ => "in" | two w _ _ _ => w
def pre : N → List D
  | two w p _ _ => .str w :: p
  | n => [.str n.w]
def post : N → List D
  | col xs => xs | agg xs none => xs | agg xs (some c) => xs ++ [colD c] | atm _ xs => xs | inn _ q => [q] | un _ _ => [] | two _ _ _ _ => []
def kids : N → List N
  | un _ a => [a] | inn a _ => [a] | two _ _ a b => [a, b] | _ => []
def lkids : N → List N
  | agg _ (some c) => [col c]
  | n => n.kids
theorem d_eq : ∀ n : N, n.d = .tup (n.pre ++ n.kids.map d ++ n.post)
  | col xs => rfl | agg xs none => rfl | agg xs (some c) => rfl | atm w xs => rfl | un w a => rfl | inn a q => rfl
  | two w p a b => by simp [d, pre, kids, post]
theorem d_w : ∀ n : N, ∃ r, n.d = .tup (.str n.w :: r)
  | col xs => ⟨_, rfl⟩ | agg xs none => ⟨_, rfl⟩ | agg xs (some c) => ⟨_, rfl⟩ | atm w xs => ⟨_, rfl⟩ | un w a => ⟨_, rfl⟩ | inn a q => ⟨_, rfl⟩
  | two w p a b => ⟨_, rfl⟩
def sz : N → Nat
  | col _ => 1 | agg _ none => 1 | agg _ (some _) => 2 | atm _ _ => 1 | un _ a => a.sz + 1 | inn a _ => a.sz + 1 | two _ _ a b => a.sz + b.sz + 1
def ht : N → Nat
  | un _ a => a.ht + 1 | inn a _ => a.ht + 1 | two _ _ a b => max a.ht b.ht + 1 | _ => 0
end N
def flats (xs : List D) : Prop := ∀ x ∈ xs, flatD x = true
def fit : Nat → D → Prop
  | 0, d => flatD d = true
  | k + 1, d => flatD d = true ∨ ∃ xs, d = .tup xs ∧ xs.length ≤ 1000000 ∧ ∀ x ∈ xs, fit k x
theorem fit_flat {d : D} (h : flatD d = true) : ∀ k, fit k d
  | 0 => h
  | k + 1 => .inl h
theorem fit_succ : ∀ {k : Nat} {d : D}, fit k d → fit (k + 1) d
  | 0, d, h => .inl h
  | k + 1, d, h => by
    rcases h with h | ⟨xs, e, l, h⟩
    · exact .inl h
    · exact .inr ⟨xs, e, l, fun x hx => fit_succ (h x hx)⟩
theorem fit_le {k m : Nat} {d : D} (h : fit k d) (l : k ≤ m) : fit m d := by
  obtain ⟨r, rfl⟩ := Nat.exists_eq_add_of_le l
  clear l
  induction r with
  | zero => exact h
  | succ r ih => exact fit_succ ih
theorem fit_tup {k : Nat} {xs : List D} (l : xs.length ≤ 1000000) (h : ∀ x ∈ xs, fit k x) : fit (k + 1) (.tup xs) := .inr ⟨xs, rfl, l, h⟩
theorem fit_of_tup {k : Nat} {xs : List D} (h : fit (k + 1) (.tup xs)) : xs.length ≤ 1000000 ∧ ∀ x ∈ xs, fit k x := by
  rcases h with h | ⟨ys, e, l, h⟩
  · simp [flatD] at h
  · cases e; exact ⟨l, h⟩
theorem not_fit0 {xs : List D} : ¬ fit 0 (.tup xs) := fun h => by simp [fit, flatD] at h
/-- a key of a table -/
structure Ky (d : D) : Prop where
  data : ∃ p, pyD d = some p ∧ p.canLay0 = true ∧ p.depth ≤ 3
  key : ∃ xs k, d = .tup xs ∧ keyN xs = some k
def strsOk (xs : List D) : Prop := ∀ x ∈ xs, ∀ z, x = .str z → PyData.strOk z = true
namespace N
def ok : N → Prop
  | col xs => flats xs ∧ xs.length ≤ 8 ∧ Ky (colD xs)
  | agg xs c => flats xs ∧ xs.length ≤ 8 ∧ Ky (agg xs c).d ∧ ∀ c', c = some c' → flats c' ∧ c'.length ≤ 8 ∧ Ky (colD c')
  | atm w xs => (((w = "num" ∨ w = "text") ∧ flats xs) ∨ w = "mark") ∧ xs.length ≤ 8 ∧ ∀ x ∈ xs, fit 30 x
  | un w a => (w = "neg" ∨ w = "null" ∨ w = "not" ∨ w = "maybe") ∧ a.ok
  | inn a q => a.ok ∧ fit 30 q ∧ flatD q = false
  | two w p a b => (((w = "add" ∨ w = "sub" ∨ w = "mul" ∨ w = "and" ∨ w = "or") ∧ p = []) ∨ (w = "cmp" ∧ ∃ z, p = [.str z])) ∧ a.ok ∧ b.ok
theorem ok_kids : ∀ {n : N}, n.ok → ∀ m ∈ n.kids, m.ok
  | col _, h, m, hm => by simp [kids] at hm
  | agg _ _, h, m, hm => by simp [kids] at hm
  | atm _ _, h, m, hm => by simp [kids] at hm
  | un _ a, h, m, hm => by simp [kids] at hm; subst hm; exact h.2
  | inn a _, h, m, hm => by simp [kids] at hm; subst hm; exact h.1
  | two _ _ a b, h, m, hm => by
    simp [kids] at hm
    rcases hm with rfl | rfl
    · exact h.2.1
    · exact h.2.2
theorem ok_lkids : ∀ {n : N}, n.ok → ∀ m ∈ n.lkids, m.ok
  | agg xs (some c), h, m, hm => by simp [lkids] at hm; subst hm; exact h.2.2.2 c rfl
  | agg xs none, h, m, hm => by simp [lkids, kids] at hm
  | col _, h, m, hm => by simp [lkids, kids] at hm
  | atm _ _, h, m, hm => by simp [lkids, kids] at hm
  | un w a, h, m, hm => ok_kids (n := un w a) h m hm
  | inn a q, h, m, hm => ok_kids (n := inn a q) h m hm
  | two w p a b, h, m, hm => ok_kids (n := two w p a b) h m hm
def place (n : N) : D := .tup [.int n.pre.length, .int (n.pre.length + n.kids.length : Nat)]
theorem look : ∀ {n : N}, n.ok → ∃ r, c_PART_PLACES.lookup n.w = some r ∧ r.getD c_NO_PLACES = n.place
  | col xs, h => ⟨_, rfl, rfl⟩
  | agg xs c, h => ⟨_, rfl, rfl⟩
  | atm w xs, h => by
    rcases h.1 with ⟨rfl | rfl, _⟩ | rfl <;> exact ⟨_, rfl, rfl⟩
  | un w a, h => by
    rcases h.1 with rfl | rfl | rfl | rfl <;> exact ⟨_, rfl, rfl⟩
  | inn a q, h => ⟨_, rfl, rfl⟩
  | two w p a b, h => by
    rcases h.1 with ⟨rfl | rfl | rfl | rfl | rfl, rfl⟩ | ⟨rfl, z, rfl⟩ <;> exact ⟨_, rfl, rfl⟩
end N
/-! ### the parts of a tree -/
theorem parts_ok {n : N} (h : n.ok) {k : Nat} {S : Sto} {Q : D → Sto → Prop} (q : Q (.tup (n.kids.map N.d)) S) : w1 (den (k + 1) .parts_of) [n.d] S Q := by
  obtain ⟨r, e1, e2⟩ := N.look h
  obtain ⟨l, e3⟩ := N.d_w n
  refine w_body ?_
  unfold b_parts_of
  rw [e3]
  decreasing_trivial_pre_omega
  refine ⟨r, e1, ?_⟩
  rw [e2, N.place]
  decreasing_trivial_pre_omega
  have e4 : D.str n.w :: l = n.pre ++ n.kids.map N.d ++ n.post := by
    have := N.d_eq n
    rw [e3] at this
    exact D.tup.inj this
  rw [e4]
  have := cut_mid n.pre (n.kids.map N.d) n.post
  rw [List.length_map] at this
  rw [this]
  exact q
namespace N
theorem isAnd : ∀ {n : N}, n.ok → (n.w == ("and" : Str)) = true → ∃ a b, n = .two "and" [] a b ∧ a.ok ∧ b.ok
  | col xs, h, e => by exact absurd e (by simp only [N.w]; decide +kernel)
  | agg xs c, h, e => by exact absurd e (by simp only [N.w]; decide +kernel)
  | atm w xs, h, e => by
    rcases h.1 with ⟨rfl | rfl, _⟩ | rfl <;> exact absurd e (by simp only [N.w]; decide +kernel)
  | un w a, h, e => by
    rcases h.1 with rfl | rfl | rfl | rfl <;> exact absurd e (by simp only [N.w]; decide +kernel)
  | inn a q, h, e => by exact absurd e (by simp only [N.w]; decide +kernel)
  | two w p a b, h, e => by
    have e' : w = "and" := by simpa [N.w] using e
    subst e'
    rcases h.1 with ⟨_, rfl⟩ | ⟨z, _⟩
    · exact ⟨a, b, rfl, h.2⟩
    · exact absurd z (by decide +kernel)
theorem isW {n : N} : (n.w == ("col" : Str)) = true ↔ n.w = "col" := by simp
/-- the members of a condition -/
def mem : N → List N
  | two w p a b => if w = "and" then mem a ++ mem b else [two w p a b]
  | n => [n]
theorem mem_not : ∀ {n : N}, (n.w == ("and" : Str)) = false → n.mem = [n]
  | col xs, e => rfl
  | agg xs c, e => rfl
  | atm w xs, e => rfl
  | un w a, e => rfl
  | inn a q, e => rfl
  | two w p a b, e => by
    have : w ≠ "and" := by simpa [N.w] using e
    simp [mem, this]
theorem sz_pos : ∀ n : N, 0 < n.sz
  | col xs => by simp [sz]
  | agg xs none => by simp [sz]
  | agg xs (some c) => by simp [sz]
  | atm w xs => by simp [sz]
  | un w a => by simp [sz]
  | inn a q => by simp [sz]
  | two w p a b => by simp [sz]
theorem mem_sz : ∀ n : N, n.mem.length ≤ n.sz
  | col xs => by simp [mem, sz]
  | agg xs none => by simp [mem, sz]
  | agg xs (some c) => by simp [mem, sz]
  | atm w xs => by simp [mem, sz]
  | un w a => by simp [mem, sz]
  | inn a q => by simp [mem, sz]
  | two w p a b => by
    have := mem_sz a; have := mem_sz b
    unfold mem
    split
    · simp [sz]; omega
    · simp [sz]
end N
/-- the sizes of several -/
def tot (l : List N) : Nat := (l.map N.sz).sum
theorem tot_app (a b : List N) : tot (a ++ b) = tot a + tot b := by simp [tot]
theorem tot_one (n : N) : tot [n] = n.sz := by simp [tot]
def od : Option N → D
  | none => .non
  | some n => n.d
def stk : Option N → List N
  | none => []
  | some n => [n]
def okO (o : Option N) : Prop := ∀ n, o = some n → n.ok
def okL (l : List N) : Prop := ∀ n ∈ l, n.ok
theorem okO.stk {o : Option N} (h : okO o) : okL (Gn.stk o) := by
  cases o with
  | none => intro n hn; simp [Gn.stk] at hn
  | some n => intro m hm; simp [Gn.stk] at hm; subst hm; exact h _ rfl
theorem okL.app {a b : List N} (h : okL a) (g : okL b) : okL (a ++ b) := fun n hn => by
  rcases memA hn with hn | hn
  · exact h n hn
  · exact g n hn
theorem okL.left {a b : List N} (h : okL (a ++ b)) : okL a := fun n hn => h n (List.mem_append.mpr (.inl hn))
theorem okL.right {a b : List N} (h : okL (a ++ b)) : okL b := fun n hn => h n (List.mem_append.mpr (.inr hn))
theorem okL.one {n : N} : okL [n] ↔ n.ok := ⟨fun h => h n (by simp), fun h m hm => by simp at hm; subst hm; exact h⟩
/-- a list, empty or with a last one -/
theorem last_cases {α : Type} (l : List α) : l = [] ∨ ∃ r x, l = r ++ [x] := by
  rcases List.eq_nil_or_concat l with h | ⟨r, x, h⟩
  · exact .inl h
  · exact .inr ⟨r, x, by simpa using h⟩
def ms (l : List N) : List D := l.map N.d
theorem ms_app (a b : List N) : ms (a ++ b) = ms a ++ ms b := by simp [ms]
theorem ms_empty (l : List N) : (ms l).isEmpty = l.isEmpty := by cases l <;> rfl
theorem ms_one (a : N) : ms [a] = [a.d] := rfl
theorem ms_snoc (l : List N) (n : N) : ms (l ++ [n]) = ms l ++ [n.d] := by simp [ms]
theorem ms_length (l : List N) : (ms l).length = l.length := by simp [ms]
theorem len_tot : ∀ l : List N, l.length ≤ tot l
  | [] => by simp [tot]
  | n :: l => by
    have := len_tot l; have := N.sz_pos n
    simp [tot] at this ⊢
    simp [tot] at *
    omega
theorem isN_d (n : N) : isN n.d = false := by
  obtain ⟨r, e⟩ := N.d_w n
  rw [e]; rfl
theorem stk_start {o : Option N} {γ : Sl} {S : Sto} {Q : D → Sto → Prop} (h : γ[0]? = some (some (od o))) (q : Q (.ref S.length) (S ++ [.lst (ms (stk o))])) : iff2 (isN (od o)) (wE (lstM nilA) γ S Q) (wE (lstM (consA (varM 0) nilA)) γ S Q) := by
  cases o with
  | none =>
    refine iff_t ?_
    decreasing_trivial_pre_omega
    exact ⟨by simp [sizeLine], q⟩
  | some n =>
    rw [show isN (od (some n)) = false from isN_d n]
    refine iff_f ?_
    refine v_lst ?_
    refine a_cons ?_
    refine v_var h ?_
    decreasing_trivial_pre_omega
    exact ⟨by simp [sizeLine], q⟩
/-! ### joined, the height -/
theorem ms_cons (a : N) (l : List N) : ms (a :: l) = a.d :: ms l := rfl
theorem ms_nil : ms [] = [] := rfl
namespace N
theorem kids_tot : ∀ n : N, tot n.kids + 1 ≤ n.sz
  | col xs => by simp [kids, sz, tot]
  | agg xs none => by simp [kids, sz, tot]
  | agg xs (some c) => by simp [kids, sz, tot]
  | atm w xs => by simp [kids, sz, tot]
  | un w a => by simp [kids, sz, tot]
  | inn a q => by simp [kids, sz, tot]
  | two w p a b => by simp [kids, sz, tot]
end N
/-- the greatest height -/
def mx (l : List N) : Nat := l.foldr (fun n m => max n.ht m) 0
theorem mx_app (a b : List N) : mx (a ++ b) = max (mx a) (mx b) := by
  induction a with
  | nil => simp [mx]
  | cons x a ih => simp only [mx, List.cons_append, List.foldr_cons] at *; omega
/-- heights told from 1 -/
def hts (l : List N) : Nat := l.foldr (fun n m => max (n.ht + 1) m) 0
theorem hts_app (a b : List N) : hts (a ++ b) = max (hts a) (hts b) := by
  induction a with
  | nil => simp [hts]
  | cons x a ih => simp only [hts, List.cons_append, List.foldr_cons] at *; omega
theorem hts_kids : ∀ n : N, hts n.kids = n.ht
  | .col xs => by simp [N.kids, hts, N.ht]
  | .agg xs c => by simp [N.kids, hts, N.ht]
  | .atm w xs => by simp [N.kids, hts, N.ht]
  | .un w a => by simp [N.kids, hts, N.ht]
  | .inn a q => by simp [N.kids, hts, N.ht]
  | .two w p a b => by simp [N.kids, hts, N.ht] <;> omega
theorem hts_next (l : List N) : hts (l.flatMap N.kids) = hts l - 1 := by
  induction l with
  | nil => rfl
  | cons x l ih =>
    rw [List.flatMap_cons, hts_app, hts_kids, ih]
    simp only [hts, List.foldr_cons]
    omega
theorem tot_next (l : List N) : tot (l.flatMap N.kids) + l.length ≤ tot l := by
  induction l with
  | nil => simp [tot]
  | cons x l ih =>
    have := N.kids_tot x
    rw [List.flatMap_cons, tot_app]
    simp only [List.length_cons]
    have e : tot (x :: l) = x.sz + tot l := by simp [tot]
    omega
theorem okL.next {l : List N} (h : okL l) : okL (l.flatMap N.kids) := fun n hn => by
  obtain ⟨m, hm, hn⟩ := List.mem_flatMap.mp hn
  exact N.ok_kids (h m hm) n hn
/-! ### leaves, columns, aggs -/
namespace N
def lv : N → List N
  | un _ a => lv a
  | inn a _ => lv a
  | two _ _ a b => lv a ++ lv b
  | n => [n]
theorem lv_leaf : ∀ {n : N}, n.kids = [] → n.lv = [n]
  | col xs, e => rfl
  | agg xs c, e => rfl
  | atm w xs, e => rfl
  | un w a, e => by simp [kids] at e
  | inn a q, e => by simp [kids] at e
  | two w p a b, e => by simp [kids] at e
theorem lv_kids : ∀ {n : N}, n.kids ≠ [] → n.lv = n.kids.flatMap lv
  | col xs, e => by simp [kids] at e
  | agg xs c, e => by simp [kids] at e
  | atm w xs, e => by simp [kids] at e
  | un w a, e => by simp [kids, lv]
  | inn a q, e => by simp [kids, lv]
  | two w p a b, e => by simp [kids, lv]
theorem lv_leaves : ∀ (n m : N), m ∈ n.lv → m.kids = []
  | col xs, m, h => by simp [lv] at h; subst h; rfl
  | agg xs c, m, h => by simp [lv] at h; subst h; rfl
  | atm w xs, m, h => by simp [lv] at h; subst h; rfl
  | un w a, m, h => lv_leaves a m (by simpa [lv] using h)
  | inn a q, m, h => lv_leaves a m (by simpa [lv] using h)
  | two w p a b, m, h => by
    simp only [lv, List.mem_append] at h
    rcases h with h | h
    · exact lv_leaves a m h
    · exact lv_leaves b m h
theorem lv_ok : ∀ (n : N), n.ok → okL n.lv
  | col xs, h => okL.one.mpr h
  | agg xs c, h => okL.one.mpr h
  | atm w xs, h => okL.one.mpr h
  | un w a, h => lv_ok a h.2
  | inn a q, h => lv_ok a h.1
  | two w p a b, h => (lv_ok a h.2.1).app (lv_ok b h.2.2)
theorem lv_sz : ∀ n : N, n.lv.length ≤ n.sz
  | col xs => by simp [lv, sz]
  | agg xs none => by simp [lv, sz]
  | agg xs (some c) => by simp [lv, sz]
  | atm w xs => by simp [lv, sz]
  | un w a => by have := lv_sz a; simp only [lv, sz]; omega
  | inn a q => by have := lv_sz a; simp only [lv, sz]; omega
  | two w p a b => by have := lv_sz a; have := lv_sz b; simp only [lv, sz, List.length_append]; omega
def colsAt : N → List D
  | col xs => [colD xs]
  | agg _ (some c) => [colD c]
  | _ => []
theorem w_col : ∀ {n : N}, n.ok → (n.w == ("col" : Str)) = true → ∃ xs, n = .col xs
  | col xs, h, e => ⟨xs, rfl⟩
  | agg xs c, h, e => by exact absurd e (by simp only [N.w]; decide +kernel)
  | atm w xs, h, e => by
    rcases h.1 with ⟨rfl | rfl, _⟩ | rfl <;> exact absurd e (by simp only [N.w]; decide +kernel)
  | un w a, h, e => by
    rcases h.1 with rfl | rfl | rfl | rfl <;> exact absurd e (by simp only [N.w]; decide +kernel)
  | inn a q, h, e => by exact absurd e (by simp only [N.w]; decide +kernel)
  | two w p a b, h, e => by
    rcases h.1 with ⟨rfl | rfl | rfl | rfl | rfl, _⟩ | ⟨rfl, z, _⟩ <;> exact absurd e (by simp only [N.w]; decide +kernel)
theorem w_agg : ∀ {n : N}, n.ok → (n.w == ("agg" : Str)) = true → ∃ xs c, n = .agg xs c
  | col xs, h, e => by exact absurd e (by simp only [N.w]; decide +kernel)
  | agg xs c, h, e => ⟨xs, c, rfl⟩
  | atm w xs, h, e => by
    rcases h.1 with ⟨rfl | rfl, _⟩ | rfl <;> exact absurd e (by simp only [N.w]; decide +kernel)
  | un w a, h, e => by
    rcases h.1 with rfl | rfl | rfl | rfl <;> exact absurd e (by simp only [N.w]; decide +kernel)
  | inn a q, h, e => by exact absurd e (by simp only [N.w]; decide +kernel)
  | two w p a b, h, e => by
    rcases h.1 with ⟨rfl | rfl | rfl | rfl | rfl, _⟩ | ⟨rfl, z, _⟩ <;> exact absurd e (by simp only [N.w]; decide +kernel)
theorem colsAt_none : ∀ {n : N}, (n.w == ("col" : Str)) = false → (n.w == ("agg" : Str)) = false → n.colsAt = []
  | col xs, e, e' => by exact absurd e (by simp only [N.w]; decide +kernel)
  | agg xs c, e, e' => by exact absurd e' (by simp only [N.w]; decide +kernel)
  | atm w xs, e, e' => rfl
  | un w a, e, e' => rfl
  | inn a q, e, e' => rfl
  | two w p a b, e, e' => rfl
theorem colsAt_ky : ∀ {n : N}, n.ok → ∀ x ∈ n.colsAt, Ky x
  | col xs, h, x, hx => by simp [colsAt] at hx; subst hx; exact h.2.2
  | agg xs none, h, x, hx => by simp [colsAt] at hx
  | agg xs (some c), h, x, hx => by simp [colsAt] at hx; subst hx; exact (h.2.2.2 c rfl).2.2
  | atm w xs, h, x, hx => by simp [colsAt] at hx
  | un w a, h, x, hx => by simp [colsAt] at hx
  | inn a q, h, x, hx => by simp [colsAt] at hx
  | two w p a b, h, x, hx => by simp [colsAt] at hx
theorem colsAt_one (n : N) : n.colsAt.length ≤ 1 := by
  cases n with
  | agg xs c => cases c <;> simp [colsAt]
  | _ => simp [colsAt]
end N
theorem leaves_ok {o : Option N} (h : okO o) (hs : tot (stk o) ≤ 100000) {k : Nat} {S : Sto} {Q : D → Sto → Prop} (q : ∀ S' r, Kp S S' → S'[r]? = some (.lst (ms ((stk o).flatMap N.lv))) → S[r]? = none → Q (.ref r) S') : w1 (den (k + 2) .leaves_of) [od o] S Q := by
  refine w_body ?_
  unfold b_leaves_of
  decreasing_trivial_pre_omega
  refine ⟨by simp [sizeLine], ?_⟩
  decreasing_trivial_pre_omega
  refine stk_start rfl ?_
  decreasing_trivial_pre_omega
  refine s_while ?_
  have e0 : (S ++ [O.lst []]).length = S.length + 1 := by simp
  have n1 : S.length ≠ S.length + 1 := by omega
  have n2 : S.length + 1 ≠ S.length := by omega
  refine wh_inv (fun m γ T => ∃ x y found st, γ = [some (od o), some (.ref S.length), some (.ref (S.length + 1)), x, y] ∧ T[S.length]? = some (.lst (ms found)) ∧ T[S.length + 1]? = some (.lst (ms st)) ∧ Kp S T ∧ okL st ∧
    found ++ st.reverse.flatMap N.lv = (stk o).flatMap N.lv ∧ tot st = m ∧ found.length + m ≤ 100000) ?_ turns (tot (stk o)) _ _ ?_ (by simp only [turns]; omega)
  · rintro m γ T ⟨x, y, found, st, rfl, hf, hw, hk, ho, ht, hm, hl⟩
    decreasing_trivial_pre_omega
    rw [ms_empty]
    rcases last_cases st with rfl | ⟨st, n, rfl⟩
    · refine iff_f ?_
      decreasing_trivial_pre_omega
      simp at ht
      subst ht
      exact q _ _ hk hf (by simp)
    · have : (!(st ++ [n]).isEmpty) = true := by simp
      rw [this]
      refine iff_t ?_
      decreasing_trivial_pre_omega
      refine ⟨ty_lst hw, ?_⟩
      rw [ms_app] at hw
      decreasing_trivial_pre_omega
      refine m_pop hw ?_
      decreasing_trivial_pre_omega
      have hy : n.ok := ho n (by simp)
      refine parts_ok hy ?_
      decreasing_trivial_pre_omega
      rw [tot_app, tot_one] at hm
      have hyp := N.kids_tot n
      rw [List.reverse_append, List.flatMap_append] at ht
      simp only [List.reverse_cons, List.reverse_nil, List.nil_append, List.flatMap_cons, List.flatMap_nil, List.append_nil] at ht
      have lst := len_tot st
      have lk := len_tot n.kids
      have lms := ms_length st
      have lmf := ms_length found
      refine ⟨ty_lst (xs := ms st) (by array_get_dec), ?_⟩
      decreasing_trivial_pre_omega
      refine m_extT (xs := ms st) (by array_get_dec) (by simp only [sizeLine, List.length_reverse, List.length_map]; omega) ?_
      decreasing_trivial_pre_omega
      have er : (n.kids.map N.d).reverse = ms n.kids.reverse := by simp [ms]
      rw [er, ← ms_app]
      have hmm : (List.map N.d n.kids).isEmpty = n.kids.isEmpty := by cases n.kids <;> rfl
      rw [hmm]
      have tr : ∀ l : List N, tot l.reverse = tot l := fun l => by simp [tot]
      cases hkids : n.kids with
      | nil =>
        refine iff_t ?_
        decreasing_trivial_pre_omega
        refine ⟨ty_lst (xs := ms found) (by array_get_dec), ?_⟩
        decreasing_trivial_pre_omega
        refine m_append (xs := ms found) (by array_get_dec) (by simp only [sizeLine]; omega) ?_
        decreasing_trivial_pre_omega
        refine ⟨tot st, by omega, _, _, found ++ [n], st, rfl, ?_, ?_, ?_, okL.left ho, ?_, rfl, ?_⟩
        · rw [ms_snoc]; array_get_dec
        · rw [List.reverse_nil, List.append_nil]; array_get_dec
        · exact ((hk.set (by simp)).set (by simp)).set (by simp)
        · rw [← ht, N.lv_leaf hkids]; simp
        · simp; omega
      | cons c cs =>
        refine iff_f ?_
        decreasing_trivial_pre_omega
        rw [← hkids]
        refine ⟨_, ?_, _, _, found, st ++ n.kids.reverse, rfl, by array_get_dec, by array_get_dec, ?_, ?_, ?_, rfl, ?_⟩
        · rw [tot_app, tr]; omega
        · exact (hk.set (by simp)).set (by simp)
        · exact (okL.left ho).app fun m hm => N.ok_kids hy m (by simpa using hm)
        · rw [← ht, N.lv_kids (by rw [hkids]; simp)]; simp
        · rw [tot_app, tr]; omega
  · refine ⟨none, none, [], stk o, ?_, lk_app lk_new, ?_, ?_, h.stk, ?_, rfl, by simpa using hs⟩
    · rw [e0]; rfl
    · rw [← e0]; array_get_dec
    · exact Kp.refl.app.app
    · cases o <;> simp [stk]
theorem ty_flat {T : Sto} {x : D} (h : flatD x = true) {Q : Bool → Prop} (q : Q false) : tyQ "tuple" T x Q := by
  cases x with
  | non => exact ⟨_, _, rfl, rfl, q⟩
  | bl b => exact ⟨_, _, rfl, rfl, q⟩
  | int b => exact ⟨_, _, rfl, rfl, q⟩
  | str b => exact ⟨_, _, rfl, rfl, q⟩
  | tup b => simp [flatD] at h
  | rl b => simp [flatD] at h
  | ref b => simp [flatD] at h
  | gl b => simp [flatD] at h
theorem is_column_flat {x : D} (h : flatD x = true) {k : Nat} {S : Sto} {Q : D → Sto → Prop} (q : Q (.bl false) S) : w1 (den (k + 1) .is_column) [x] S Q := by
  refine w_body ?_
  unfold b_is_column
  decreasing_trivial_pre_omega
  refine ty_flat h ?_
  decreasing_trivial_pre_omega
  refine iff_f ?_
  decreasing_trivial_pre_omega
  exact q
theorem is_column_col {xs : List D} {k : Nat} {S : Sto} {Q : D → Sto → Prop} (q : Q (.bl true) S) : w1 (den (k + 1) .is_column) [N.colD xs] S Q := by
  refine w_body ?_
  unfold b_is_column
  decreasing_trivial_pre_omega
  refine ty_tup.mpr ?_
  decreasing_trivial_pre_omega
  refine iff_t ?_
  decreasing_trivial_pre_omega
  exact q
def isColD : D → Bool
  | .tup (.str w :: _) => w == ("col" : Str)
  | _ => false
theorem flats_filter {p : D → Bool} (hp : ∀ x, flatD x = true → p x = false) {xs : List D} (h : flats xs) : xs.filter p = [] := by
  rw [List.filter_eq_nil_iff]
  intro x hx
  rw [hp x (h x hx)]; simp
theorem isColD_flat {x : D} (h : flatD x = true) : isColD x = false := by
  cases x <;> simp [flatD] at h <;> rfl
theorem columns_at_ok {n : N} (h : n.ok) {k : Nat} {S : Sto} {Q : D → Sto → Prop} (q : ∀ S' r, Kp S S' → S'[r]? = some (.lst n.colsAt) → S[r]? = none → Q (.ref r) S') : w1 (den (k + 2) .columns_at) [n.d] S Q := by
  obtain ⟨l, e3⟩ := N.d_w n
  refine w_body ?_
  unfold b_columns_at
  rw [e3]
  decreasing_trivial_pre_omega
  refine iff_b (fun hc => ?_) (fun hc => ?_)
  · obtain ⟨xs, rfl⟩ := N.w_col h hc
    decreasing_trivial_pre_omega
    refine ⟨by simp [sizeLine], ?_⟩
    decreasing_trivial_pre_omega
    rw [← e3]
    exact q _ _ Kp.refl.app lk_new (by simp)
  · decreasing_trivial_pre_omega
    refine iff_b (fun ha => ?_) (fun ha => ?_)
    · obtain ⟨xs, c, rfl⟩ := N.w_agg h ha
      decreasing_trivial_pre_omega
      rw [show D.str (N.agg xs c).w :: l = (D.str "agg" :: xs) ++ (match c with | none => [] | some c => [N.colD c]) from by
        cases c with
        | none => have := D.tup.inj e3; simp [N.w] at this ⊢; exact this.symm
        | some c => have := D.tup.inj e3; simp [N.w] at this ⊢; exact this.symm]
      have hfl : ∀ x ∈ (D.str "agg" :: xs), flatD x = true := by
        intro x hx
        rcases memC hx with rfl | hx
        · rfl
        · exact h.1 x hx
      refine k_filter (p := isColD) (P := fun x => flatD x = true ∨ ∃ c, x = N.colD c) lk_new ?_ ?_ (fun _ _ => trivial) ?_ ?_ ?_
      · have := h.2.1
        cases c <;> simp <;> omega
      · intro x hx
        rcases memA hx with hx | hx
        · exact .inl (hfl x hx)
        · cases c with
          | none => simp at hx
          | some c => simp at hx; exact .inr ⟨c, hx⟩
      · rintro x T Q' (hx | ⟨c, rfl⟩) hQ
        · decreasing_trivial_pre_omega
          refine is_column_flat hx ?_
          decreasing_trivial_pre_omega
          rw [isColD_flat hx] at hQ; exact hQ
        · decreasing_trivial_pre_omega
          refine is_column_col ?_
          decreasing_trivial_pre_omega
          exact hQ
      · intro x T Q' _ hQ
        decreasing_trivial_pre_omega
        exact hQ
      · intro T h1 h2
        decreasing_trivial_pre_omega
        refine q T _ (fun j o e => h1 j o (Kp.ne e) (lk_app e)) ?_ (by simp)
        rw [h2, List.filter_append, flats_filter (fun x => isColD_flat) hfl]
        cases c <;> rfl
    · decreasing_trivial_pre_omega
      refine ⟨by simp [sizeLine], ?_⟩
      decreasing_trivial_pre_omega
      refine q _ _ Kp.refl.app ?_ (by simp)
      rw [N.colsAt_none hc ha]
      exact lk_new
/-- each once -/
def ded (f ds : List D) : List D := ds.foldl (fun f x => if memB x f then f else f ++ [x]) f
theorem ded_nil (f : List D) : ded f [] = f := rfl
theorem ded_cons (f : List D) (x : D) (ds : List D) : ded f (x :: ds) = ded (if memB x f then f else f ++ [x]) ds := rfl
theorem ded_app (f a b : List D) : ded f (a ++ b) = ded (ded f a) b := by simp [ded, List.foldl_append]
theorem pyDs_all : ∀ {xs : List D}, (∀ x ∈ xs, Ky x) → ∃ ds, pyDs xs = some ds ∧ PyData.canLayAll0 ds = true ∧ PyData.depthAll ds ≤ 3
  | [], _ => ⟨[], by simp [pyDs], by simp [PyData.canLayAll0], by simp [PyData.depthAll]⟩
  | x :: xs, h => by
    obtain ⟨p, e1, e2, e3⟩ := (h x (by simp)).data
    obtain ⟨ds, g1, g2, g3⟩ := pyDs_all (xs := xs) fun y hy => h y (by simp [hy])
    exact ⟨p :: ds, by simp [pyDs, e1, g1], by simp [PyData.canLayAll0, e2, g2], by rw [PyData.depthAll]; exact Nat.max_le.mpr ⟨e3, g3⟩⟩
theorem notin_ok {n : Nat} {S : Sto} {x : D} {found : List D} {Q : D → Sto → Prop} (hn : S[n]? = some (.lst found)) (hx : Ky x) (hf : ∀ y ∈ found, Ky y) (q : Q (.bl (!memB x found)) S) : w2 (inF true) x (.ref n) S Q := by
  obtain ⟨p, e1, e2, e3⟩ := hx.data
  obtain ⟨ds, g1, g2, g3⟩ := pyDs_all hf
  refine o_notin hn e1 g1 ?_ ?_ q
  · simp only [SeqAt.shaped, e2, Bool.true_and, decide_eq_true_eq]; omega
  · refine Bool.and_eq_true_iff.mpr ⟨?_, decide_eq_true ?_⟩
    · rw [PyData.canLay0]; exact g2
    · rw [PyData.depth]; omega
theorem sum_one {f : N → List D} (hf : ∀ n, (f n).length ≤ 1) (l : List N) : (l.flatMap f).length ≤ l.length := by
  induction l with
  | nil => simp
  | cons n l ih => have := hf n; simp only [List.flatMap_cons, List.length_append, List.length_cons]; omega
theorem lvs_len (l : List N) : (l.flatMap N.lv).length ≤ tot l := by
  induction l with
  | nil => simp [tot]
  | cons n l ih =>
    have := N.lv_sz n
    have e : tot (n :: l) = n.sz + tot l := by simp [tot]
    simp only [List.flatMap_cons, List.length_append]; omega
theorem lvs_ok {l : List N} (h : okL l) : okL (l.flatMap N.lv) := fun n hn => by
  obtain ⟨m, hm, hn⟩ := List.mem_flatMap.mp hn
  exact N.lv_ok m (h m hm) n hn
def colsOf (o : Option N) : List D := ((stk o).flatMap N.lv).flatMap N.colsAt
theorem columns_in_ok {o : Option N} (h : okO o) (hs : tot (stk o) ≤ 100000) {k : Nat} {S : Sto} {Q : D → Sto → Prop} (q : ∀ S', Kp S S' → Q (.tup (ded [] (colsOf o))) S') : w1 (den (k + 3) .columns_in) [od o] S Q := by
  refine w_body ?_
  unfold b_columns_in
  decreasing_trivial_pre_omega
  refine ⟨by simp [sizeLine], ?_⟩
  decreasing_trivial_pre_omega
  refine leaves_ok h hs ?_
  intro S1 r hk1 hr hrn
  have hf1 : S1[S.length]? = some (O.lst []) := hk1 _ _ lk_new
  have hk : Kp S S1 := Kp.refl.app.trans hk1
  have hne : r ≠ S.length := fun z => by
    subst z
    rw [lk_new] at hrn; cases hrn
  have hne' := hne.symm
  have hll := lvs_len (stk o)
  decreasing_trivial_pre_omega
  generalize hL : (stk o).flatMap N.lv = L at *
  have hLo : okL L := by rw [← hL]; exact lvs_ok h.stk
  refine for_inv (fun rest γ T => ∃ tl found x y, rest = ms tl ∧ okL tl ∧ γ = [some (od o), some (.ref S.length), x, y] ∧ T[r]? = some (.lst (ms L)) ∧ T[S.length]? = some (.lst found) ∧ Kp S T ∧ (∀ z ∈ found, Ky z) ∧ ded found (tl.flatMap N.colsAt) = ded [] (L.flatMap N.colsAt) ∧ found.length + tl.length ≤ 100000) ?_ ?_ _ _ _ ?_
  · rintro x rest γ T ⟨tl, found, x1, y1, hrest, hok, rfl, h1, h2, h3, h4, h5, h6⟩
    refine ⟨h1, ?_⟩
    cases tl with
    | nil => cases hrest
    | cons n tl =>
      rw [ms_cons] at hrest
      cases hrest
      decreasing_trivial_pre_omega
      have hn : n.ok := hok n (by simp)
      refine columns_at_ok hn ?_
      intro T1 rc k1 g1 gn
      have h1' := k1 _ _ h1
      have h2' := k1 _ _ h2
      have n3 : rc ≠ S.length := fun z => by subst z; rw [h2] at gn; cases gn
      have n4 : rc ≠ r := fun z => by subst z; rw [h1] at gn; cases gn
      have n5 := n3.symm
      have n6 := n4.symm
      have one := N.colsAt_one n
      simp only [List.length_cons] at h6
      have hky := N.colsAt_ky hn
      decreasing_trivial_pre_omega
      refine for_inv (fun rest2 γ T2 => ∃ fnd x y, γ = [some (od o), some (.ref S.length), x, y] ∧ T2[rc]? = some (.lst n.colsAt) ∧ T2[r]? = some (.lst (ms L)) ∧ T2[S.length]? = some (.lst fnd) ∧ Kp S T2 ∧ (∀ z ∈ rest2, Ky z) ∧ (∀ z ∈ fnd, Ky z) ∧ ded fnd rest2 = ded found n.colsAt ∧ fnd.length + rest2.length ≤ found.length + 1) ?_ ?_ _ _ _ ?_
      · rintro c rest2 γ T2 ⟨fnd, x2, y2, rfl, j1, j2, j3, j4, j5, j6, j7, j8⟩
        refine ⟨j1, ?_⟩
        simp only [List.length_cons] at j8
        decreasing_trivial_pre_omega
        refine notin_ok j3 (j5 c (by simp)) j6 ?_
        decreasing_trivial_pre_omega
        rw [ded_cons] at j7
        refine iff_b (fun hm => ?_) (fun hm => ?_)
        · decreasing_trivial_pre_omega
          refine ⟨ty_lst j3, ?_⟩
          decreasing_trivial_pre_omega
          refine m_append j3 (by simp only [sizeLine]; omega) ?_
          decreasing_trivial_pre_omega
          refine ⟨fnd ++ [c], _, _, rfl, by array_get_dec, by array_get_dec, by array_get_dec, j4.set (by simp), fun z hz => j5 z (by simp [hz]), ?_, ?_, by simp; omega⟩
          · intro z hz
            rcases memA hz with hz | hz
            · exact j6 z hz
            · simp at hz; subst hz; exact j5 z (by simp)
          · rw [← j7]; simp at hm; simp [hm]
        · decreasing_trivial_pre_omega
          refine ⟨fnd, _, _, rfl, j1, j2, j3, j4, fun z hz => j5 z (by simp [hz]), j6, ?_, by omega⟩
          rw [← j7]; simp at hm; simp [hm]
      · rintro γ T2 ⟨fnd, x2, y2, rfl, j1, j2, j3, j4, j5, j6, j7, j8⟩
        refine ⟨j1, ?_⟩
        decreasing_trivial_pre_omega
        rw [ded_nil] at j7
        refine ⟨tl, fnd, _, _, rfl, fun m hm => hok m (by simp [hm]), rfl, j2, j3, j4, j6, ?_, ?_⟩
        · rw [← h5, j7, List.flatMap_cons, ded_app]
        · simp at j8; omega
      · refine ⟨found, _, _, rfl, g1, h1', h2', h3.trans k1, hky, h4, rfl, by omega⟩
  · rintro γ T ⟨tl, found, x1, y1, hrest, hok, rfl, h1, h2, h3, h4, h5, h6⟩
    refine ⟨h1, ?_⟩
    have : tl = [] := by cases tl with
      | nil => rfl
      | cons b m => cases hrest
    subst this
    decreasing_trivial_pre_omega
    have e : found = ded [] (colsOf o) := by rw [colsOf, hL, ← h5]; rfl
    rw [e]
    exact q _ h3
  · exact ⟨L, [], none, none, rfl, hLo, rfl, hr, hf1, hk, by simp, rfl, by simp; omega⟩
end
section
theorem strOk_lit (s : String) : PyData.strOk (Str.ofString s) = true := by
  unfold PyData.strOk
  rw [← Array.all_toList, PyProof.Rows.signs_ofString, List.all_map, List.all_eq_true]
  intro c _
  have := c.valid
  simp only [Function.comp_apply, decide_eq_true_eq]
  simp only [UInt32.isValidChar, Nat.isValidChar] at this
  show c.val.toNat < _
  omega
theorem strOk_app {a b : Str} (h : PyData.strOk a = true) (g : PyData.strOk b = true) : PyData.strOk (a ++ b) = true := by
  show (a.cps ++ b.cps).all _ = true
  rw [Array.all_append]
  unfold PyData.strOk at h g
  rw [h, g]; rfl
def atm1 (x : D) : Prop := x = .non ∨ (∃ i, x = .int i) ∨ ∃ z, x = .str z ∧ PyData.strOk z = true
theorem atm1_flat {x : D} (h : atm1 x) : flatD x = true := by
  rcases h with rfl | ⟨i, rfl⟩ | ⟨z, rfl, _⟩ <;> rfl
theorem atms_data : ∀ {xs : List D}, (∀ x ∈ xs, atm1 x) → ∃ ds ks, pyDs xs = some ds ∧ PyData.canLayAll0 ds = true ∧ PyData.depthAll ds = 0 ∧ nks xs = some ks ∧ NestedKey.depthAll ks = 0
  | [], _ => ⟨[], [], by simp [pyDs], by simp [PyData.canLayAll0], by simp [PyData.depthAll], by simp [nks], by simp [NestedKey.depthAll]⟩
  | x :: xs, h => by
    obtain ⟨ds, ks, g1, g2, g3, g4, g5⟩ := atms_data (xs := xs) fun y hy => h y (by simp [hy])
    rcases h x (by simp) with rfl | ⟨i, rfl⟩ | ⟨z, rfl, hz⟩
    · exact ⟨.none :: ds, .none :: ks, by simp [pyDs, pyD, g1], by simp [PyData.canLayAll0, PyData.canLay0, g2], by simp [PyData.depthAll, PyData.depth, g3], by simp [nks, nk, g4], by simp [NestedKey.depthAll, NestedKey.depth, g5]⟩
    · exact ⟨.int i :: ds, .num i :: ks, by simp [pyDs, pyD, g1], by simp [PyData.canLayAll0, PyData.canLay0, g2], by simp [PyData.depthAll, PyData.depth, g3], by simp [nks, nk, g4], by simp [NestedKey.depthAll, NestedKey.depth, g5]⟩
    · exact ⟨.str z :: ds, .text z :: ks, by simp [pyDs, pyD, g1], by simp [PyData.canLayAll0, PyData.canLay0, g2, hz], by simp [PyData.depthAll, PyData.depth, g3], by simp [nks, nk, g4], by simp [NestedKey.depthAll, NestedKey.depth, g5]⟩
theorem ky_atms {xs : List D} (h : ∀ x ∈ xs, atm1 x) : Ky (.tup xs) := by
  obtain ⟨ds, ks, g1, g2, g3, g4, g5⟩ := atms_data h
  refine ⟨⟨.tuple ds, by simp [pyD, g1], by rw [PyData.canLay0]; exact g2, by rw [PyData.depth]; omega⟩, xs, .tup ks, rfl, ?_⟩
  unfold keyN
  simp only [nk, g4]
  rw [if_pos (by rw [NestedKey.depth]; omega)]
theorem pyDs_app : ∀ {xs ys : List D} {a b}, pyDs xs = some a → pyDs ys = some b → pyDs (xs ++ ys) = some (a ++ b)
  | [], ys, a, b, h, g => by simp [pyDs] at h; subst h; simpa using g
  | x :: xs, ys, a, b, h, g => by
    rw [pyDs] at h
    split at h
    · rename_i p ds e1 e2
      cases h
      rw [List.cons_append, pyDs, e1, pyDs_app e2 g]; rfl
    · cases h
theorem nks_app : ∀ {xs ys : List D} {a b}, nks xs = some a → nks ys = some b → nks (xs ++ ys) = some (a ++ b)
  | [], ys, a, b, h, g => by simp [nks] at h; subst h; simpa using g
  | x :: xs, ys, a, b, h, g => by
    rw [nks] at h
    split at h
    · rename_i p ds e1 e2
      cases h
      rw [List.cons_append, nks, e1, nks_app e2 g]; rfl
    · cases h
theorem lay_app : ∀ (a b : List PyData), PyData.canLayAll0 a = true → PyData.canLayAll0 b = true → PyData.canLayAll0 (a ++ b) = true
  | [], b, _, g => g
  | x :: a, b, h, g => by
    rw [PyData.canLayAll0, Bool.and_eq_true] at h
    rw [List.cons_append, PyData.canLayAll0, h.1, lay_app a b h.2 g]; rfl
theorem dep_app : ∀ (a b : List PyData), PyData.depthAll (a ++ b) = max (PyData.depthAll a) (PyData.depthAll b)
  | [], b => by simp [PyData.depthAll]
  | x :: a, b => by rw [List.cons_append, PyData.depthAll, PyData.depthAll, dep_app a b, Nat.max_assoc]
theorem ndep_app : ∀ (a b : List NestedKey), NestedKey.depthAll (a ++ b) = max (NestedKey.depthAll a) (NestedKey.depthAll b)
  | [], b => by simp [NestedKey.depthAll]
  | x :: a, b => by rw [List.cons_append, NestedKey.depthAll, NestedKey.depthAll, ndep_app a b, Nat.max_assoc]
theorem ky_col {xs : List D} (h : ∀ x ∈ xs, atm1 x) : Ky (N.colD xs) := ky_atms fun x hx => by
  rcases memC hx with rfl | hx
  · exact .inr (.inr ⟨_, rfl, strOk_lit _⟩)
  · exact h x hx
/-! ### the law's trees as trees -/
def nN (i : Nat) : D := .int i
theorem colN_ky (u c : Nat) : Ky (N.colD [nN u, nN c]) := ky_col fun x hx => by
  rcases memC hx with rfl | hx
  · exact .inr (.inl ⟨_, rfl⟩)
  · rcases memC hx with rfl | hx
    · exact .inr (.inl ⟨_, rfl⟩)
    · simp at hx
namespace Tm
def n : Tm → N
  | num z => .atm "num" [.int z] | text s => .atm "text" [.str s] | col u c => .col [nN u, nN c] | neg a => .un "neg" a.n | bin w a b => .two w [] a.n b.n
theorem n_d : ∀ t : Tm, t.n.d = t.d
  | num z => rfl | text s => rfl | col u c => rfl
  | neg a => by simp only [n, N.d, d, n_d a]
  | bin w a b => by simp only [n, N.d, d, n_d a, n_d b]; rfl
theorem n_okN : ∀ {t : Tm}, t.okN → t.n.ok
  | num z, h => ⟨.inl ⟨.inl rfl, by simp [flats, flatD]⟩, by simp, by simp; exact fit_flat rfl 30⟩
  | col u c, h => ⟨by simp [flats, flatD, nN], by simp, colN_ky u c⟩
  | neg a, h => ⟨.inl rfl, n_okN (t := a) h⟩
  | bin w a b, h => ⟨.inl ⟨by rcases h.2.2 with z | z | z; exact .inl z; exact .inr (.inl z); exact .inr (.inr (.inl z.1)), rfl⟩, n_okN h.1, n_okN h.2.1⟩
theorem n_okT : ∀ {t : Tm}, t.okT → t.n.ok
  | text z, h => ⟨.inl ⟨.inr rfl, by simp [flats, flatD]⟩, by simp, by simp; exact fit_flat rfl 30⟩
  | col u c, h => ⟨by simp [flats, flatD, nN], by simp, colN_ky u c⟩
theorem n_ok {tx : Bool} {t : Tm} (h : okB tx t) : t.n.ok := by
  cases tx
  · exact n_okN h
  · exact n_okT h
def cN (x : Nat × Nat) : D := N.colD [nN x.1, nN x.2]
theorem n_cols : ∀ t : Tm, t.n.lv.flatMap N.colsAt = t.cols.map cN
  | num z => rfl | text s => rfl | col u c => rfl
  | neg a => n_cols a
  | bin w a b => by simp only [n, N.lv, List.flatMap_append, cols, List.map_append, n_cols a, n_cols b]
theorem n_sz : ∀ {t : Tm} {k : Nat}, t.ht ≤ k → t.n.sz + 1 ≤ 2 ^ (k + 1)
  | num z, k, h => by have := Nat.one_le_two_pow (n := k); simp only [n, N.sz, Nat.pow_succ]; omega
  | text z, k, h => by have := Nat.one_le_two_pow (n := k); simp only [n, N.sz, Nat.pow_succ]; omega
  | col u c, k, h => by have := Nat.one_le_two_pow (n := k); simp only [n, N.sz, Nat.pow_succ]; omega
  | neg a, k, h => by
    simp only [ht] at h
    obtain ⟨j, rfl⟩ : ∃ j, k = j + 1 := ⟨k - 1, by omega⟩
    have := n_sz (t := a) (k := j) (by omega)
    have := Nat.one_le_two_pow (n := j)
    simp only [n, N.sz, Nat.pow_succ] at *; omega
  | bin w a b, k, h => by
    simp only [ht] at h
    obtain ⟨j, rfl⟩ : ∃ j, k = j + 1 := ⟨k - 1, by omega⟩
    have := n_sz (t := a) (k := j) (by omega)
    have := n_sz (t := b) (k := j) (by omega)
    simp only [n, N.sz, Nat.pow_succ] at *; omega
end Tm
namespace Lf
def n : Lf → N
  | null a => .un "null" a.n | cmp op a b => .two "cmp" [.str op] a.n b.n
theorem n_d : ∀ L : Lf, L.n.d = L.d
  | null a => by simp only [n, N.d, d, Tm.n_d]
  | cmp op a b => by simp only [n, N.d, d, Tm.n_d]; rfl
theorem n_ok : ∀ {L : Lf}, L.ok → L.n.ok
  | null a, ⟨⟨tx, h⟩, _⟩ => ⟨.inr (.inl rfl), Tm.n_ok h⟩
  | cmp op a b, ⟨ho, ⟨tx, h1, h2⟩, _⟩ => ⟨.inr ⟨rfl, op, rfl⟩, Tm.n_ok h1, Tm.n_ok h2⟩
theorem n_cols : ∀ L : Lf, L.n.lv.flatMap N.colsAt = L.cols.map Tm.cN
  | null a => Tm.n_cols a
  | cmp op a b => by simp only [n, N.lv, List.flatMap_append, cols, List.map_append, Tm.n_cols a, Tm.n_cols b]
theorem n_sz : ∀ {L : Lf}, L.ok → L.n.sz ≤ 40
  | null a, ⟨_, h⟩ => by have := Tm.n_sz h; simp only [n, N.sz]; omega
  | cmp op a b, ⟨ho, _, h1, h2⟩ => by have := Tm.n_sz h1; have := Tm.n_sz h2; simp only [n, N.sz]; omega
end Lf
/-! ### columns, once each -/
theorem pyDs_cols : ∀ xs : List (Nat × Nat), pyDs (xs.map Tm.cN) = some (xs.map fun x => .tuple [.str "col", .int x.1, .int x.2])
  | [] => by simp [pyDs]
  | x :: xs => by rw [List.map_cons, pyDs, pyDs_cols xs]; simp [Tm.cN, N.colD, pyD, pyDs, nN]
theorem mem_cols (x : Nat × Nat) (xs : List (Nat × Nat)) : memB (Tm.cN x) (xs.map Tm.cN) = decide (x ∈ xs) := by
  have e : pyD (Tm.cN x) = some (.tuple [.str "col", .int x.1, .int x.2]) := by simp [Tm.cN, N.colD, pyD, pyDs, nN]
  unfold memB
  rw [e, pyDs_cols]
  simp only [List.any_map]
  rw [Bool.eq_iff_iff]
  simp only [List.any_eq_true, Function.comp_apply, decide_eq_true_eq]
  constructor
  · rintro ⟨y, hy, h⟩
    have : y = x := by
      simp [PyData.eqv, PyData.eqvAll] at h
      obtain ⟨a, b⟩ := h
      exact Prod.ext (by omega) (by omega)
    exact this ▸ hy
  · intro h
    exact ⟨x, h, by simp [PyData.eqv, PyData.eqvAll]⟩
theorem ded_cols : ∀ (xs f : List (Nat × Nat)), ∃ ys : List (Nat × Nat), ded (f.map Tm.cN) (xs.map Tm.cN) = ys.map Tm.cN ∧ ∀ x, x ∈ ys ↔ x ∈ f ∨ x ∈ xs
  | [], f => ⟨f, rfl, by simp⟩
  | x :: xs, f => by
    rw [List.map_cons, ded_cons, mem_cols]
    by_cases h : x ∈ f
    · rw [decide_eq_true h, if_pos rfl]
      obtain ⟨ys, e, m⟩ := ded_cols xs f
      refine ⟨ys, e, fun y => ?_⟩
      rw [m, List.mem_cons]
      constructor
      · rintro (a | a)
        · exact .inl a
        · exact .inr (.inr a)
      · rintro (a | a | a)
        · exact .inl a
        · exact .inl (a ▸ h)
        · exact .inr a
    · rw [decide_eq_false h, if_neg (by decide)]
      obtain ⟨ys, e, m⟩ := ded_cols xs (f ++ [x])
      rw [List.map_append] at e
      refine ⟨ys, e, fun y => ?_⟩
      rw [m]; simp [or_assoc]
theorem fe_cols (w : Nat) : ∀ ys : List (Nat × Nat), fe 1 (w : Int) (ys.map Tm.cN) = some (ys.map fun y => y.1 == w)
  | [] => rfl
  | y :: ys => by
    (rw [List.map_cons, List.map_cons])
    have e : ((y.1 : Int) == (w : Int)) = (y.1 == w) := by rw [Bool.eq_iff_iff, beq_iff_eq, beq_iff_eq]; omega
    show (match (some (D.int y.1) : Option D), fe 1 (w : Int) (ys.map Tm.cN) with | some (.int i), some bs => some ((i == (w : Int)) :: bs) | _, _ => none) = _
    rw [fe_cols w ys]
    simp [e]
theorem v_anyFE {k iy : Nat} {e : EvM} {γ : Sl} {S : Sto} {Q : D → Sto → Prop} {j : Int} (hj : γ[iy]? = some (some (.int j))) (h : wE e γ S fun d S1 => isTup d fun xs => ∃ bs, fe k j xs = some bs ∧ Q (.bl (bs.any id)) S1) : wE (anyFE k iy e) γ S Q := by
  obtain ⟨d, S1, e1, xs, rfl, bs, e2, q⟩ := h
  exact ⟨_, _, by unfold anyFE; simp only [e1, hj, e2], q⟩
theorem has_ok {L : Lf} (hL : L.ok) {w k : Nat} {S : Sto} {Q : D → Sto → Prop} (q : ∀ S', Kp S S' → Q (.bl (hitB w L.cols)) S') : w1 (den (k + 4) .has_column_of) [L.d, .int w] S Q := by
  refine w_body ?_
  unfold b_has_column_of
  sizeOf_list_dec
  refine v_anyFE rfl ?_
  sizeOf_list_dec
  have e : [L.d] = [od (some L.n)] := by simp only [od, Lf.n_d]
  rw [e]
  refine columns_in_ok (o := some L.n) (fun n h => by cases h; exact Lf.n_ok hL) (by have := Lf.n_sz hL; simp [stk, tot]; omega) ?_
  intro S' hk
  obtain ⟨ys, h1, h2⟩ := ded_cols L.cols []
  have e2 : ded [] (colsOf (some L.n)) = ys.map Tm.cN := by
    rw [← h1]
    simp only [colsOf, stk, List.flatMap_cons, List.flatMap_nil, List.append_nil, Lf.n_cols, List.map_nil]
  rw [e2]
  sizeOf_list_dec
  refine ⟨_, fe_cols w ys, ?_⟩
  have e3 : (ys.map fun y => y.1 == w).any id = hitB w L.cols := by
    unfold hitB
    rw [List.any_map, Bool.eq_iff_iff, List.any_eq_true, List.any_eq_true]
    constructor
    · rintro ⟨y, a, b⟩; exact ⟨y, by simpa using (h2 y).mp a, b⟩
    · rintro ⟨y, a, b⟩; exact ⟨y, (h2 y).mpr (.inr a), b⟩
  rw [e3]
  sizeOf_list_dec
  exact q _ hk
end
section
/-! ### truths as levels -/
def tv : Nat → D
  | 0 => .bl false | 2 => .bl true | _ => .non
def tp : Nat → PyData
  | 0 => .bool false | 2 => .bool true | _ => .none
theorem lt3 {x : Nat} (h : x ≤ 2) : x = 0 ∨ x = 1 ∨ x = 2 := by omega
theorem tv_py : ∀ x : Nat, pyD (tv x) = some (tp x)
  | 0 => by simp [tv, tp, pyD] | 1 => by simp [tv, tp, pyD] | 2 => by simp [tv, tp, pyD] | _ + 3 => by simp [tv, tp, pyD]
theorem tp_data : ∀ x : Nat, (tp x).canLay0 = true ∧ (tp x).depth = 0
  | 0 => by simp [tp, PyData.canLay0, PyData.depth] | 1 => by simp [tp, PyData.canLay0, PyData.depth] | 2 => by simp [tp, PyData.canLay0, PyData.depth] | _ + 3 => by simp [tp, PyData.canLay0, PyData.depth]
theorem tvs_py : ∀ xs : List Nat, pyDs (xs.map tv) = some (xs.map tp) ∧ PyData.canLayAll0 (xs.map tp) = true ∧ PyData.depthAll (xs.map tp) = 0
  | [] => by simp [pyDs, PyData.canLayAll0, PyData.depthAll]
  | x :: xs => by
    obtain ⟨a, b, c⟩ := tvs_py xs
    obtain ⟨d, e⟩ := tp_data x
    simp [pyDs, tv_py, a, PyData.canLayAll0, b, d, PyData.depthAll, c, e]
theorem tp_eqv {x y : Nat} (hx : x ≤ 2) (hy : y ≤ 2) : PyData.eqv (tp y) (tp x) = (y == x) := by
  rcases lt3 hx with rfl | rfl | rfl <;> rcases lt3 hy with rfl | rfl | rfl <;> simp [tp, PyData.eqv]
theorem o_inT {S : Sto} {n l : Nat} {xs : List Nat} {Q : D → Sto → Prop} (hn : S[n]? = some (.lst (xs.map tv))) (hx : ∀ x ∈ xs, x ≤ 2) (hl : l ≤ 2) (q : Q (.bl (xs.contains l)) S) : w2 (inF false) (tv l) (.ref n) S Q := by
  obtain ⟨a, b, c⟩ := tvs_py xs
  obtain ⟨d, e⟩ := tp_data l
  have s1 : SeqAt.shaped (tp l) = true := by simp only [SeqAt.shaped, d, Bool.true_and, decide_eq_true_eq]; omega
  have s2 : SeqAt.shaped (.list (xs.map tp)) = true := by
    refine Bool.and_eq_true_iff.mpr ⟨?_, decide_eq_true ?_⟩
    · rw [PyData.canLay0]; exact b
    · rw [PyData.depth]; omega
  have e2 : (xs.any ((fun z => PyData.eqv z (tp l)) ∘ tp)) = decide (l ∈ xs) := by
    rw [Bool.eq_iff_iff, List.any_eq_true, decide_eq_true_iff]
    constructor
    · rintro ⟨y, hy, h⟩
      simp only [Function.comp_apply] at h
      rw [tp_eqv hl (hx y hy)] at h
      rw [← beq_iff_eq.mp h]; exact hy
    · intro h
      exact ⟨l, h, by simp only [Function.comp_apply]; rw [tp_eqv hl hl]; simp⟩
  refine ⟨_, _, ?_, q⟩
  unfold inF inT inB
  simp [tv_py, pyO, hn, a, s1, s2, e2]
def levU (w : Str) (x : Nat) : Nat := if w = "not" then 2 - x else if 0 < x then 2 else 0
def levB (w : Str) (x y : Nat) : Nat := if w = "and" then min x y else max x y
variable {k : Nat} {S : Sto} {Q : D → Sto → Prop}
theorem negated_ok {x : Nat} (hx : x ≤ 2) (q : Q (tv (levU "not" x)) S) : w1 (den (k + 1) .negated) [tv x] S Q := by
  refine w_body ?_
  unfold b_negated
  rcases lt3 hx with rfl | rfl | rfl
  · sizeOf_list_dec; refine iff_f ?_; sizeOf_list_dec; exact q
  · sizeOf_list_dec; refine iff_t ?_; sizeOf_list_dec; exact q
  · sizeOf_list_dec; refine iff_f ?_; sizeOf_list_dec; exact q
theorem perhaps_ok {x : Nat} (hx : x ≤ 2) (q : Q (tv (levU "maybe" x)) S) : w1 (den (k + 1) .perhaps) [tv x] S Q := by
  refine w_body ?_
  unfold b_perhaps
  rcases lt3 hx with rfl | rfl | rfl
  · sizeOf_list_dec; refine o_isnT rfl ?_; sizeOf_list_dec; exact q
  · sizeOf_list_dec; refine o_isnT rfl ?_; sizeOf_list_dec; exact q
  · sizeOf_list_dec; refine o_isnT rfl ?_; sizeOf_list_dec; exact q
theorem both_ok {x y : Nat} (hx : x ≤ 2) (hy : y ≤ 2) (q : Q (tv (levB "and" x y)) S) : w1 (den (k + 1) .both) [tv x, tv y] S Q := by
  refine w_body ?_
  unfold b_both
  rcases lt3 hx with rfl | rfl | rfl <;> rcases lt3 hy with rfl | rfl | rfl <;>
    repeat (first | exact q | array_mem_dec | refine o_isT rfl ?_ | refine iff_t ?_ | refine iff_f ?_)
theorem either_ok {x y : Nat} (hx : x ≤ 2) (hy : y ≤ 2) (q : Q (tv (levB "or" x y)) S) : w1 (den (k + 1) .either) [tv x, tv y] S Q := by
  refine w_body ?_
  unfold b_either
  rcases lt3 hx with rfl | rfl | rfl <;> rcases lt3 hy with rfl | rfl | rfl <;>
    repeat (first | exact q | array_mem_dec | refine o_isT rfl ?_ | refine iff_t ?_ | refine iff_f ?_)
end
section
variable {k : Nat} {S : Sto} {Q : D → Sto → Prop}
/-! ### what can be, piece by piece -/
def L3 : List Nat := [2, 0, 1]
def mayB (W : Nat → List Nat) : Bn → Nat → Bool
  | .lf i, l => (W i).contains l
  | .un w a, l => ((L3.filter (mayB W a)).map (levU w)).contains l
  | .bi w a b, l => ((L3.filter (mayB W a)).flatMap fun x => (L3.filter (mayB W b)).map (levB w x)).contains l
theorem L3_le {p : Nat → Bool} : ∀ x ∈ L3.filter p, x ≤ 2 := fun x hx => by
  have := (List.mem_filter.mp hx).1
  simp [L3] at this; omega
theorem levU_le {w : Str} {x : Nat} (h : x ≤ 2) : levU w x ≤ 2 := by unfold levU; split <;> (try split) <;> omega
theorem levB_le {w : Str} {x y : Nat} (h : x ≤ 2) (h' : y ≤ 2) : levB w x y ≤ 2 := by unfold levB; split <;> omega
theorem k_nil {ck tgt} {tt : CvM} {e : EvM} {γ : Sl} {n : Nat} {S : Sto} {Q : Sto → Prop} (hc : Chk ck S) (q : Q S) : wK ck tgt tt e γ n [] S Q := ⟨_, by unfold compI; rw [if_pos hc], q⟩
theorem k_cons {ck tgt} {e : EvM} {γ γ1 : Sl} {n : Nat} {x : D} {xs : List D} {S : Sto} {Q : Sto → Prop} (hc : Chk ck S) (hb : bindT tgt x γ = some γ1) (h : wE e γ1 S fun y S2 => ∃ acc, S2[n]? = some (.lst acc) ∧ acc.length < sizeLine ∧ wK ck tgt yesC e γ n xs (S2.set n (.lst (acc ++ [y]))) Q) : wK ck tgt yesC e γ n (x :: xs) S Q := by
  obtain ⟨y, S2, e3, acc, e4, hl, S3, e5, q⟩ := h
  exact ⟨S3, by unfold compI; rw [if_pos hc]; simp only [hb, yesC, e3, e4, if_pos hl, e5], q⟩
theorem comp2_map {m1 m2 i j n : Nat} {e : EvM} {γ : Sl} {vs1 : List Nat} {iv : IvM} {S : Sto} {g : D → D → D} {xs ys acc : List D} {Q : Sto → Prop} (hn : S[n]? = some (.lst acc)) (h1 : S[m1]? = some (.lst xs)) (hne1 : m1 ≠ n) (h2 : S[m2]? = some (.lst ys)) (hne2 : m2 ≠ n)
    (hiv : ∀ x ∈ xs, ∀ (T : Sto) (Q' : Option (Nat × O) → List D → Sto → Prop), T[m2]? = some (.lst ys) → Kp (S.set n (.lst [])) (T.set n (.lst [])) → Q' (some (m2, .lst ys)) ys T → wI iv (γ.set i (some x)) T Q')
    (he : ∀ x ∈ xs, ∀ y ∈ ys, ∀ (T : Sto) (Q' : D → Sto → Prop), Q' (g x y) T → wE e ((wipeD (γ.set i (some x)) vs1).set j (some y)) T Q') (hl : acc.length + xs.length * ys.length ≤ 1000000) (q : Q (S.set n (.lst (acc ++ xs.flatMap fun x => ys.map (g x))))) :
    wK2 (some (m1, .lst xs)) (.one i) yesC iv (.one j) yesC e γ vs1 n xs S Q := by
  refine k2_inv (fun rest T => ∃ acc', T = S.set n (.lst acc') ∧ acc' ++ (rest.flatMap fun x => ys.map (g x)) = acc ++ (xs.flatMap fun x => ys.map (g x)) ∧ (∀ x ∈ rest, x ∈ xs) ∧ acc'.length + rest.length * ys.length ≤ 1000000) ?_ ?_ _ _ ?_
  · rintro x rest T ⟨acc', rfl, a1, a2, a3⟩
    refine ⟨lk_ne hne1 h1, _, rfl, ?_⟩
    sizeOf_list_dec
    refine iff_t ?_
    refine hiv x (a2 x (by simp)) _ _ (lk_ne hne2 h2) (by rw [List.set_set]; exact Kp.refl) ?_
    simp only [List.length_cons, Nat.add_mul, Nat.one_mul] at a3
    refine comp_map (g := g x) (lk_set hn) ⟨lk_ne hne2 h2, fun m o e => by cases e; exact hne2⟩ (fun y hy T Q' => he x (a2 x (by simp)) y hy T Q') (by omega) ?_
    rw [List.set_set]
    exact ⟨_, rfl, by rw [← a1]; simp, fun y hy => a2 y (by simp [hy]), by simp; omega⟩
  · rintro T ⟨acc', rfl, a1, _, _⟩
    refine ⟨lk_ne hne1 h1, ?_⟩
    rw [← a1] at q
    simpa using q
  · refine ⟨acc, ?_, rfl, fun _ h => h, hl⟩
    obtain ⟨hl, e⟩ := List.getElem?_eq_some_iff.mp hn
    rw [← e, List.set_getElem_self]
end
section
set_option maxHeartbeats 1000000 -- wide
variable {k : Nat} {S : Sto} {Q : D → Sto → Prop}
theorem o_inF {x y : D} {b : Bool} (h : inT x y = some b) (q : Q (.bl b) S) : w2 (inF false) x y S Q := ⟨_, _, by unfold inF; simp only [h]; rfl, q⟩
def wOf (ls : List Lf) (w : Nat) (i : Nat) : List Nat := match ls[i]? with
  | some L => wayOf w L
  | none => []
theorem alone_ok {L : Lf} {w : Nat} {tag : Str} (ht : tag = (match L with | .null _ => "null" | .cmp _ _ _ => "cmp")) (q : ∀ r S', Kp S S' → S'[r]? = some (.lst ((L3.filter ((wayOf w L).contains)).map tv)) → S[r]? = none → Q (.ref r) S') : w1 (den (k + 1) .truths_alone) [.str tag, .bl (hitB w L.cols)] S Q := by
  refine w_body ?_
  unfold b_truths_alone
  have fin : ∀ v : List Nat, v = L3.filter ((wayOf w L).contains) → Q (.ref S.length) (S ++ [.lst (v.map tv)]) := fun v hv => q _ _ Kp.refl.app (by rw [hv]; exact lk_new) none_len
  cases L with
  | null a =>
    subst ht
    cases hb : hitB w (Lf.null a).cols with
    | true =>
      sizeOf_list_dec
      refine iff_f ?_
      sizeOf_list_dec
      refine iff_t ?_
      sizeOf_list_dec
      exact fin [2] (by simp only [wayOf, hb]; rfl)
    | false =>
      sizeOf_list_dec
      refine iff_f ?_
      sizeOf_list_dec
      refine iff_f ?_
      sizeOf_list_dec
      exact fin [2, 0] (by simp only [wayOf, hb]; rfl)
  | cmp op a a2 =>
    subst ht
    cases hb : hitB w (Lf.cmp op a a2).cols with
    | true =>
      sizeOf_list_dec
      refine iff_t ?_
      sizeOf_list_dec
      refine iff_t ?_
      sizeOf_list_dec
      exact fin [1] (by simp only [wayOf, hb]; rfl)
    | false =>
      sizeOf_list_dec
      refine iff_t ?_
      sizeOf_list_dec
      refine iff_f ?_
      sizeOf_list_dec
      exact fin [2, 0, 1] (by simp only [wayOf, hb]; rfl)
theorem parts_un {w : Str} {x : D} (hw : w = "not" ∨ w = "maybe") (q : Q (.tup [x]) S) : w1 (den (k + 1) .parts_of) [.tup [.str w, x]] S Q := by
  refine w_body ?_
  unfold b_parts_of
  rcases hw with rfl | rfl
  · sizeOf_list_dec; refine ⟨_, rfl, ?_⟩; sizeOf_list_dec; exact q
  · sizeOf_list_dec; refine ⟨_, rfl, ?_⟩; sizeOf_list_dec; exact q
theorem parts_bi {w : Str} {x y : D} (hw : w = "and" ∨ w = "or") (q : Q (.tup [x, y]) S) : w1 (den (k + 1) .parts_of) [.tup [.str w, x, y]] S Q := by
  refine w_body ?_
  unfold b_parts_of
  rcases hw with rfl | rfl
  · sizeOf_list_dec; refine ⟨_, rfl, ?_⟩; sizeOf_list_dec; exact q
  · sizeOf_list_dec; refine ⟨_, rfl, ?_⟩; sizeOf_list_dec; exact q
/-- .. whose test reads the store -/
theorem k_filterT {p : D → Bool} {P : D → Prop} {i n : Nat} {tt : CvM} {e : EvM} {γ : Sl} {T : Sto} {ck} {Q : Sto → Prop} {xs : List D} (hn : T[n]? = some (.lst [])) (hl : xs.length ≤ 1000000)
    (hP : ∀ x ∈ xs, P x) (hck : ∀ T' : Sto, Kp (T.set n (.lst [])) (T'.set n (.lst [])) → Chk ck T')
    (ht : ∀ (x : D) (T' : Sto) (Q' : Bool → Sto → Prop), P x → (∀ (j : Nat) (o : O), j ≠ n → T[j]? = some o → T'[j]? = some o) → Q' (p x) T' → wC tt (γ.set i (some x)) T' Q')
    (he : ∀ (x : D) (T' : Sto) (Q' : D → Sto → Prop), P x → Q' x T' → wE e (γ.set i (some x)) T' Q')
    (q : ∀ T' : Sto, (∀ (j : Nat) (o : O), j ≠ n → T[j]? = some o → T'[j]? = some o) → T'[n]? = some (.lst (xs.filter p)) → Q T') : wK ck (.one i) tt e γ n xs T Q := by
  have ext : ∀ T' : Sto, (∀ (j : Nat) (o : O), j ≠ n → T[j]? = some o → T'[j]? = some o) → n < T'.length → Kp (T.set n (.lst [])) (T'.set n (.lst [])) := by
    intro T' h hl j o hj
    by_cases e : j = n
    · subst e
      rw [List.getElem?_set_self (lt_of hn)] at hj
      rw [List.getElem?_set_self hl]; exact hj
    · rw [List.getElem?_set_ne (Ne.symm e)] at hj ⊢
      exact h j o e hj
  refine k_inv (fun rest T' => ∃ acc, (∀ x ∈ rest, P x) ∧ (∀ (j : Nat) (o : O), j ≠ n → T[j]? = some o → T'[j]? = some o) ∧ T'[n]? = some (.lst acc) ∧ acc ++ rest.filter p = xs.filter p ∧ acc.length + rest.length ≤ 1000000) ?_ ?_ _ _ ?_
  · rintro x r T' ⟨acc, hr, h1, h2, h3, h4⟩
    refine ⟨hck T' (ext T' h1 (lt_of h2)), _, rfl, ?_⟩
    refine ht x T' _ (hr x (by simp)) h1 ?_
    have hr' : ∀ y ∈ r, P y := fun y hy => hr y (by simp [hy])
    simp only [List.length_cons] at h4
    refine iff_b (fun hp => ?_) (fun hp => ?_)
    · refine he x T' _ (hr x (by simp)) ?_
      refine ⟨acc, h2, by simp only [sizeLine]; omega, acc ++ [x], hr', fun j o hj e => ?_, lk_set h2, ?_, by simp; omega⟩
      · rw [List.getElem?_set_ne (Ne.symm hj)]; exact h1 j o hj e
      · rw [← h3, List.filter_cons, if_pos hp]; simp
    · refine ⟨acc, hr', h1, h2, ?_, by omega⟩
      rw [← h3, List.filter_cons, if_neg (by simp [hp])]
  · rintro T' ⟨acc, hr, h1, h2, h3, h4⟩
    refine ⟨hck T' (ext T' h1 (lt_of h2)), q T' h1 ?_⟩
    rw [h2]; simp at h3; rw [h3]
  · exact ⟨[], hP, fun _ _ _ h => h, hn, by simp, by simpa using hl⟩
def unT : D → Nat
  | .bl true => 2 | .bl false => 0 | _ => 1
theorem unT_tv {l : Nat} (h : l ≤ 2) : unT (tv l) = l := by rcases lt3 h with rfl | rfl | rfl <;> rfl
/-- the end of truths_of: the truths that were found -/
theorem last_ok {γ : Sl} {n : Nat} {F : List Nat} (hF : ∀ x ∈ F, x ≤ 2) (hγ : γ[4]? = some (some (.ref n))) (hl : γ.length = 10) (hn : S[n]? = some (.lst (F.map tv))) (q : ∀ r S', Kp S S' → S'[r]? = some (.lst ((L3.filter F.contains).map tv)) → S[r]? = none → Q (.ref r) S') :
    wS (rtM (compM (seqI (conM c_TRUTHS)) (.one 7) (tstM (binM (inF false) (varM 7) (varM 4))) (varM 7) [7])) γ S (retQ Q) := by
  refine s_rt ?_
  refine v_comp ?_
  refine i_seq ?_
  refine v_con ?_
  rw [show c_TRUTHS = .tup (L3.map tv) from rfl]
  refine sq_tup ?_
  have ln := lt_of hn
  have h4 : ∀ x : Option D, ((γ.set 7 none).set 7 x)[4]? = some (some (.ref n)) := fun x => by
    rw [List.getElem?_set_ne (by omega), List.getElem?_set_ne (by omega)]; exact hγ
  have h7 : ∀ x : D, ((γ.set 7 none).set 7 (some x))[7]? = some (some x) := fun x => by
    rw [List.getElem?_set_self (by simp; omega)]
  refine k_filterT (P := fun x => ∃ l, l ≤ 2 ∧ x = tv l) (p := fun x => F.contains (unT x)) lk_new (by simp [L3]) (fun x hx => ?_) (fun T' h => trivial) ?_ ?_ ?_
  · obtain ⟨l, hl, rfl⟩ := List.mem_map.mp hx
    refine ⟨l, ?_, rfl⟩
    simp [L3] at hl; omega
  · rintro x T' Q' ⟨l, hl, rfl⟩ h1 q
    refine c_tst (v_bin (v_var (h7 _) (v_var (h4 _) (o_inT (h1 _ _ (by omega) (lk_app hn)) hF hl (bl_i ?_)))))
    rw [unT_tv hl] at q
    exact q
  · rintro x T' Q' ⟨l, hl, rfl⟩ q
    exact v_var (h7 _) q
  · intro T' k1 h1
    refine .rt (q _ _ (fun j o e => k1 j o (by have := lt_of e; omega) (lk_app e)) ?_ none_len)
    rw [h1]
    congr 2
    rw [List.filter_map]
    congr 1
theorem lsU {p : Nat → Bool} {v : Str} : ([] : List D) ++ ((L3.filter p).map tv).map (fun x => tv (levU v (unT x))) = ((L3.filter p).map (levU v)).map tv := by
  rw [List.nil_append, List.map_map, List.map_map]
  apply List.map_congr_left
  intro l hl
  simp only [Function.comp_apply, unT_tv (L3_le l hl)]
theorem lsB {p p' : Nat → Bool} {v : Str} : ([] : List D) ++ (((L3.filter p).map tv).flatMap fun x => ((L3.filter p').map tv).map fun y => tv (levB v (unT x) (unT y))) = ((L3.filter p).flatMap fun x => (L3.filter p').map (levB v x)).map tv := by
  rw [List.nil_append, List.map_flatMap, List.flatMap_map]
  simp only [List.flatMap]
  congr 1
  apply List.map_congr_left
  intro l hl
  (rw [List.map_map, List.map_map])
  apply List.map_congr_left
  intro l' hl'
  simp only [Function.comp_apply, unT_tv (L3_le l hl), unT_tv (L3_le l' hl')]
theorem none_len2 {S S2 : Sto} (h : S.length ≤ S2.length) : S[S2.length]? = none := List.getElem?_eq_none h
theorem truths_ok {ls : List Lf} {w : Nat} (hls : ∀ L ∈ ls, L.ok) : ∀ (b : Bn) (k : Nat) (S : Sto) (Q : D → Sto → Prop), b.ok → (∀ i ∈ b.idx, i < ls.length) → b.ht ≤ k → (∀ r S', Kp S S' → S'[r]? = some (.lst ((L3.filter (mayB (wOf ls w) b)).map tv)) → S[r]? = none → Q (.ref r) S') → w1 (den (k + 6) .truths_of) [b.tree (fOf ls), .int w] S Q
  | .lf i, k, S, Q, ho, hi, hk, q => by
    have hi' : i < ls.length := hi i (by simp [Bn.idx])
    have e0 : ls[i]? = some ls[i] := List.getElem?_eq_getElem hi'
    have hL := hls ls[i] (List.getElem_mem hi')
    generalize ls[i] = L at *
    have e1 : (Bn.lf i).tree (fOf ls) = L.d := by simp only [Bn.tree, fOf, e0]
    have e2 : mayB (wOf ls w) (.lf i) = (wayOf w L).contains := by funext l; simp only [mayB, wOf, e0]
    rw [e1]
    rw [e2] at q
    refine w_body ?_
    unfold b_truths_of
    cases L with
    | null a =>
      sizeOf_list_dec
      refine o_inF rfl ?_
      sizeOf_list_dec
      refine iff_t ?_
      sizeOf_list_dec
      refine has_ok (L := .null a) hL ?_
      intro S1 k1
      sizeOf_list_dec
      refine alone_ok (L := .null a) rfl ?_
      intro r S2 k2 h2 n2
      sizeOf_list_dec
      exact q _ _ (k1.trans k2) h2 (by
        rw [List.getElem?_eq_none_iff] at n2 ⊢
        have := k1.len; omega)
    | cmp op a a2 =>
      sizeOf_list_dec
      refine o_inF rfl ?_
      sizeOf_list_dec
      refine iff_t ?_
      sizeOf_list_dec
      refine has_ok (L := .cmp op a a2) hL ?_
      intro S1 k1
      sizeOf_list_dec
      refine alone_ok (L := .cmp op a a2) rfl ?_
      intro r S2 k2 h2 n2
      sizeOf_list_dec
      exact q _ _ (k1.trans k2) h2 (by
        rw [List.getElem?_eq_none_iff] at n2 ⊢
        have := k1.len; omega)
  | .un w' a, k + 1, S, Q, ho, hi, hk, q => by
    obtain ⟨hw, ha⟩ := ho
    refine w_body ?_
    unfold b_truths_of
    rw [show (Bn.un w' a).tree (fOf ls) = .tup [.str w', a.tree (fOf ls)] from rfl]
    sizeOf_list_dec
    refine o_inF (b := false) (by rcases hw with rfl | rfl <;> rfl) ?_
    sizeOf_list_dec
    refine iff_f ?_
    sizeOf_list_dec
    refine parts_un hw ?_
    sizeOf_list_dec
    refine k_cons trivial rfl ?_
    sizeOf_list_dec
    refine truths_ok hls a k _ _ ha hi (by simpa [Bn.ht] using hk) ?_
    intro r S1 k1 h1 n1
    have hS0 := k1 _ _ (lk_new (S := S) (o := O.lst []))
    refine ⟨[], hS0, by simp [sizeLine], ?_⟩
    refine k_nil trivial ?_
    have kk : Kp S (S1.set S.length (.lst ([] ++ [.ref r]))) := (Kp.refl.app.trans k1).set none_len
    have hne : r ≠ S.length := fun z => by subst z; rw [lk_new] at n1; cases n1
    have h2 : (S1.set S.length (.lst ([] ++ [.ref r])))[S.length]? = some (.lst [.ref r]) := lk_set hS0
    have h3 : (S1.set S.length (.lst ([] ++ [.ref r])))[r]? = some (.lst ((L3.filter (mayB (wOf ls w) a)).map tv)) := lk_ne hne h1
    have hFl : ((L3.filter (mayB (wOf ls w) a)).map tv).length ≤ 3 := by
      rw [List.length_map]; exact Nat.le_trans (List.length_filter_le _ _) (by simp [L3])
    have el : ∀ {F : List D}, F.length ≤ 3 → ([] : List D).length + F.length ≤ 1000000 := fun h => by simp; omega
    generalize S1.set S.length (.lst ([] ++ [.ref r])) = S2 at *
    have fin : ∀ v : Str, w' = v → Q = Q := fun _ _ => rfl
    rcases hw with rfl | rfl
    · sizeOf_list_dec
      refine iff_t ?_
      sizeOf_list_dec
      refine o_ixL h2 rfl ?_
      refine sq_lst h3 ?_
      refine comp_map (g := fun x => tv (levU "not" (unT x))) lk_new ⟨lk_app h3, fun m o e => by cases e; have := lt_of h3; omega⟩ ?_ (el hFl) ?_
      · intro x hx T Q' hQ'
        obtain ⟨l, hl, rfl⟩ := List.mem_map.mp hx
        have l2 := L3_le l hl
        simp only [unT_tv l2] at hQ'
        sizeOf_list_dec
        exact negated_ok l2 hQ'
      refine g_name ?_
      refine th_nx ?_
      refine last_ok (n := S2.length) (F := (L3.filter (mayB (wOf ls w) a)).map (levU "not")) (fun x hx => ?_) rfl rfl (by rw [lk_set lk_new, lsU]) (fun r3 S3 k3 h4 n3 => q r3 S3 ((kk.app.set (none_len2 kk.len)).trans k3) h4 ?_)
      · obtain ⟨y, hy, rfl⟩ := List.mem_map.mp hx; exact levU_le (L3_le y hy)
      · rw [List.getElem?_eq_none_iff] at n3 ⊢
        have := kk.len; simp at n3; omega
    · sizeOf_list_dec
      refine iff_f ?_
      sizeOf_list_dec
      refine iff_t ?_
      sizeOf_list_dec
      refine o_ixL h2 rfl ?_
      refine sq_lst h3 ?_
      refine comp_map (g := fun x => tv (levU "maybe" (unT x))) lk_new ⟨lk_app h3, fun m o e => by cases e; have := lt_of h3; omega⟩ ?_ (el hFl) ?_
      · intro x hx T Q' hQ'
        obtain ⟨l, hl, rfl⟩ := List.mem_map.mp hx
        have l2 := L3_le l hl
        simp only [unT_tv l2] at hQ'
        sizeOf_list_dec
        exact perhaps_ok l2 hQ'
      refine g_name ?_
      refine th_nx ?_
      refine last_ok (n := S2.length) (F := (L3.filter (mayB (wOf ls w) a)).map (levU "maybe")) (fun x hx => ?_) rfl rfl (by rw [lk_set lk_new, lsU]) (fun r3 S3 k3 h4 n3 => q r3 S3 ((kk.app.set (none_len2 kk.len)).trans k3) h4 ?_)
      · obtain ⟨y, hy, rfl⟩ := List.mem_map.mp hx; exact levU_le (L3_le y hy)
      · rw [List.getElem?_eq_none_iff] at n3 ⊢
        have := kk.len; simp at n3; omega
  | .bi w' a b, k + 1, S, Q, ho, hi, hk, q => by
    obtain ⟨hw, ha, hb⟩ := ho
    simp only [Bn.ht] at hk
    refine w_body ?_
    unfold b_truths_of
    rw [show (Bn.bi w' a b).tree (fOf ls) = .tup [.str w', a.tree (fOf ls), b.tree (fOf ls)] from rfl]
    sizeOf_list_dec
    refine o_inF (b := false) (by rcases hw with rfl | rfl <;> rfl) ?_
    sizeOf_list_dec
    refine iff_f ?_
    sizeOf_list_dec
    refine parts_bi hw ?_
    sizeOf_list_dec
    refine k_cons trivial rfl ?_
    sizeOf_list_dec
    refine truths_ok hls a k _ _ ha (fun i h => hi i (by simp [Bn.idx, h])) (by omega) ?_
    intro r S1 k1 h1 n1
    have hS0 := k1 _ _ (lk_new (S := S) (o := O.lst []))
    refine ⟨[], hS0, by simp [sizeLine], ?_⟩
    refine k_cons trivial rfl ?_
    have kk : Kp S (S1.set S.length (.lst ([] ++ [.ref r]))) := (Kp.refl.app.trans k1).set none_len
    have hne : r ≠ S.length := fun z => by subst z; rw [lk_new] at n1; cases n1
    have h2 : (S1.set S.length (.lst ([] ++ [.ref r])))[S.length]? = some (.lst [.ref r]) := lk_set hS0
    have h3 : (S1.set S.length (.lst ([] ++ [.ref r])))[r]? = some (.lst ((L3.filter (mayB (wOf ls w) a)).map tv)) := lk_ne hne h1
    generalize S1.set S.length (.lst ([] ++ [.ref r])) = S2 at *
    sizeOf_list_dec
    refine truths_ok hls b k _ _ hb (fun i h => hi i (by simp [Bn.idx, h])) (by omega) ?_
    intro r' S3 k3 h1' n3
    have hT0 := k3 _ _ h2
    refine ⟨[.ref r], hT0, by simp [sizeLine], ?_⟩
    refine k_nil trivial ?_
    have kk3 : Kp S (S3.set S.length (.lst ([.ref r] ++ [.ref r']))) := (kk.trans k3).set none_len
    have hne' : r' ≠ S.length := fun z => by subst z; rw [h2] at n3; cases n3
    have g2 : (S3.set S.length (.lst ([.ref r] ++ [.ref r'])))[S.length]? = some (.lst [.ref r, .ref r']) := lk_set hT0
    have g3 : (S3.set S.length (.lst ([.ref r] ++ [.ref r'])))[r]? = some (.lst ((L3.filter (mayB (wOf ls w) a)).map tv)) := lk_ne hne (k3 _ _ h3)
    have g4 : (S3.set S.length (.lst ([.ref r] ++ [.ref r'])))[r']? = some (.lst ((L3.filter (mayB (wOf ls w) b)).map tv)) := lk_ne hne' h1'
    generalize S3.set S.length (.lst ([.ref r] ++ [.ref r'])) = S4 at *
    clear hT0 h2 h3 hS0 h1 h1'
    have lA : ((L3.filter (mayB (wOf ls w) a)).map tv).length ≤ 3 := by
      rw [List.length_map]; exact Nat.le_trans (List.length_filter_le _ _) (by simp [L3])
    have lB : ((L3.filter (mayB (wOf ls w) b)).map tv).length ≤ 3 := by
      rw [List.length_map]; exact Nat.le_trans (List.length_filter_le _ _) (by simp [L3])
    have el : ([] : List D).length + ((L3.filter (mayB (wOf ls w) a)).map tv).length * ((L3.filter (mayB (wOf ls w) b)).map tv).length ≤ 1000000 := by
      have := Nat.mul_le_mul lA lB
      (simp only [List.length_nil]; omega)
    have la := lt_of g3
    have lb := lt_of g4
    have lc := lt_of g2
    rcases hw with rfl | rfl
    · sizeOf_list_dec
      refine iff_f ?_
      sizeOf_list_dec
      refine iff_f ?_
      sizeOf_list_dec
      refine iff_t ?_
      sizeOf_list_dec
      refine o_ixL g2 rfl ?_
      refine sq_lst g3 ?_
      refine comp2_map (m2 := r') (ys := (L3.filter (mayB (wOf ls w) b)).map tv) (g := fun x y => tv (levB "and" (unT x) (unT y))) lk_new (lk_app g3) (by omega) (lk_app g4) (by omega) ?_ ?_ el ?_
      · intro x hx T Q' hT hk hQ'
        have hs : T[S.length]? = some (.lst [.ref r, .ref r']) := by
          have := hk S.length _ (lk_ne (by omega) (lk_app g2))
          rw [List.getElem?_set_ne (by omega)] at this
          exact this
        sizeOf_list_dec
        refine o_ixL hs rfl ?_
        exact sq_lst hT hQ'
      · intro x hx y hy T Q' hQ'
        obtain ⟨l, hl, rfl⟩ := List.mem_map.mp hx
        obtain ⟨l', hl', rfl⟩ := List.mem_map.mp hy
        have l2 := L3_le l hl
        have l2' := L3_le l' hl'
        simp only [unT_tv l2, unT_tv l2'] at hQ'
        refine v_callG rfl rfl ?_
        sizeOf_list_dec
        exact both_ok l2 l2' hQ'
      refine g_name ?_
      refine th_nx ?_
      refine last_ok (n := S4.length) (F := (L3.filter (mayB (wOf ls w) a)).flatMap fun x => (L3.filter (mayB (wOf ls w) b)).map (levB "and" x)) (fun x hx => ?_) rfl rfl (by rw [lk_set lk_new, lsB]) (fun r3 S5 k5 h5 n5 => q r3 S5 ((kk3.app.set (none_len2 kk3.len)).trans k5) h5 ?_)
      · obtain ⟨y, hy, hx⟩ := List.mem_flatMap.mp hx
        obtain ⟨z, hz, rfl⟩ := List.mem_map.mp hx
        exact levB_le (L3_le y hy) (L3_le z hz)
      · rw [List.getElem?_eq_none_iff] at n5 ⊢
        have := kk3.len; simp at n5; omega
    · sizeOf_list_dec
      refine iff_f ?_
      sizeOf_list_dec
      refine iff_f ?_
      sizeOf_list_dec
      refine iff_f ?_
      sizeOf_list_dec
      refine o_ixL g2 rfl ?_
      refine sq_lst g3 ?_
      refine comp2_map (m2 := r') (ys := (L3.filter (mayB (wOf ls w) b)).map tv) (g := fun x y => tv (levB "or" (unT x) (unT y))) lk_new (lk_app g3) (by omega) (lk_app g4) (by omega) ?_ ?_ el ?_
      · intro x hx T Q' hT hk hQ'
        have hs : T[S.length]? = some (.lst [.ref r, .ref r']) := by
          have := hk S.length _ (lk_ne (by omega) (lk_app g2))
          rw [List.getElem?_set_ne (by omega)] at this
          exact this
        sizeOf_list_dec
        refine o_ixL hs rfl ?_
        exact sq_lst hT hQ'
      · intro x hx y hy T Q' hQ'
        obtain ⟨l, hl, rfl⟩ := List.mem_map.mp hx
        obtain ⟨l', hl', rfl⟩ := List.mem_map.mp hy
        have l2 := L3_le l hl
        have l2' := L3_le l' hl'
        simp only [unT_tv l2, unT_tv l2'] at hQ'
        refine v_callG rfl rfl ?_
        sizeOf_list_dec
        exact either_ok l2 l2' hQ'
      refine g_name ?_
      refine th_nx ?_
      refine last_ok (n := S4.length) (F := (L3.filter (mayB (wOf ls w) a)).flatMap fun x => (L3.filter (mayB (wOf ls w) b)).map (levB "or" x)) (fun x hx => ?_) rfl rfl (by rw [lk_set lk_new, lsB]) (fun r3 S5 k5 h5 n5 => q r3 S5 ((kk3.app.set (none_len2 kk3.len)).trans k5) h5 ?_)
      · obtain ⟨y, hy, hx⟩ := List.mem_flatMap.mp hx
        obtain ⟨z, hz, rfl⟩ := List.mem_map.mp hx
        exact levB_le (L3_le y hy) (L3_le z hz)
      · rw [List.getElem?_eq_none_iff] at n5 ⊢
        have := kk3.len; simp at n5; omega
  | .un w' a, 0, S, Q, ho, hi, hk, q => by simp [Bn.ht] at hk
  | .bi w' a b, 0, S, Q, ho, hi, hk, q => by simp [Bn.ht] at hk
end
section
/-- a list told by a map that reads the store -/
theorem comp_mapT {ck : Option (Nat × O)} {i n : Nat} {e : EvM} {γ : Sl} {S : Sto} {g : D → D} {acc xs : List D} {Q : Sto → Prop} (hn : S[n]? = some (.lst acc)) (hck : Chk ck S ∧ ∀ m o, ck = some (m, o) → m ≠ n)
    (he : ∀ x ∈ xs, ∀ (acc' : List D) (Q' : D → Sto → Prop), Q' (g x) (S.set n (.lst acc')) → wE e (γ.set i (some x)) (S.set n (.lst acc')) Q') (hl : acc.length + xs.length ≤ 1000000) (q : Q (S.set n (.lst (acc ++ xs.map g)))) : wK ck (.one i) yesC e γ n xs S Q := by
  have hc : ∀ acc', Chk ck (S.set n (.lst acc')) := fun acc' => by
    obtain ⟨h1, h2⟩ := hck
    cases ck with
    | none => trivial
    | some c => obtain ⟨m, o⟩ := c; exact lk_ne (h2 m o rfl) h1
  refine k_inv (fun rest T => ∃ acc', T = S.set n (.lst acc') ∧ acc' ++ rest.map g = acc ++ xs.map g ∧ (∀ x ∈ rest, x ∈ xs) ∧ acc'.length + rest.length ≤ 1000000) ?_ ?_ _ _ ?_
  · rintro x rest T ⟨acc', rfl, h1, h2, h3⟩
    refine ⟨hc acc', _, rfl, ?_⟩
    sizeOf_list_dec
    refine iff_t ?_
    refine he x (h2 x (by simp)) _ _ ?_
    refine ⟨acc', lk_set hn, by simp only [sizeLine]; simp at h3; omega, acc' ++ [g x], by rw [List.set_set], by rw [← h1]; simp, fun y hy => h2 y (by simp [hy]), by simp at h3 ⊢; omega⟩
  · rintro T ⟨acc', rfl, h1, _, _⟩
    refine ⟨hc acc', ?_⟩
    rw [← h1] at q
    simpa using q
  · refine ⟨acc, ?_, rfl, fun _ h => h, hl⟩
    obtain ⟨hl, e⟩ := List.getElem?_eq_some_iff.mp hn
    rw [← e, List.set_getElem_self]
namespace Bn
theorem lev_un (f : Nat → Nat) (w : Str) (a : Bn) : (un w a).lev f = levU w (a.lev f) := rfl
theorem lev_bi (f : Nat → Nat) (w : Str) (a b : Bn) : (bi w a b).lev f = levB w (a.lev f) (b.lev f) := rfl
theorem lev_le2 {f : Nat → Nat} : ∀ b : Bn, (∀ i ∈ b.idx, f i ≤ 2) → b.lev f ≤ 2
  | lf i, h => h i (by simp [idx])
  | un w a, h => by rw [lev_un]; exact levU_le (lev_le2 a h)
  | bi w a b, h => by rw [lev_bi]; exact levB_le (lev_le2 a fun i hi => h i (by simp [idx, hi])) (lev_le2 b fun i hi => h i (by simp [idx, hi]))
end Bn
theorem mem_L3 {x : Nat} (h : x ≤ 2) : x ∈ L3 := by rcases lt3 h with rfl | rfl | rfl <;> simp [L3]
theorem may_iff {W : Nat → List Nat} (hW : ∀ i, ∀ x ∈ W i, x ≤ 2) : ∀ (b : Bn) (l : Nat), b.idx.Nodup → (mayB W b l = true ↔ ∃ f : Nat → Nat, (∀ i ∈ b.idx, f i ∈ W i) ∧ b.lev f = l)
  | .lf i, l, _ => by
    simp only [mayB, List.contains_iff_mem]
    constructor
    · intro h; exact ⟨fun _ => l, fun j hj => by simp [Bn.idx] at hj; subst hj; exact h, rfl⟩
    · rintro ⟨f, h, rfl⟩; exact h i (by simp [Bn.idx])
  | .un w a, l, hn => by
    simp only [mayB, List.contains_iff_mem, List.mem_map, List.mem_filter]
    constructor
    · rintro ⟨x, ⟨_, hx⟩, rfl⟩
      obtain ⟨f, h, rfl⟩ := (may_iff hW a x hn).mp hx
      exact ⟨f, h, rfl⟩
    · rintro ⟨f, h, rfl⟩
      exact ⟨a.lev f, ⟨mem_L3 (Bn.lev_le2 a fun i hi => hW i _ (h i hi)), (may_iff hW a _ hn).mpr ⟨f, h, rfl⟩⟩, rfl⟩
  | .bi w a b, l, hn => by
    simp only [Bn.idx, List.nodup_append] at hn
    obtain ⟨na, nb, nd⟩ := hn
    simp only [mayB, List.contains_iff_mem, List.mem_flatMap, List.mem_map, List.mem_filter]
    constructor
    · rintro ⟨x, ⟨_, hx⟩, y, ⟨_, hy⟩, rfl⟩
      obtain ⟨f, h, rfl⟩ := (may_iff hW a x na).mp hx
      obtain ⟨g, h', rfl⟩ := (may_iff hW b y nb).mp hy
      refine ⟨fun i => if i ∈ a.idx then f i else g i, fun i hi => ?_, ?_⟩
      · by_cases ha : i ∈ a.idx
        · simp only [ha, if_true]; exact h i ha
        · simp only [ha, if_false]
          rcases List.mem_append.mp hi with z | z
          · exact (ha z).elim
          · exact h' i z
      · rw [Bn.lev_bi]
        rw [Bn.lev_congr (g := f) a fun i hi => by simp [hi], Bn.lev_congr (g := g) b fun i hi => by
          have : i ∉ a.idx := fun z => nd i z i hi rfl
          simp [this]]
    · rintro ⟨f, h, rfl⟩
      have ha : ∀ i ∈ a.idx, f i ∈ W i := fun i hi => h i (by simp [Bn.idx, hi])
      have hb : ∀ i ∈ b.idx, f i ∈ W i := fun i hi => h i (by simp [Bn.idx, hi])
      exact ⟨a.lev f, ⟨mem_L3 (Bn.lev_le2 a fun i hi => hW i _ (ha i hi)), (may_iff hW a _ na).mpr ⟨f, ha, rfl⟩⟩, b.lev f, ⟨mem_L3 (Bn.lev_le2 b fun i hi => hW i _ (hb i hi)), (may_iff hW b _ nb).mpr ⟨f, hb, rfl⟩⟩, rfl⟩
theorem pick_of {w : Nat} : ∀ (ls : List Lf) (g : Nat → Nat), (∀ i L, ls[i]? = some L → g i ∈ wayOf w L) → Pick (ls.map (wayOf w)) ((List.range ls.length).map g)
  | [], g, _ => .nil
  | L :: ls, g, h => by
    rw [List.length_cons, List.range_succ_eq_map, List.map_cons, List.map_cons, List.map_map]
    exact .cons (h 0 L rfl) (pick_of ls (g ∘ Nat.succ) fun i M e => h (i + 1) M (by simpa using e))
theorem pick_at {w : Nat} : ∀ {ls : List Lf} {vs : List Nat}, Pick (ls.map (wayOf w)) vs → ∀ i L, ls[i]? = some L → atN vs i ∈ wayOf w L
  | [], _, _, i, L, e => by simp at e
  | M :: ls, _, .cons h r, 0, L, e => by cases e; exact h
  | M :: ls, _, .cons h r, i + 1, L, e => pick_at r i L (by simpa using e)
theorem seen_may {b : Bn} {ls : List Lf} {w : Nat} (hi : b.idx = List.range ls.length) (l : Nat) : seenB b (ls.map (wayOf w)) (prod (ls.map (wayOf w))) l = mayB (wOf ls w) b l := by
  have g : goodW (ls.map (wayOf w)) := fun v hv => by
    obtain ⟨L, _, rfl⟩ := List.mem_map.mp hv
    exact way_ok w L
  have hW : ∀ i, ∀ x ∈ wOf ls w i, x ≤ 2 := fun i x hx => by
    unfold wOf at hx
    split at hx
    · exact (way_ok w _).2.2 x hx
    · simp at hx
  rw [Bool.eq_iff_iff, seen_all g, may_iff hW b l (by rw [hi]; exact List.nodup_range)]
  constructor
  · rintro ⟨vs, hp, e⟩
    refine ⟨atN vs, fun i h => ?_, e⟩
    rw [hi, List.mem_range] at h
    have e0 : ls[i]? = some ls[i] := List.getElem?_eq_getElem h
    simp only [wOf, e0]
    exact pick_at hp i _ e0
  · rintro ⟨f, h, e⟩
    refine ⟨(List.range ls.length).map f, pick_of ls f fun i L e0 => ?_, ?_⟩
    · have := h i (by rw [hi, List.mem_range]; exact lt_of e0)
      simpa only [wOf, e0] using this
    · rw [← e]
      refine Bn.lev_congr b fun i h => ?_
      rw [hi, List.mem_range] at h
      simp [atN, h]
variable {k : Nat} {S : Sto} {Q : D → Sto → Prop}
theorem possible_ok {ls : List Lf} {w : Nat} (hls : ∀ L ∈ ls, L.ok) {b : Bn} (ho : b.ok) (hi : ∀ i ∈ b.idx, i < ls.length) (hk : b.ht ≤ k) (q : ∀ S', Kp S S' → Q (.tup (L3.map fun l => .bl (mayB (wOf ls w) b l))) S') : w1 (den (k + 7) .possible) [b.tree (fOf ls), .int w] S Q := by
  refine w_body ?_
  unfold b_possible
  sizeOf_list_dec
  refine truths_ok hls b k _ _ ho hi hk ?_
  intro r S1 k1 h1 n1
  sizeOf_list_dec
  refine comp_mapT (xs := L3.map tv) (g := fun x => .bl (mayB (wOf ls w) b (unT x))) lk_new ⟨trivial, fun m o e => by cases e⟩ ?_ (by simp [L3]) ?_
  · intro x hx acc' Q' hQ'
    obtain ⟨l, hl, rfl⟩ := List.mem_map.mp hx
    have l2 : l ≤ 2 := by simp [L3] at hl; omega
    simp only [unT_tv l2] at hQ'
    have lr := lt_of h1
    sizeOf_list_dec
    refine o_inT (lk_ne (by omega) (lk_app h1)) L3_le l2 ?_
    have : (L3.filter (mayB (wOf ls w) b)).contains l = mayB (wOf ls w) b l := by
      rw [Bool.eq_iff_iff, List.contains_iff_mem, List.mem_filter]
      exact ⟨fun h => h.2, fun h => ⟨hl, h⟩⟩
    rw [this]
    exact hQ'
  sizeOf_list_dec
  refine q _ ?_
  exact (k1.app.set (none_len2 k1.len))
end
section
set_option maxHeartbeats 1000000 -- wide
/-! ### values -/
structure Cv (C : Nat → Nat → D) : Prop where
  num : ∀ u c, c < 2 → C u c = .non ∨ ∃ z, C u c = .int z ∧ -999999999 ≤ z ∧ z ≤ 999999999
  txt : ∀ u, C u 2 = .non ∨ ∃ s, C u 2 = .str s
structure Ce (S : Sto) (m : Nat) (C : Nat → Nat → D) : Prop where
  ex : ∃ lk kvs, S[m]? = some (.dn lk kvs) ∧ ∀ u c : Nat, u < 4 → c < 3 → ∃ kk, keyN [nN u, nN c] = some kk ∧ lookN kvs kk = some (C u c)
def opV (w : Str) (i j : Int) : Int := if w = "add" then i + j else if w = "sub" then i - j else i * j
def vT (C : Nat → Nat → D) : Tm → D
  | .num z => .int z | .text s => .str s | .col u c => C u c
  | .neg a => match vT C a with | .int i => .int (-i) | _ => .non
  | .bin w a b => match vT C a, vT C b with | .int i, .int j => .int (opV w i j) | _, _ => .non
variable {C : Nat → Nat → D}
theorem vT_N (h : Cv C) : ∀ {t : Tm}, t.okN → vT C t = .non ∨ ∃ z, vT C t = .int z
  | .num z, _ => .inr ⟨z, rfl⟩
  | .col u c, hn => by
    rcases h.num u c hn.2 with e | ⟨z, e, _⟩
    · exact .inl e
    · exact .inr ⟨z, e⟩
  | .neg a, hn => by
    rcases vT_N h (t := a) hn with e | ⟨z, e⟩
    · exact .inl (by simp only [vT, e])
    · exact .inr ⟨-z, by simp only [vT, e]⟩
  | .bin w a b, hn => by
    rcases vT_N h (t := a) hn.1 with e | ⟨z, e⟩
    · exact .inl (by simp only [vT, e])
    · rcases vT_N h (t := b) hn.2.1 with e' | ⟨z', e'⟩
      · exact .inl (by simp only [vT, e, e'])
      · exact .inr ⟨opV w z z', by simp only [vT, e, e']⟩
theorem vT_P (h : Cv C) : ∀ {t : Tm}, t.part → vT C t = .non ∨ ∃ z, vT C t = .int z ∧ -999999999 ≤ z ∧ z ≤ 999999999
  | .num z, hn => .inr ⟨z, rfl, by have := hn.1; omega, hn.2⟩
  | .col u c, hn => h.num u c hn.2
theorem vT_T (h : Cv C) : ∀ {t : Tm}, t.okT → vT C t = .non ∨ ∃ z, vT C t = .str z
  | .text s, _ => .inr ⟨s, rfl⟩
  | .col u c, hn => by have := hn.2; subst this; exact h.txt u
variable {S : Sto} {m : Nat}
theorem cell_ok {lk kvs} {u c : Nat} {Q : D → Sto → Prop} (hm : S[m]? = some (.dn lk kvs)) (h : ∃ kk, keyN [nN u, nN c] = some kk ∧ lookN kvs kk = some (C u c)) (q : Q (C u c) S) : w2 getF (.ref m) (.tup [.int u, .int c]) S Q := by
  obtain ⟨kk, h1, h2⟩ := h
  exact o_get hm h1 h2 q
theorem valueN_ok (hC : Cv C) (hm : Ce S m C) : ∀ (t : Tm) (k : Nat) (Q : D → Sto → Prop), t.okN → t.ht ≤ k → Q (vT C t) S → w1 (den (k + 1) ._law_value) [t.d, .ref m] S Q
  | .num z, k, Q, ho, hk, q => by
    refine w_body ?_
    unfold b__law_value
    sizeOf_list_dec
    refine iff_t ?_
    sizeOf_list_dec
    refine iff_t ?_
    sizeOf_list_dec
    exact q
  | .col u c, k, Q, ho, hk, q => by
    obtain ⟨lk, kvs, h1, h2⟩ := hm
    refine w_body ?_
    unfold b__law_value
    sizeOf_list_dec
    refine iff_f ?_
    sizeOf_list_dec
    refine iff_f ?_
    sizeOf_list_dec
    refine iff_t ?_
    sizeOf_list_dec
    exact cell_ok h1 (h2 u c ho.1 (by have := ho.2; omega)) (th_rt (re_rt q))
  | .neg a, k + 1, Q, ho, hk, q => by
    have ha : a.ht ≤ k := by simpa [Tm.ht] using hk
    refine w_body ?_
    unfold b__law_value
    sizeOf_list_dec
    refine iff_f ?_
    sizeOf_list_dec
    refine iff_f ?_
    sizeOf_list_dec
    refine iff_f ?_
    sizeOf_list_dec
    refine valueN_ok hC hm a k _ ho ha ?_
    sizeOf_list_dec
    refine iff_t ?_
    rcases vT_N hC (t := a) ho with e | ⟨z, e⟩
    · have e2 : vT C (.neg a) = .non := by simp only [vT, e]
      rw [e2] at q
      rw [e]
      sizeOf_list_dec
      refine iff_t ?_
      sizeOf_list_dec
      refine iff_t ?_
      sizeOf_list_dec
      exact q
    · have e2 : vT C (.neg a) = .int (-z) := by simp only [vT, e]
      rw [e2] at q
      rw [e]
      sizeOf_list_dec
      refine iff_f ?_
      sizeOf_list_dec
      refine iff_f ?_
      sizeOf_list_dec
      refine iff_t ?_
      sizeOf_list_dec
      refine iff_t ?_
      sizeOf_list_dec
      refine iff_f ?_
      sizeOf_list_dec
      rw [show (0 : Int) - z = -z by omega]
      exact q
  | .bin w a b, k + 1, Q, ho, hk, q => by
    obtain ⟨ha, hb, hw⟩ := ho
    simp only [Tm.ht] at hk
    have hka : a.ht ≤ k := by omega
    have hkb : b.ht ≤ k := by omega
    refine w_body ?_
    unfold b__law_value
    rcases hw with rfl | rfl | ⟨rfl, hp⟩
    · sizeOf_list_dec
      refine iff_f ?_
      sizeOf_list_dec
      refine iff_f ?_
      sizeOf_list_dec
      refine iff_f ?_
      sizeOf_list_dec
      refine valueN_ok hC hm a k _ ha hka ?_
      sizeOf_list_dec
      refine iff_f ?_
      sizeOf_list_dec
      refine valueN_ok hC hm b k _ hb hkb ?_
      rcases vT_N hC ha with e | ⟨z, e⟩
      · have e2 : vT C (.bin "add" a b) = .non := by simp only [vT, e]
        rw [e2] at q
        rw [e]
        sizeOf_list_dec
        refine iff_t ?_
        sizeOf_list_dec
        refine iff_t ?_
        sizeOf_list_dec
        exact q
      · rcases vT_N hC hb with e' | ⟨z', e'⟩
        · have e2 : vT C (.bin "add" a b) = .non := by simp only [vT, e, e']
          rw [e2] at q
          rw [e, e']
          sizeOf_list_dec
          refine iff_f ?_
          sizeOf_list_dec
          refine iff_t ?_
          sizeOf_list_dec
          exact q
        · have e2 : vT C (.bin "add" a b) = .int (opV "add" z z') := by simp only [vT, e, e']
          rw [e2] at q
          rw [e, e']
          sizeOf_list_dec
          refine iff_f ?_
          sizeOf_list_dec
          refine iff_f ?_
          sizeOf_list_dec
          refine iff_f ?_
          sizeOf_list_dec
          refine iff_f ?_
          sizeOf_list_dec
          refine iff_t ?_
          sizeOf_list_dec
          exact q
    · sizeOf_list_dec
      refine iff_f ?_
      sizeOf_list_dec
      refine iff_f ?_
      sizeOf_list_dec
      refine iff_f ?_
      sizeOf_list_dec
      refine valueN_ok hC hm a k _ ha hka ?_
      sizeOf_list_dec
      refine iff_f ?_
      sizeOf_list_dec
      refine valueN_ok hC hm b k _ hb hkb ?_
      rcases vT_N hC ha with e | ⟨z, e⟩
      · have e2 : vT C (.bin "sub" a b) = .non := by simp only [vT, e]
        rw [e2] at q
        rw [e]
        sizeOf_list_dec
        refine iff_t ?_
        sizeOf_list_dec
        refine iff_t ?_
        sizeOf_list_dec
        exact q
      · rcases vT_N hC hb with e' | ⟨z', e'⟩
        · have e2 : vT C (.bin "sub" a b) = .non := by simp only [vT, e, e']
          rw [e2] at q
          rw [e, e']
          sizeOf_list_dec
          refine iff_f ?_
          sizeOf_list_dec
          refine iff_t ?_
          sizeOf_list_dec
          exact q
        · have e2 : vT C (.bin "sub" a b) = .int (opV "sub" z z') := by simp only [vT, e, e']
          rw [e2] at q
          rw [e, e']
          sizeOf_list_dec
          refine iff_f ?_
          sizeOf_list_dec
          refine iff_f ?_
          sizeOf_list_dec
          refine iff_f ?_
          sizeOf_list_dec
          refine iff_t ?_
          sizeOf_list_dec
          refine iff_t ?_
          sizeOf_list_dec
          exact q
    · sizeOf_list_dec
      refine iff_f ?_
      sizeOf_list_dec
      refine iff_f ?_
      sizeOf_list_dec
      refine iff_f ?_
      sizeOf_list_dec
      refine valueN_ok hC hm a k _ ha hka ?_
      sizeOf_list_dec
      refine iff_f ?_
      sizeOf_list_dec
      refine valueN_ok hC hm b k _ hb hkb ?_
      rcases vT_N hC ha with e | ⟨z, e⟩
      · have e2 : vT C (.bin "mul" a b) = .non := by simp only [vT, e]
        rw [e2] at q
        rw [e]
        sizeOf_list_dec
        refine iff_t ?_
        sizeOf_list_dec
        refine iff_t ?_
        sizeOf_list_dec
        exact q
      · rcases vT_N hC hb with e' | ⟨z', e'⟩
        · have e2 : vT C (.bin "mul" a b) = .non := by simp only [vT, e, e']
          rw [e2] at q
          rw [e, e']
          sizeOf_list_dec
          refine iff_f ?_
          sizeOf_list_dec
          refine iff_t ?_
          sizeOf_list_dec
          exact q
        · have e2 : vT C (.bin "mul" a b) = .int (opV "mul" z z') := by simp only [vT, e, e']
          rw [e2] at q
          rw [e, e']
          sizeOf_list_dec
          refine iff_f ?_
          sizeOf_list_dec
          refine iff_f ?_
          sizeOf_list_dec
          refine iff_f ?_
          sizeOf_list_dec
          refine iff_f ?_
          sizeOf_list_dec
          refine iff_f ?_
          sizeOf_list_dec
          have hz : -999999999 ≤ z' ∧ z' ≤ 999999999 := by
            rcases vT_P hC hp with e3 | ⟨z3, e3, h3⟩
            · rw [e3] at e'; cases e'
            · rw [e3] at e'; cases e'; exact h3
          refine o_mul (mul_r ⟨by omega, by omega⟩) ?_
          sizeOf_list_dec
          exact q
  | .neg a, 0, Q, ho, hk, q => by simp [Tm.ht] at hk
  | .bin w a b, 0, Q, ho, hk, q => by simp [Tm.ht] at hk
theorem valueT_ok (hC : Cv C) (hm : Ce S m C) : ∀ (t : Tm) (k : Nat) (Q : D → Sto → Prop), t.okT → Q (vT C t) S → w1 (den (k + 1) ._law_value) [t.d, .ref m] S Q
  | .text z, k, Q, ho, q => by
    refine w_body ?_
    unfold b__law_value
    sizeOf_list_dec
    refine iff_f ?_
    sizeOf_list_dec
    refine iff_t ?_
    sizeOf_list_dec
    exact q
  | .col u c, k, Q, ho, q => by
    obtain ⟨lk, kvs, h1, h2⟩ := hm
    refine w_body ?_
    unfold b__law_value
    sizeOf_list_dec
    refine iff_f ?_
    sizeOf_list_dec
    refine iff_f ?_
    sizeOf_list_dec
    refine iff_t ?_
    sizeOf_list_dec
    exact cell_ok h1 (h2 u c ho.1 (by have := ho.2; omega)) (th_rt (re_rt q))
theorem value_ok {tx : Bool} {t : Tm} {k : Nat} {Q : D → Sto → Prop} (hC : Cv C) (hm : Ce S m C) (ho : okB tx t) (hk : t.ht ≤ k) (q : Q (vT C t) S) : w1 (den (k + 1) ._law_value) [t.d, .ref m] S Q := by
  cases tx
  · exact valueN_ok hC hm t k Q ho hk q
  · exact valueT_ok hC hm t k Q ho q
end
section
set_option maxHeartbeats 1000000 -- wide
/-! ### the level of a leaf -/
def cmpB (op : Str) : D → D → Bool
  | .int i, .int j => if op = "=" then i == j else if op = "<>" then !(i == j) else if op = "<" then decide (i < j) else if op = "<=" then !decide (j < i) else if op = ">" then decide (j < i) else !decide (i < j)
  | .str i, .str j => if op = "=" then i == j else if op = "<>" then !(i == j) else if op = "<" then ltS i j else if op = "<=" then !ltS j i else if op = ">" then ltS j i else !ltS i j
  | _, _ => false
def levL (C : Nat → Nat → D) : Lf → Nat
  | .null a => if isN (vT C a) = true then 2 else 0
  | .cmp op a b => if isN (vT C a) = true then 1 else if isN (vT C b) = true then 1 else if cmpB op (vT C a) (vT C b) = true then 2 else 0
/-- two values of one kind -/
inductive Two : D → D → Prop
  | na {y} : Two .non y
  | nb {x} (h : isN x = false) : Two x .non
  | ii {i j : Int} : Two (.int i) (.int j)
  | ss {i j : Str} : Two (.str i) (.str j)
variable {C : Nat → Nat → D} {S : Sto} {m k : Nat} {Q : D → Sto → Prop}
theorem two_of (hC : Cv C) {tx : Bool} {a b : Tm} (ha : okB tx a) (hb : okB tx b) : Two (vT C a) (vT C b) := by
  cases tx
  · rcases vT_N hC ha with e | ⟨i, e⟩
    · rw [e]; exact .na
    · rcases vT_N hC hb with e' | ⟨j, e'⟩
      · rw [e, e']; exact .nb rfl
      · rw [e, e']; exact .ii
  · rcases vT_T hC ha with e | ⟨i, e⟩
    · rw [e]; exact .na
    · rcases vT_T hC hb with e' | ⟨j, e'⟩
      · rw [e, e']; exact .nb rfl
      · rw [e, e']; exact .ss
structure wPs (l : List (Str × EvM)) (γ : Sl) (S : Sto) (Q : List (Key × D) → Sto → Prop) : Prop where
  ex : ∃ ps S', pairsM l γ S = some (ps, S') ∧ Q ps S'
theorem ps_nil {γ : Sl} {Q : List (Key × D) → Sto → Prop} (q : Q [] S) : wPs [] γ S Q := ⟨_, _, rfl, q⟩
theorem ps_cons {γ : Sl} {z : Str} {e : EvM} {r : List (Str × EvM)} {Q : List (Key × D) → Sto → Prop} (h : wE e γ S fun d S1 => wPs r γ S1 fun ps S2 => Q ((.inr z, d) :: ps) S2) : wPs ((z, e) :: r) γ S Q := by
  obtain ⟨d, S1, e1, ps, S2, e2, q⟩ := h
  exact ⟨_, _, by unfold pairsM; simp only [e1, e2], q⟩
theorem v_disp {l : List (Str × EvM)} {γ : Sl} (h : wPs l γ (S ++ [.dk []]) fun ps S1 => S1[S.length]? = some (.dk []) ∧ ps.length ≤ 15 ∧ Q (.ref S.length) (S1.set S.length (.dk (mergeKD [] ps)))) : wE (dispM l) γ S Q := by
  obtain ⟨ps, S1, e1, e2, e3, q⟩ := h
  exact ⟨_, _, by unfold dispM; simp only [e1, e2, if_pos e3], q⟩
theorem o_getL {n : Nat} {kvs : List (Key × D)} {y d : D} {kk : Key} (hn : (S[n]?).bind dkAt = some kvs) (hk : keyD y = some kk) (hv : valD kvs kk = some d) (q : Q d S) : w2 getL (.ref n) y S Q := ⟨_, _, by unfold getL; simp only [hn, hk, hv], q⟩
theorem o_ord {gi : Int → Int → Bool} {gs : Str → Str → Bool} {i j : Int} (q : Q (.bl (gi i j)) S) : w2 (ordF gi gs) (.int i) (.int j) S Q := ⟨_, _, rfl, q⟩
theorem o_ordS {gi : Int → Int → Bool} {gs : Str → Str → Bool} {i j : Str} (q : Q (.bl (gs i j)) S) : w2 (ordF gi gs) (.str i) (.str j) S Q := ⟨_, _, rfl, q⟩
theorem o_neI {i j : Int} (q : Q (.bl (!(i == j))) S) : w2 neF (.int i) (.int j) S Q := ⟨_, _, rfl, q⟩
theorem o_ltS {i j : Str} (q : Q (.bl (ltS i j)) S) : w2 ltF (.str i) (.str j) S Q := ⟨_, _, rfl, q⟩
theorem o_gtS {i j : Str} (q : Q (.bl (ltS j i)) S) : w2 gtF (.str i) (.str j) S Q := ⟨_, _, rfl, q⟩
theorem o_leS {i j : Str} (q : Q (.bl (!ltS j i)) S) : w2 leF (.str i) (.str j) S Q := ⟨_, _, rfl, q⟩
theorem o_geS {i j : Str} (q : Q (.bl (!ltS i j)) S) : w2 geF (.str i) (.str j) S Q := ⟨_, _, rfl, q⟩
/-- the six tests at once -/
def six (x y : D) : List (Key × D) := [(.inr "=", .bl (cmpB "=" x y)), (.inr "<>", .bl (cmpB "<>" x y)), (.inr "<", .bl (cmpB "<" x y)), (.inr ">", .bl (cmpB ">" x y)), (.inr "<=", .bl (cmpB "<=" x y)), (.inr ">=", .bl (cmpB ">=" x y))]
theorem six_at {op : Str} (h : op ∈ ops) (x y : D) : valD (mergeKD [] (six x y)) (.inr op) = some (.bl (cmpB op x y)) := by
  simp [ops] at h
  rcases h with rfl | rfl | rfl | rfl | rfl | rfl <;> rfl
theorem leaf_level_ok (hC : Cv C) (hm : Ce S m C) {L : Lf} (hL : L.ok) (q : ∀ S', Kp S S' → Q (natD (levL C L)) S') : w1 (den (k + 5) ._law_leaf_level) [L.d, .ref m] S Q := by
  refine w_body ?_
  unfold b__law_leaf_level
  cases L with
  | null a =>
    obtain ⟨⟨tx, ha⟩, hh⟩ := hL
    have q := q S Kp.refl
    sizeOf_list_dec
    refine iff_t ?_
    sizeOf_list_dec
    refine value_ok hC hm ha (by omega) ?_
    sizeOf_list_dec
    refine o_mul (mul_l ⟨by decide, by decide⟩) ?_
    sizeOf_list_dec
    simp only [levL] at q
    cases hb : isN (vT C a) with
    | true => rw [hb, if_pos rfl] at q; exact q
    | false => rw [hb, if_neg (by decide)] at q; exact q
  | cmp op a b =>
    obtain ⟨hop, ⟨tx, ha, hb⟩, h1, h2⟩ := hL
    sizeOf_list_dec
    refine iff_f ?_
    sizeOf_list_dec
    refine value_ok hC hm ha (by omega) ?_
    sizeOf_list_dec
    refine value_ok hC hm hb (by omega) ?_
    have ht := two_of hC ha hb
    have el : levL C (.cmp op a b) = if isN (vT C a) = true then 1 else if isN (vT C b) = true then 1 else if cmpB op (vT C a) (vT C b) = true then 2 else 0 := rfl
    rw [el] at q
    generalize vT C a = x at *
    generalize vT C b = y at *
    cases ht with
    | na =>
      sizeOf_list_dec
      refine iff_t ?_
      sizeOf_list_dec
      refine iff_t ?_
      sizeOf_list_dec
      exact q S Kp.refl
    | nb h =>
      sizeOf_list_dec
      rw [h]
      refine iff_f ?_
      sizeOf_list_dec
      refine iff_t ?_
      sizeOf_list_dec
      have := q S Kp.refl
      rw [h] at this
      exact this
    | ii =>
      rename_i i j
      sizeOf_list_dec
      refine iff_f ?_
      sizeOf_list_dec
      refine iff_f ?_
      sizeOf_list_dec
      refine v_disp ?_
      refine ps_cons ?_
      sizeOf_list_dec
      refine ps_cons ?_
      sizeOf_list_dec
      refine o_neI ?_
      sizeOf_list_dec
      refine ps_cons ?_
      sizeOf_list_dec
      refine ps_cons ?_
      sizeOf_list_dec
      refine ps_cons ?_
      sizeOf_list_dec
      refine ps_cons ?_
      sizeOf_list_dec
      refine ps_nil ?_
      have hn : (((S ++ [O.dk []]).set S.length (.dk (mergeKD [] (six (.int i) (.int j)))))[S.length]?).bind dkAt = some (mergeKD [] (six (.int i) (.int j))) := by rw [lk_set lk_new]; rfl
      have kk : Kp S ((S ++ [O.dk []]).set S.length (.dk (mergeKD [] (six (.int i) (.int j))))) := Kp.refl.app.set none_len
      have q := q _ kk
      refine ⟨lk_new, by simp, ?_⟩
      sizeOf_list_dec
      refine o_getL hn rfl (six_at hop _ _) ?_
      sizeOf_list_dec
      refine o_mul (mul_l ⟨by decide, by decide⟩) ?_
      sizeOf_list_dec
      cases hc : cmpB op (.int i) (.int j) with
      | true => rw [hc] at q; exact q
      | false => rw [hc] at q; exact q
    | ss =>
      rename_i i j
      sizeOf_list_dec
      refine iff_f ?_
      sizeOf_list_dec
      refine iff_f ?_
      sizeOf_list_dec
      refine v_disp ?_
      refine ps_cons ?_
      sizeOf_list_dec
      refine ps_cons ?_
      sizeOf_list_dec
      refine ps_cons ?_
      sizeOf_list_dec
      refine o_ltS ?_
      sizeOf_list_dec
      refine ps_cons ?_
      sizeOf_list_dec
      refine o_gtS ?_
      sizeOf_list_dec
      refine ps_cons ?_
      sizeOf_list_dec
      refine o_gtS ?_
      sizeOf_list_dec
      refine ps_cons ?_
      sizeOf_list_dec
      refine o_ltS ?_
      sizeOf_list_dec
      refine ps_nil ?_
      have hn : (((S ++ [O.dk []]).set S.length (.dk (mergeKD [] (six (.str i) (.str j)))))[S.length]?).bind dkAt = some (mergeKD [] (six (.str i) (.str j))) := by rw [lk_set lk_new]; rfl
      have kk : Kp S ((S ++ [O.dk []]).set S.length (.dk (mergeKD [] (six (.str i) (.str j))))) := Kp.refl.app.set none_len
      have q := q _ kk
      refine ⟨lk_new, by simp, ?_⟩
      sizeOf_list_dec
      refine o_getL hn rfl (six_at hop _ _) ?_
      sizeOf_list_dec
      refine o_mul (mul_l ⟨by decide, by decide⟩) ?_
      sizeOf_list_dec
      cases hc : cmpB op (.str i) (.str j) with
      | true => rw [hc] at q; exact q
      | false => rw [hc] at q; exact q
theorem le_dec (i j : Int) : decide (i ≤ j) = !decide (j < i) := by
  by_cases h : i ≤ j
  · rw [decide_eq_true h, decide_eq_false (by omega)]; rfl
  · rw [decide_eq_false h, decide_eq_true (by omega)]; rfl
theorem compared_ok {op : Str} (hop : op ∈ ops) {x y : D} (ht : Two x y) (q : Q (if isN x = true then .non else if isN y = true then .non else .bl (cmpB op x y)) S) : w1 (den (k + 1) .compared) [.str op, x, y] S Q := by
  refine w_body ?_
  unfold b_compared
  simp [ops] at hop
  cases ht with
  | na =>
    sizeOf_list_dec
    refine iff_t ?_
    sizeOf_list_dec
    refine iff_t ?_
    sizeOf_list_dec
    exact q
  | nb h =>
    sizeOf_list_dec
    rw [h]
    refine iff_f ?_
    sizeOf_list_dec
    refine iff_t ?_
    sizeOf_list_dec
    rw [h] at q
    exact q
  | ii =>
    rename_i i j
    rcases hop with rfl | rfl | rfl | rfl | rfl | rfl <;>
    · repeat (first | exact q | (rw [le_dec]; exact q) | array_mem_dec | refine o_neI ?_ | refine iff_t ?_ | refine iff_f ?_)
  | ss =>
    rename_i i j
    rcases hop with rfl | rfl | rfl | rfl | rfl | rfl <;>
    · repeat (first | exact q | array_mem_dec | refine o_ltS ?_ | refine o_gtS ?_ | refine o_leS ?_ | refine o_geS ?_ | refine iff_t ?_ | refine iff_f ?_)
end
section
set_option maxHeartbeats 1000000 -- wide
/-! ### marked trees -/
namespace Tm
def mk : Tm → N
  | num z => .atm "num" [.int z] | text s => .atm "text" [.str s]
  | col u c => if u = 3 then .agg [nN c] none else .atm "mark" [nN (7 * u + 3 * c)]
  | neg a => .un "neg" a.mk | bin w a b => .two w [] a.mk b.mk
end Tm
namespace Lf
def mk : Lf → N
  | null a => .un "null" a.mk | cmp op a b => .two "cmp" [.str op] a.mk b.mk
end Lf
namespace Bn
def mk (f : Nat → N) : Bn → N
  | lf i => f i | un w a => .un w (a.mk f) | bi w a b => .two w [] (a.mk f) (b.mk f)
end Bn
variable {S : Sto} {k : Nat} {Q : D → Sto → Prop}
theorem mcol_ok {u c : Nat} (q : Q (Tm.mk (.col u c)).d S) : w1 (den (k + 1) ._law_marked) [(Tm.col u c).d] S Q := by
  refine w_body ?_
  unfold b__law_marked
  sizeOf_list_dec
  refine iff_t ?_
  sizeOf_list_dec
  simp only [Tm.mk] at q
  by_cases h : u = 3
  · subst h
    rw [if_pos rfl] at q
    refine iff_t ?_
    sizeOf_list_dec
    exact q
  · rw [if_neg h] at q
    have e : ((u : Int) == 3) = false := by rw [beq_eq_false_iff_ne]; omega
    rw [e]
    refine iff_f ?_
    sizeOf_list_dec
    refine o_mul (mul_l ⟨by decide, by decide⟩) ?_
    sizeOf_list_dec
    refine o_mul (mul_l ⟨by decide, by decide⟩) ?_
    sizeOf_list_dec
    have e2 : (7 : Int) * u + 3 * c = ((7 * u + 3 * c : Nat) : Int) := by omega
    rw [e2]
    exact q
theorem markedT_ok : ∀ (t : Tm) (tx : Bool) (k : Nat) (S : Sto) (Q : D → Sto → Prop), okB tx t → t.ht ≤ k → Q t.mk.d S → w1 (den (k + 1) ._law_marked) [t.d] S Q
  | .num z, tx, k, S, Q, ho, hk, q => by
    refine w_body ?_
    unfold b__law_marked
    sizeOf_list_dec
    refine iff_f ?_
    sizeOf_list_dec
    refine iff_f ?_
    sizeOf_list_dec
    refine iff_t ?_
    sizeOf_list_dec
    refine iff_t ?_
    sizeOf_list_dec
    exact q
  | .text z, tx, k, S, Q, ho, hk, q => by
    refine w_body ?_
    unfold b__law_marked
    sizeOf_list_dec
    refine iff_f ?_
    sizeOf_list_dec
    refine iff_f ?_
    sizeOf_list_dec
    refine iff_f ?_
    sizeOf_list_dec
    refine iff_t ?_
    sizeOf_list_dec
    exact q
  | .col u c, tx, k, S, Q, ho, hk, q => mcol_ok q
  | .neg a, tx, k + 1, S, Q, ho, hk, q => by
    have ha : okB tx a := by
      cases tx
      · exact ho
      · exact ho.elim
    refine w_body ?_
    unfold b__law_marked
    sizeOf_list_dec
    refine iff_f ?_
    sizeOf_list_dec
    refine iff_f ?_
    sizeOf_list_dec
    refine iff_f ?_
    sizeOf_list_dec
    refine iff_f ?_
    sizeOf_list_dec
    refine iff_t ?_
    sizeOf_list_dec
    refine markedT_ok a tx k _ _ ha (by simpa [Tm.ht] using hk) ?_
    sizeOf_list_dec
    exact q
  | .bin w a b, tx, k + 1, S, Q, ho, hk, q => by
    have hb : okB tx a ∧ okB tx b ∧ (w = "add" ∨ w = "sub" ∨ w = "mul") := by
      cases tx
      · exact ⟨ho.1, ho.2.1, by rcases ho.2.2 with h | h | h; exact .inl h; exact .inr (.inl h); exact .inr (.inr h.1)⟩
      · exact ho.elim
    simp only [Tm.ht] at hk
    have nn : (w == ("col" : Str)) = false ∧ (w == ("cmp" : Str)) = false ∧ (w == ("num" : Str)) = false ∧ (w == ("text" : Str)) = false := by
      rcases hb.2.2 with rfl | rfl | rfl <;> decide
    refine w_body ?_
    unfold b__law_marked
    sizeOf_list_dec
    rw [nn.1]
    refine iff_f ?_
    sizeOf_list_dec
    rw [nn.2.1]
    refine iff_f ?_
    sizeOf_list_dec
    rw [nn.2.2.1]
    refine iff_f ?_
    sizeOf_list_dec
    rw [nn.2.2.2]
    refine iff_f ?_
    sizeOf_list_dec
    refine iff_f ?_
    sizeOf_list_dec
    refine markedT_ok a tx k _ _ hb.1 (by omega) ?_
    sizeOf_list_dec
    refine markedT_ok b tx k _ _ hb.2.1 (by omega) ?_
    sizeOf_list_dec
    exact q
  | .neg a, tx, 0, S, Q, ho, hk, q => by simp [Tm.ht] at hk
  | .bin w a b, tx, 0, S, Q, ho, hk, q => by simp [Tm.ht] at hk
theorem markedL_ok {L : Lf} (hL : L.ok) (q : Q L.mk.d S) : w1 (den (k + 5) ._law_marked) [L.d] S Q := by
  refine w_body ?_
  unfold b__law_marked
  cases L with
  | null a =>
    obtain ⟨⟨tx, ha⟩, hh⟩ := hL
    sizeOf_list_dec
    refine iff_f ?_
    sizeOf_list_dec
    refine iff_f ?_
    sizeOf_list_dec
    refine iff_f ?_
    sizeOf_list_dec
    refine iff_f ?_
    sizeOf_list_dec
    refine iff_t ?_
    sizeOf_list_dec
    refine markedT_ok a tx _ _ _ ha (by omega) ?_
    sizeOf_list_dec
    exact q
  | cmp op a b =>
    obtain ⟨hop, ⟨tx, ha, hb⟩, h1, h2⟩ := hL
    sizeOf_list_dec
    refine iff_f ?_
    sizeOf_list_dec
    refine iff_t ?_
    sizeOf_list_dec
    refine markedT_ok a tx _ _ _ ha (by omega) ?_
    sizeOf_list_dec
    refine markedT_ok b tx _ _ _ hb (by omega) ?_
    sizeOf_list_dec
    exact q
def mOf (ls : List Lf) (i : Nat) : N := match ls[i]? with
  | some L => L.mk
  | none => .atm "num" []
theorem markedB_ok {ls : List Lf} (hls : ∀ L ∈ ls, L.ok) : ∀ (b : Bn) (k : Nat) (S : Sto) (Q : D → Sto → Prop), b.ok → (∀ i ∈ b.idx, i < ls.length) → b.ht ≤ k → Q (b.mk (mOf ls)).d S → w1 (den (k + 5) ._law_marked) [b.tree (fOf ls)] S Q
  | .lf i, k, S, Q, ho, hi, hk, q => by
    have hi' : i < ls.length := hi i (by simp [Bn.idx])
    have e0 : ls[i]? = some ls[i] := List.getElem?_eq_getElem hi'
    have hL := hls ls[i] (List.getElem_mem hi')
    have e1 : (Bn.lf i).tree (fOf ls) = ls[i].d := by simp only [Bn.tree, fOf, e0]
    have e2 : (Bn.lf i).mk (mOf ls) = ls[i].mk := by simp only [Bn.mk, mOf, e0]
    rw [e1]
    rw [e2] at q
    exact markedL_ok hL q
  | .un w a, k + 1, S, Q, ho, hi, hk, q => by
    obtain ⟨hw, ha⟩ := ho
    have nn : (w == ("col" : Str)) = false ∧ (w == ("cmp" : Str)) = false ∧ (w == ("num" : Str)) = false ∧ (w == ("text" : Str)) = false := by
      rcases hw with rfl | rfl <;> decide
    refine w_body ?_
    unfold b__law_marked
    rw [show (Bn.un w a).tree (fOf ls) = .tup [.str w, a.tree (fOf ls)] from rfl]
    sizeOf_list_dec
    rw [nn.1]
    refine iff_f ?_
    sizeOf_list_dec
    rw [nn.2.1]
    refine iff_f ?_
    sizeOf_list_dec
    rw [nn.2.2.1]
    refine iff_f ?_
    sizeOf_list_dec
    rw [nn.2.2.2]
    refine iff_f ?_
    sizeOf_list_dec
    refine iff_t ?_
    sizeOf_list_dec
    refine markedB_ok hls a k _ _ ha hi (by simpa [Bn.ht] using hk) ?_
    sizeOf_list_dec
    exact q
  | .bi w a b, k + 1, S, Q, ho, hi, hk, q => by
    obtain ⟨hw, ha, hb⟩ := ho
    simp only [Bn.ht] at hk
    have nn : (w == ("col" : Str)) = false ∧ (w == ("cmp" : Str)) = false ∧ (w == ("num" : Str)) = false ∧ (w == ("text" : Str)) = false := by
      rcases hw with rfl | rfl <;> decide
    refine w_body ?_
    unfold b__law_marked
    rw [show (Bn.bi w a b).tree (fOf ls) = .tup [.str w, a.tree (fOf ls), b.tree (fOf ls)] from rfl]
    sizeOf_list_dec
    rw [nn.1]
    refine iff_f ?_
    sizeOf_list_dec
    rw [nn.2.1]
    refine iff_f ?_
    sizeOf_list_dec
    rw [nn.2.2.1]
    refine iff_f ?_
    sizeOf_list_dec
    rw [nn.2.2.2]
    refine iff_f ?_
    sizeOf_list_dec
    refine iff_f ?_
    sizeOf_list_dec
    refine markedB_ok hls a k _ _ ha (fun i h => hi i (by simp [Bn.idx, h])) (by omega) ?_
    sizeOf_list_dec
    refine markedB_ok hls b k _ _ hb (fun i h => hi i (by simp [Bn.idx, h])) (by omega) ?_
    sizeOf_list_dec
    exact q
  | .un w a, 0, S, Q, ho, hi, hk, q => by simp [Bn.ht] at hk
  | .bi w a b, 0, S, Q, ho, hi, hk, q => by simp [Bn.ht] at hk
end
section
set_option maxHeartbeats 1000000 -- wide
/-! ### a tree of any kind, reduced from its leaves -/
section
variable {α : Type}
def smz (sz : α → Nat) (l : List α) : Nat := (l.map sz).sum
theorem smz_app {sz : α → Nat} (a b : List α) : smz sz (a ++ b) = smz sz a + smz sz b := by simp [smz]
theorem smz_len {sz : α → Nat} : ∀ {l : List α}, (∀ x ∈ l, 0 < sz x) → l.length ≤ smz sz l
  | [], _ => by simp [smz]
  | x :: l, h => by
    have h1 := smz_len (l := l) fun y hy => h y (List.mem_cons_of_mem _ hy)
    have h2 := h x (List.mem_cons_self ..)
    simp [smz] at h1 ⊢
    omega
theorem smz_drop {sz : α → Nat} {nd : List α} {i : Nat} {x : α} (h : nd[i]? = some x) : smz sz (nd.drop i) = sz x + smz sz (nd.drop (i + 1)) := by
  obtain ⟨hl, e⟩ := List.getElem?_eq_some_iff.mp h; rw [List.drop_eq_getElem_cons hl]; rw [e]
  simp [smz]
/-- where the parts of the first at nodes stand -/
def Lies (kids : α → List α) (nd : List α) (fs : List Nat) (i : Nat) : Prop := ∀ f x, fs[i]? = some f → nd[i]? = some x → i < f ∧ ∀ (j : Nat) (y : α), (kids x)[j]? = some y → nd[f + j]? = some y
def natsD (fs : List Nat) : List D := fs.map fun (f : Nat) => D.int f
theorem natsD_ix {fs : List Nat} {i f : Nat} (h : fs[i]? = some f) : (natsD fs)[i]? = some (.int f) := by simp [natsD, h]
theorem cut_ix0 (xs : List D) (f k : Nat) (h : f + k ≤ xs.length) : cutX xs (some (f : Int)) (some ((f : Int) + (k : Int))) = (xs.drop f).take k := by
  rw [show (f : Int) + (k : Int) = ((f + k : Nat) : Int) from by omega]
  simp only [cutX, HT.sIx_nat]
  rw [Nat.min_eq_left (by omega), Nat.min_eq_left (by omega), Nat.add_sub_cancel_left]
variable {dd : α → D} {kids : α → List α} {P : α → Prop} {sz : α → Nat} {val : α → D}
theorem reduced_ok (hP : ∀ x, P x → ∀ y ∈ kids x, P y) (hsz : ∀ x, P x → smz sz (kids x) + 1 ≤ sz x)
    (hparts : ∀ x, P x → ∀ (k : Nat) (S : Sto) (Q : D → Sto → Prop), Q (.tup ((kids x).map dd)) S → w1 (den (k + 1) .parts_of) [dd x] S Q)
    {n : α} (h : P n) (hs : sz n ≤ 100000) {t id k : Nat} {ndf : NDef} {ws : List D} {S : Sto} {Q : D → Sto → Prop} (ht : S[t]? = some (.fn id ndf ws)) (htb : tabN id = some ndf) (hps : ndf.ps.length = 2) (hws : ws.length = ndf.fr.length)
    (hstep : ∀ x, P x → ∀ (T : Sto) (m : Nat) (Q : D → Sto → Prop), Kp S T → T[m]? = some (.lst ((kids x).map val)) → (∀ T', Kp T T' → Q (val x) T') → w1 (gN (den (k + 1)) id) ([dd x, .ref m] ++ ws) T Q)
    (q : ∀ S', Kp S S' → Q (val n) S') : w1 (den (k + 2) .reduced) [dd n, .ref t] S Q := by
  have pos : ∀ x, P x → 0 < sz x := fun x hx => by have := hsz x hx; omega
  have smk : ∀ x, P x → (kids x).length ≤ smz sz (kids x) := fun x hx => smz_len fun y hy => pos y (hP x hx y hy)
  refine w_body ?_
  unfold b_reduced
  decreasing_trivial_pre_omega
  refine ⟨by simp [sizeLine], ?_⟩
  decreasing_trivial_pre_omega
  refine ⟨by simp [sizeLine], ?_⟩
  decreasing_trivial_pre_omega
  refine s_while ?_
  have e0 : (S ++ [O.lst [dd n]]).length = S.length + 1 := by simp
  have n1 : S.length ≠ S.length + 1 := by omega
  have n2 : S.length + 1 ≠ S.length := by omega
  refine wh_inv (fun m γ T => ∃ (at' : Nat) (nd : List α) (fs : List Nat) (x y : Option D), γ = [some (dd n), some (.ref t), some (.ref S.length), some (.ref (S.length + 1)), some (.int at'), x, y] ∧ T[S.length]? = some (.lst (nd.map dd)) ∧ T[S.length + 1]? = some (.lst (natsD fs)) ∧ Kp S T ∧ (∀ x ∈ nd, P x) ∧
    fs.length = at' ∧ at' ≤ nd.length ∧ nd[0]? = some n ∧ (∀ i < at', Lies kids nd fs i) ∧ smz sz (nd.drop at') = m ∧ at' + m ≤ 100000) ?_ turns (sz n) _ _ ?_ (by simp only [turns]; omega)
  · rintro m γ T ⟨at', nd, fs, x1, y1, rfl, hN, hF, hk, ho, hfl, hat, h0, hpl, hm, hle⟩
    decreasing_trivial_pre_omega
    rw [List.length_map]
    have hnl : nd.length ≤ 100000 := by
      have := smz_len (sz := sz) (l := nd.drop at') fun x hx => pos x (ho x (List.mem_of_mem_drop hx))
      simp only [List.length_drop] at this
      omega
    refine iff_d (fun hlt => ?_) (fun hge => ?_)
    · have hlt' : at' < nd.length := by omega
      have hx : nd[at']? = some nd[at'] := List.getElem?_eq_getElem hlt'
      generalize nd[at'] = x at hx
      have hxo : P x := ho x (List.mem_of_getElem? hx)
      have hmx : (nd.map dd)[at']? = some (dd x) := by simp [hx]
      have hpt := hsz x hxo
      have hkl := smk x hxo
      have htd := smz_drop (sz := sz) hx
      have hll := smz_len (sz := sz) (l := nd.drop (at' + 1)) fun x hx => pos x (ho x (List.mem_of_mem_drop hx))
      simp only [List.length_drop] at hll
      decreasing_trivial_pre_omega
      refine ⟨ty_lst hF, ?_⟩
      decreasing_trivial_pre_omega
      rw [List.length_map]
      refine m_append (xs := natsD fs) (by array_get_dec) (by simp [natsD, sizeLine]; omega) ?_
      decreasing_trivial_pre_omega
      refine ⟨ty_lst (xs := nd.map dd) (by array_get_dec), ?_⟩
      decreasing_trivial_pre_omega
      refine o_ixL (xs := nd.map dd) (by array_get_dec) (at_rng hmx) ?_
      decreasing_trivial_pre_omega
      refine hparts x hxo _ _ _ ?_
      decreasing_trivial_pre_omega
      refine m_extT (xs := nd.map dd) (by array_get_dec) (by rw [List.length_map, List.length_map]; simp only [sizeLine]; omega) ?_
      decreasing_trivial_pre_omega
      refine ⟨smz sz ((nd ++ kids x).drop (at' + 1)), ?_, at' + 1, nd ++ kids x, fs ++ [nd.length], _, _, rfl, ?_, ?_, (hk.set (by simp)).set (by simp), ?_, by simp [hfl], by simp; omega, ?_, ?_, rfl, ?_⟩
      · rw [List.drop_append_of_le_length (by omega), smz_app]; omega
      · rw [List.map_append]; exact lk_set (lk_ne n1 hN)
      · have : natsD (fs ++ [nd.length]) = natsD fs ++ [.int nd.length] := by simp [natsD]
        rw [this]; array_get_dec
      · intro y hy
        rcases memA hy with hy | hy
        · exact ho y hy
        · exact hP x hxo y hy
      · rw [List.getElem?_append_left (by omega)]; exact h0
      · intro i hi f z hf hz
        by_cases hia : i < at'
        · rw [List.getElem?_append_left (by omega)] at hf
          rw [List.getElem?_append_left (by omega)] at hz
          obtain ⟨p1, p2⟩ := hpl i hia f z hf hz
          exact ⟨p1, fun j y hy => by
            have := p2 j y hy
            rw [List.getElem?_append_left (lt_of this)]; exact this⟩
        · have : i = at' := by omega
          subst this
          rw [List.getElem?_append_left (by omega), hx] at hz
          cases hz
          rw [List.getElem?_append_right (by omega), hfl] at hf
          simp at hf
          subst hf
          exact ⟨hlt', fun j y hy => by
            rw [List.getElem?_append_right (by omega)]
            simpa using hy⟩
      · rw [List.drop_append_of_le_length (by omega), smz_app]; omega
    · have hae : at' = nd.length := by omega
      decreasing_trivial_pre_omega
      refine ⟨by simp [sizeLine], ?_⟩
      decreasing_trivial_pre_omega
      have hN1 : (T ++ [O.lst [D.non]])[S.length]? = some (.lst (nd.map dd)) := lk_app hN
      decreasing_trivial_pre_omega
      rw [List.length_map]
      refine o_rep lk_new ⟨by omega, by omega, by simp [sizeLine]; omega⟩ ?_
      decreasing_trivial_pre_omega
      have hrep : (List.replicate (nd.length : Int).toNat [D.non]).flatten = List.replicate nd.length D.non := by
        rw [Int.toNat_natCast]
        generalize nd.length = L
        induction L with
        | zero => rfl
        | succ L ih => rw [List.replicate_succ, List.flatten_cons, ih, List.replicate_succ]; rfl
      rw [hrep]
      have hN2 : ((T ++ [O.lst [D.non]]) ++ [O.lst (List.replicate nd.length D.non)])[S.length]? = some (.lst (nd.map dd)) := lk_app hN1
      decreasing_trivial_pre_omega
      rw [List.length_map]
      refine ⟨(nd.length : Int) - 1, -1, rfl, ⟨by omega, by omega, by omega, by omega⟩, ?_⟩
      have hc : S.length + 1 < (T ++ [O.lst [D.non]]).length := by have := lt_of hF; simp; omega
      refine for_inv (fun rest γ T2 => ∃ (r : Nat) (mk : List D) (x y : Option D), γ = [some (dd n), some (.ref t), some (.ref S.length), some (.ref (S.length + 1)), x, some (.ref (T ++ [O.lst [D.non]]).length), y] ∧ rest = (List.range r).map (fun (i : Nat) => D.int ((r : Int) - 1 - i)) ∧ r ≤ nd.length ∧
        T2[S.length]? = some (.lst (nd.map dd)) ∧ T2[S.length + 1]? = some (.lst (natsD fs)) ∧ T2[(T ++ [O.lst [D.non]]).length]? = some (.lst mk) ∧ Kp S T2 ∧ mk.length = nd.length ∧ ∀ i x, r ≤ i → nd[i]? = some x → mk[i]? = some (val x)) ?_ ?_ _ _ _ ?_
      · rintro z rest γ T2 ⟨r, mk, x2, y2, rfl, hr, hrl, g1, g2, g3, g4, g5, g6⟩
        refine ⟨trivial, ?_⟩
        cases r with
        | zero => simp at hr
        | succ r =>
          rw [List.range_succ_eq_map] at hr
          simp only [List.map_cons, List.map_map] at hr
          obtain ⟨hz, hr2⟩ := List.cons.inj hr
          have hz' : z = .int (r : Int) := by rw [hz]; congr 1; omega
          subst hz'
          have hx : nd[r]? = some nd[r] := List.getElem?_eq_getElem (by omega)
          generalize nd[r] = x at hx
          have hxo : P x := ho x (List.mem_of_getElem? hx)
          have hmx : (nd.map dd)[r]? = some (dd x) := by simp [hx]
          have m1 : S.length ≠ (T ++ [O.lst [D.non]]).length := by omega
          have m2 : S.length + 1 ≠ (T ++ [O.lst [D.non]]).length := by omega
          have hSn : S[(T ++ [O.lst [D.non]]).length]? = none := List.getElem?_eq_none (by omega)
          have hrest : ∃ r' : Nat, rest = (List.range r).map (fun (i : Nat) => D.int ((r : Int) - 1 - i)) := ⟨0, by
            rw [hr2]
            apply List.map_congr_left
            intro i _
            simp only [Function.comp_apply]
            congr 1
            omega⟩
          obtain ⟨_, hrest⟩ := hrest
          have hixr : ixN mk.length (r : Int) = some r := by simp [ixN]; omega
          have hfr : fs[r]? = some fs[r] := List.getElem?_eq_getElem (by omega)
          generalize fs[r] = f at hfr
          obtain ⟨p1, p2⟩ := hpl r (by omega) f x hfr hx
          have hlast : (kids x).length = 0 ∨ f + (kids x).length ≤ nd.length := by
            rcases Nat.eq_zero_or_pos (kids x).length with hz | hpos
            · exact .inl hz
            · have := p2 ((kids x).length - 1) _ (List.getElem?_eq_getElem (by omega))
              have := lt_of this
              exact .inr (by omega)
          have hcut : cutX mk (some (f : Int)) (some ((f : Int) + ((kids x).length : Int))) = (kids x).map val := by
            rcases hlast with hz | hle2
            · have hz' : kids x = [] := List.length_eq_zero_iff.mp hz
              rw [hz', show (f : Int) + (([] : List α).length : Int) = ((f : Nat) : Int) from by simp]
              simp only [cutX, HT.sIx_nat, List.map_nil]
              simp
            · rw [cut_ix0 _ _ _ (by omega)]
              apply List.ext_getElem?
              intro j
              by_cases hj : j < (kids x).length
              · have hy : (kids x)[j]? = some (kids x)[j] := List.getElem?_eq_getElem hj
                rw [List.getElem?_take_of_lt hj, List.getElem?_drop, List.getElem?_map, hy]
                exact g6 (f + j) _ (by omega) (p2 j _ hy)
              · rw [List.getElem?_eq_none (by simp; omega), List.getElem?_eq_none (by simp; omega)]
          decreasing_trivial_pre_omega
          refine o_ixL g1 (at_rng hmx) ?_
          decreasing_trivial_pre_omega
          refine hparts x hxo _ _ _ ?_
          decreasing_trivial_pre_omega
          rw [List.length_map]
          have hft : T2[t]? = some (.fn id ndf ws) := g4 _ _ ht
          refine v_callN (n := t) rfl hft htb hws ?_
          decreasing_trivial_pre_omega
          refine o_ixL g1 (at_rng hmx) ?_
          decreasing_trivial_pre_omega
          refine o_ixL g2 (at_rng (natsD_ix hfr)) ?_
          decreasing_trivial_pre_omega
          refine o_ixL g2 (at_rng (natsD_ix hfr)) ?_
          decreasing_trivial_pre_omega
          refine sl_l g3 ?_
          rw [hcut]
          decreasing_trivial_pre_omega
          refine ⟨lk_app hft, by rw [hps]; rfl, ?_⟩
          refine hstep x hxo _ _ _ g4.app lk_new fun T3 k3 => ?_
          have k4 : Kp T2 T3 := Kp.refl.app.trans k3
          decreasing_trivial_pre_omega
          refine ⟨_, k4 _ _ g3, r, hixr, ?_⟩
          refine .nx ⟨r, _, _, _, rfl, hrest, by omega, lk_ne m1 (k4 _ _ g1), lk_ne m2 (k4 _ _ g2), lk_set (k4 _ _ g3), (g4.trans k4).set hSn, by simp [g5], ?_⟩
          intro i y hi hy
          by_cases e : i = r
          · subst e
            rw [hx] at hy; cases hy
            exact List.getElem?_set_self (by omega)
          · rw [List.getElem?_set_ne (Ne.symm e)]
            exact g6 i y (by omega) hy
      · rintro γ T2 ⟨r, mk, x2, y2, rfl, hr, hrl, g1, g2, g3, g4, g5, g6⟩
        refine ⟨trivial, ?_⟩
        have hr0 : r = 0 := by
          cases r with
          | zero => rfl
          | succ m => rw [List.range_succ_eq_map] at hr; simp at hr
        subst hr0
        decreasing_trivial_pre_omega
        refine o_ixL g3 (at_rng (i := 0) (g6 0 n (by omega) h0)) ?_
        decreasing_trivial_pre_omega
        exact q _ g4
      · refine ⟨nd.length, _, _, _, rfl, ?_, by omega, hN2, lk_app (lk_app hF), lk_new, (hk.app).app, by simp, ?_⟩
        · simp only [rngDown]
          have : ((nd.length : Int) - 1 - -1).toNat = nd.length := by omega
          rw [this]
        · intro i x hi hx
          have := lt_of hx; omega
  · refine ⟨0, [n], [], none, none, ?_, lk_app lk_new, ?_, Kp.refl.app.app, fun x hx => by simp at hx; subst hx; exact h, rfl, by simp, rfl, fun i hi => by omega, ?_, by omega⟩
    · rw [e0]; rfl
    · rw [← e0]; exact lk_new
    · simp [smz]
end
end
section
set_option maxHeartbeats 1000000 -- wide
/-! ### a marked tree's value -/
def cmpD (op : Str) (x y : D) : D := if isN x = true then .non else if isN y = true then .non else .bl (cmpB op x y)
def negV : D → D
  | .int i => .int (-i) | _ => .non
def binV (w : Str) : D → D → D
  | .int i, .int j => .int (opV w i j) | _, _ => .non
def valN (M F : Int → D) : N → D
  | .atm w [x] => if w = "mark" then (match x with | .int i => M i | _ => .non) else x
  | .agg [.int i] none => F i
  | .un w a => if w = "neg" then negV (valN M F a) else if w = "null" then .bl (isN (valN M F a)) else tv (levU w (unT (valN M F a)))
  | .two w [.str op] a b => cmpD op (valN M F a) (valN M F b)
  | .two w [] a b => if w = "and" ∨ w = "or" then tv (levB w (unT (valN M F a)) (unT (valN M F b))) else binV w (valN M F a) (valN M F b)
  | _ => .non
/-- what the marks and folds hold -/
structure MF (M F : Int → D) (C : Nat → Nat → D) : Prop where
  m : ∀ u c : Nat, u < 3 → c < 3 → M ((7 * u + 3 * c : Nat) : Int) = C u c
  f : ∀ c : Nat, c < 3 → F c = C 3 c
variable {M F : Int → D} {C : Nat → Nat → D}
theorem valT_eq (h : MF M F C) : ∀ {tx : Bool} {t : Tm}, okB tx t → valN M F t.mk = vT C t
  | tx, .num z, ho => rfl
  | tx, .text z, ho => rfl
  | tx, .col u c, ho => by
    have hu : u < 4 ∧ c < 3 := by
      cases tx
      · exact ⟨ho.1, by have := ho.2; omega⟩
      · exact ⟨ho.1, by have := ho.2; omega⟩
    simp only [Tm.mk, vT]
    by_cases e : u = 3
    · subst e
      rw [if_pos rfl]
      exact h.f c hu.2
    · rw [if_neg e]
      exact h.m u c (by omega) hu.2
  | tx, .neg a, ho => by
    have ha : okB tx a := by
      cases tx
      · exact ho
      · exact ho.elim
    have e := valT_eq h ha
    show negV (valN M F a.mk) = vT C (.neg a)
    rw [e]; simp only [vT]
    cases vT C a <;> rfl
  | tx, .bin w a b, ho => by
    have hb : okB tx a ∧ okB tx b ∧ (w = "add" ∨ w = "sub" ∨ w = "mul") := by
      cases tx
      · exact ⟨ho.1, ho.2.1, by rcases ho.2.2 with h | h | h; exact .inl h; exact .inr (.inl h); exact .inr (.inr h.1)⟩
      · exact ho.elim
    have e1 := valT_eq h hb.1
    have e2 := valT_eq h hb.2.1
    have nw : ¬ (w = "and" ∨ w = "or") := by rcases hb.2.2 with rfl | rfl | rfl <;> decide
    show (if w = "and" ∨ w = "or" then _ else binV w (valN M F a.mk) (valN M F b.mk)) = vT C (.bin w a b)
    rw [if_neg nw, e1, e2]; simp only [vT]
    cases vT C a <;> cases vT C b <;> rfl
theorem valL_eq (h : MF M F C) {L : Lf} (hL : L.ok) : valN M F L.mk = tv (levL C L) := by
  cases L with
  | null a =>
    obtain ⟨⟨tx, ha⟩, _⟩ := hL
    have e := valT_eq h ha
    show D.bl (isN (valN M F a.mk)) = _
    rw [e]; simp only [levL]
    cases isN (vT C a) <;> rfl
  | cmp op a b =>
    obtain ⟨_, ⟨tx, ha, hb⟩, _⟩ := hL
    have e := valT_eq h ha
    have e' := valT_eq h hb
    show cmpD op (valN M F a.mk) (valN M F b.mk) = _
    rw [e, e']; simp only [levL, cmpD]
    cases isN (vT C a) <;> cases isN (vT C b) <;> cases cmpB op (vT C a) (vT C b) <;> rfl
theorem levL_le (L : Lf) : levL C L ≤ 2 := by
  cases L with
  | null a => simp only [levL]; split <;> omega
  | cmp op a b => simp only [levL]; split <;> (try split) <;> (try split) <;> omega
def lvs (C : Nat → Nat → D) (ls : List Lf) : List Nat := ls.map (levL C)
theorem lvs_le (ls : List Lf) : ∀ x ∈ lvs C ls, x ≤ 2 := fun x hx => by
  obtain ⟨L, _, rfl⟩ := List.mem_map.mp hx
  exact levL_le L
theorem valB_eq (h : MF M F C) {ls : List Lf} (hls : ∀ L ∈ ls, L.ok) : ∀ {b : Bn}, b.ok → (∀ i ∈ b.idx, i < ls.length) → valN M F (b.mk (mOf ls)) = tv (b.lev (atN (lvs C ls)))
  | .lf i, ho, hi => by
    have hi' : i < ls.length := hi i (by simp [Bn.idx])
    have e0 : ls[i]? = some ls[i] := List.getElem?_eq_getElem hi'
    have hL := hls ls[i] (List.getElem_mem hi')
    simp only [Bn.mk, mOf, e0, Bn.lev]
    rw [valL_eq h hL]
    simp [atN, lvs, hi']
  | .un w a, ho, hi => by
    obtain ⟨hw, ha⟩ := ho
    have e := valB_eq h hls ha hi
    have n1 : ¬ w = "neg" := by rcases hw with rfl | rfl <;> decide
    have n2 : ¬ w = "null" := by rcases hw with rfl | rfl <;> decide
    show (if w = "neg" then _ else if w = "null" then _ else tv (levU w (unT (valN M F (a.mk (mOf ls)))))) = _
    rw [if_neg n1, if_neg n2, e, unT_tv (Bn.lev_le (fun i => atN_le (lvs_le ls) i) a), Bn.lev_un]
  | .bi w a b, ho, hi => by
    obtain ⟨hw, ha, hb⟩ := ho
    have e := valB_eq h hls ha fun i h => hi i (by simp [Bn.idx, h])
    have e' := valB_eq h hls hb fun i h => hi i (by simp [Bn.idx, h])
    show (if w = "and" ∨ w = "or" then tv (levB w (unT (valN M F (a.mk (mOf ls)))) (unT (valN M F (b.mk (mOf ls))))) else _) = _
    rw [if_pos hw, e, e', unT_tv (Bn.lev_le (fun i => atN_le (lvs_le ls) i) a), unT_tv (Bn.lev_le (fun i => atN_le (lvs_le ls) i) b), Bn.lev_bi]
end
section
set_option maxHeartbeats 1000000 -- wide
variable {S T : Sto} {k m wd : Nat} {Q : D → Sto → Prop} {M F : Int → D} {C : Nat → Nat → D}
def numV (x : D) : Prop := x = .non ∨ ∃ i, x = .int i
theorem nums_py : ∀ {xs : List D}, (∀ x ∈ xs, numV x) → ∃ ds, pyDs xs = some ds ∧ PyData.canLayAll0 ds = true ∧ PyData.depthAll ds = 0 ∧ (ds.any fun z => PyData.eqv z .none) = xs.any isN
  | [], _ => ⟨[], by simp [pyDs], by simp [PyData.canLayAll0], by simp [PyData.depthAll], rfl⟩
  | x :: xs, h => by
    obtain ⟨ds, a, b, c, d⟩ := nums_py (xs := xs) fun y hy => h y (by simp [hy])
    rcases h x (by simp) with rfl | ⟨i, rfl⟩
    · exact ⟨.none :: ds, by simp [pyDs, pyD, a], by simp [PyData.canLayAll0, PyData.canLay0, b], by simp [PyData.depthAll, PyData.depth, c], by rw [List.any_cons, List.any_cons, d]; simp [PyData.eqv, isN]⟩
    · exact ⟨.int i :: ds, by simp [pyDs, pyD, a], by simp [PyData.canLayAll0, PyData.canLay0, b], by simp [PyData.depthAll, PyData.depth, c], by rw [List.any_cons, List.any_cons, d]; simp [PyData.eqv, isN]⟩
theorem o_inN {n : Nat} {xs : List D} (hn : S[n]? = some (.lst xs)) (hx : ∀ x ∈ xs, numV x) (q : Q (.bl (xs.any isN)) S) : w2 (inF false) .non (.ref n) S Q := by
  obtain ⟨ds, a, b, c, d⟩ := nums_py hx
  have s1 : SeqAt.shaped .none = true := by simp [SeqAt.shaped, PyData.canLay0, PyData.depth]
  have s2 : SeqAt.shaped (.list ds) = true := by
    refine Bool.and_eq_true_iff.mpr ⟨?_, decide_eq_true ?_⟩
    · rw [PyData.canLay0]; exact b
    · rw [PyData.depth]; omega
  refine ⟨_, _, ?_, q⟩
  unfold inF inT inB
  simp [pyD, pyO, hn, a, s1, s2, d]
/-- the marks' dict -/
structure Mk (T : Sto) (wd : Nat) (C : Nat → Nat → D) : Prop where
  ex : ∃ kvs, T[wd]? = some (.dk kvs) ∧ ∀ u c : Nat, u < 3 → c < 3 → valD kvs (.inl ((7 * u + 3 * c : Nat) : Int)) = some (C u c)
def foldD (C : Nat → Nat → D) : D := .tup [C 3 0, C 3 1, C 3 2]
theorem fold_at {c : Nat} (h : c < 3) : atI [C 3 0, C 3 1, C 3 2] (c : Int) = some (C 3 c) := by
  rcases c with _ | _ | _ | c
  · rfl
  · rfl
  · rfl
  · omega
theorem reckoned_neg {z : Int} (hm : T[m]? = some (.lst [.int z])) (q : Q (.int (-z)) T) : w1 (den (k + 1) .reckoned) [.str "neg", .ref m] T Q := by
  refine w_body ?_
  unfold b_reckoned
  sizeOf_list_dec
  refine iff_t ?_
  sizeOf_list_dec
  refine o_ixL hm rfl ?_
  sizeOf_list_dec
  exact q
theorem reckoned_two {w : Str} {y z : Int} (hw : w = "add" ∨ w = "sub" ∨ (w = "mul" ∧ -(2 ^ 64) < z ∧ z < 2 ^ 64)) (hm : T[m]? = some (.lst [.int y, .int z])) (q : Q (.int (opV w y z)) T) : w1 (den (k + 1) .reckoned) [.str w, .ref m] T Q := by
  refine w_body ?_
  unfold b_reckoned
  rcases hw with rfl | rfl | ⟨rfl, hz⟩
  · sizeOf_list_dec
    refine iff_f ?_
    sizeOf_list_dec
    refine g_lst hm rfl ?_
    sizeOf_list_dec
    refine iff_t ?_
    sizeOf_list_dec
    exact q
  · sizeOf_list_dec
    refine iff_f ?_
    sizeOf_list_dec
    refine g_lst hm rfl ?_
    sizeOf_list_dec
    refine iff_f ?_
    sizeOf_list_dec
    refine iff_t ?_
    sizeOf_list_dec
    exact q
  · sizeOf_list_dec
    refine iff_f ?_
    sizeOf_list_dec
    refine g_lst hm rfl ?_
    sizeOf_list_dec
    refine iff_f ?_
    sizeOf_list_dec
    refine iff_f ?_
    sizeOf_list_dec
    refine o_mul (mul_r hz) ?_
    sizeOf_list_dec
    exact q
theorem worth_ok {tx : Bool} {t : Tm} (h : MF M F C) (hC : Cv C) (hM : Mk T wd C) (ho : okB tx t) (hm : T[m]? = some (.lst (t.mk.kids.map (valN M F)))) (q : Q (vT C t) T) : w1 (den (k + 2) .worth_of_one) [t.mk.d, .ref m, .ref wd, foldD C] T Q := by
  obtain ⟨kvs, h1, h2⟩ := hM
  refine w_body ?_
  unfold b_worth_of_one
  cases t with
  | num z =>
    simp only [Tm.mk, N.d]
    sizeOf_list_dec
    refine o_inF rfl ?_
    sizeOf_list_dec
    refine iff_t ?_
    sizeOf_list_dec
    exact q
  | text z =>
    simp only [Tm.mk, N.d]
    sizeOf_list_dec
    refine o_inF rfl ?_
    sizeOf_list_dec
    refine iff_t ?_
    sizeOf_list_dec
    exact q
  | col u c =>
    have hu : u < 4 ∧ c < 3 := by
      cases tx
      · exact ⟨ho.1, by have := ho.2; omega⟩
      · exact ⟨ho.1, by have := ho.2; omega⟩
    by_cases e : u = 3
    · subst e
      simp only [Tm.mk, if_pos, N.d]
      sizeOf_list_dec
      refine o_inF rfl ?_
      sizeOf_list_dec
      refine iff_f ?_
      sizeOf_list_dec
      refine iff_f ?_
      sizeOf_list_dec
      refine iff_t ?_
      sizeOf_list_dec
      exact o_ixT (fold_at hu.2) (th_rt (re_rt q))
    · simp only [Tm.mk, if_neg e, N.d]
      sizeOf_list_dec
      refine o_inF rfl ?_
      sizeOf_list_dec
      refine iff_f ?_
      sizeOf_list_dec
      refine iff_t ?_
      sizeOf_list_dec
      exact o_getL (by rw [h1]; rfl) rfl (h2 u c (by omega) hu.2) (th_rt (re_rt q))
  | neg a =>
    have ha : a.okN := by
      cases tx
      · exact ho
      · exact ho.elim
    have e := valT_eq h (tx := false) ha
    have hm : T[m]? = some (.lst [vT C a]) := by rw [hm]; simp only [Tm.mk, N.kids, List.map_cons, List.map_nil, e]
    simp only [Tm.mk, N.d]
    sizeOf_list_dec
    refine o_inF rfl ?_
    sizeOf_list_dec
    refine iff_f ?_
    sizeOf_list_dec
    refine iff_f ?_
    sizeOf_list_dec
    refine iff_f ?_
    sizeOf_list_dec
    rcases vT_N hC ha with e1 | ⟨z, e1⟩
    · have e2 : vT C (.neg a) = .non := by simp only [vT, e1]
      rw [e2] at q
      rw [e1] at hm
      refine o_inN hm (by simp [numV]) ?_
      sizeOf_list_dec
      refine iff_t ?_
      sizeOf_list_dec
      exact q
    · have e2 : vT C (.neg a) = .int (-z) := by simp only [vT, e1]
      rw [e2] at q
      rw [e1] at hm
      refine o_inN hm (by simp [numV]) ?_
      sizeOf_list_dec
      refine iff_f ?_
      sizeOf_list_dec
      exact reckoned_neg hm (re_rt q)
  | bin w a b =>
    have hb : a.okN ∧ b.okN ∧ (w = "add" ∨ w = "sub" ∨ (w = "mul" ∧ b.part)) := by
      cases tx
      · exact ho
      · exact ho.elim
    obtain ⟨ha, hb, hw⟩ := hb
    have e := valT_eq h (tx := false) ha
    have e' := valT_eq h (tx := false) hb
    have hm : T[m]? = some (.lst [vT C a, vT C b]) := by rw [hm]; simp only [Tm.mk, N.kids, List.map_cons, List.map_nil, e, e']
    have nn : inT (.str w) (.tup [.str "num", .str "text"]) = some false ∧ (w == ("mark" : Str)) = false ∧ (w == ("agg" : Str)) = false := by
      rcases hw with rfl | rfl | ⟨rfl, _⟩ <;> exact ⟨rfl, rfl, rfl⟩
    simp only [Tm.mk, N.d, List.nil_append]
    sizeOf_list_dec
    refine o_inF nn.1 ?_
    sizeOf_list_dec
    refine iff_f ?_
    sizeOf_list_dec
    rw [nn.2.1]
    refine iff_f ?_
    sizeOf_list_dec
    rw [nn.2.2]
    refine iff_f ?_
    sizeOf_list_dec
    rcases vT_N hC ha with e1 | ⟨y, e1⟩
    · have e2 : vT C (.bin w a b) = .non := by simp only [vT, e1]
      rw [e2] at q
      rw [e1] at hm
      refine o_inN hm (by
        intro x hx
        rcases memC hx with rfl | hx
        · exact .inl rfl
        · simp at hx; subst hx; exact vT_N hC hb) ?_
      sizeOf_list_dec
      refine iff_t ?_
      sizeOf_list_dec
      exact q
    · rcases vT_N hC hb with e3 | ⟨z, e3⟩
      · have e2 : vT C (.bin w a b) = .non := by simp only [vT, e1, e3]
        rw [e2] at q
        rw [e1, e3] at hm
        refine o_inN hm (by simp [numV]) ?_
        sizeOf_list_dec
        refine iff_t ?_
        sizeOf_list_dec
        exact q
      · have e2 : vT C (.bin w a b) = .int (opV w y z) := by simp only [vT, e1, e3]
        rw [e2] at q
        rw [e1, e3] at hm
        refine o_inN hm (by simp [numV]) ?_
        sizeOf_list_dec
        refine iff_f ?_
        sizeOf_list_dec
        refine reckoned_two ?_ hm (re_rt q)
        rcases hw with h | h | ⟨h, hp⟩
        · exact .inl h
        · exact .inr (.inl h)
        · refine .inr (.inr ⟨h, ?_⟩)
          rcases vT_P hC hp with e4 | ⟨z4, e4, h4⟩
          · rw [e4] at e3; cases e3
          · rw [e4] at e3; cases e3; omega
end
section
set_option maxHeartbeats 1000000 -- wide
variable {S T : Sto} {k m wd : Nat} {Q : D → Sto → Prop} {M F : Int → D} {C : Nat → Nat → D}
theorem agg_ok (c : Nat) : (N.agg [nN c] none).ok := by
  refine ⟨by simp [flats, flatD, nN], by simp, ky_atms fun x hx => ?_, fun c' h => by cases h⟩
  rcases memC hx with rfl | hx
  · exact .inr (.inr ⟨_, rfl, strOk_lit _⟩)
  · simp at hx; subst hx; exact .inr (.inl ⟨_, rfl⟩)
theorem mkT_ok : ∀ {tx : Bool} {t : Tm}, okB tx t → t.mk.ok
  | tx, .num z, ho => ⟨.inl ⟨.inl rfl, by simp [flats, flatD]⟩, by simp, by simp; exact fit_flat rfl 30⟩
  | tx, .text z, ho => ⟨.inl ⟨.inr rfl, by simp [flats, flatD]⟩, by simp, by simp; exact fit_flat rfl 30⟩
  | tx, .col u c, ho => by
    simp only [Tm.mk]
    split
    · exact agg_ok c
    · exact ⟨.inr rfl, by simp, by simp; exact fit_flat rfl 30⟩
  | tx, .neg a, ho => by
    have ha : okB tx a := by
      cases tx
      · exact ho
      · exact ho.elim
    exact ⟨.inl rfl, mkT_ok ha⟩
  | tx, .bin w a b, ho => by
    have hb : okB tx a ∧ okB tx b ∧ (w = "add" ∨ w = "sub" ∨ w = "mul") := by
      cases tx
      · exact ⟨ho.1, ho.2.1, by rcases ho.2.2 with h | h | h; exact .inl h; exact .inr (.inl h); exact .inr (.inr h.1)⟩
      · exact ho.elim
    exact ⟨.inl ⟨by rcases hb.2.2 with h | h | h; exact .inl h; exact .inr (.inl h); exact .inr (.inr (.inl h)), rfl⟩, mkT_ok hb.1, mkT_ok hb.2.1⟩
theorem mkT_kids {tx : Bool} {t : Tm} (ho : okB tx t) : ∀ y ∈ t.mk.kids, ∃ tx' t', okB tx' t' ∧ y = t'.mk := by
  cases t with
  | num z => intro y hy; simp [Tm.mk, N.kids] at hy
  | text z => intro y hy; simp [Tm.mk, N.kids] at hy
  | col u c => intro y hy; simp only [Tm.mk] at hy; split at hy <;> simp [N.kids] at hy
  | neg a =>
    have ha : okB tx a := by
      cases tx
      · exact ho
      · exact ho.elim
    intro y hy; simp [Tm.mk, N.kids] at hy; exact ⟨tx, a, ha, hy⟩
  | bin w a b =>
    have hb : okB tx a ∧ okB tx b := by
      cases tx
      · exact ⟨ho.1, ho.2.1⟩
      · exact ho.elim
    intro y hy; simp [Tm.mk, N.kids] at hy
    rcases hy with h | h
    · exact ⟨tx, a, hb.1, h⟩
    · exact ⟨tx, b, hb.2, h⟩
theorem mkT_sz : ∀ {t : Tm} {j : Nat}, t.ht ≤ j → t.mk.sz + 1 ≤ 2 ^ (j + 1)
  | .num z, k, h => by have := Nat.one_le_two_pow (n := k); simp only [Tm.mk, N.sz, Nat.pow_succ]; omega
  | .text z, k, h => by have := Nat.one_le_two_pow (n := k); simp only [Tm.mk, N.sz, Nat.pow_succ]; omega
  | .col u c, k, h => by
    have := Nat.one_le_two_pow (n := k)
    simp only [Tm.mk]
    split <;> simp only [N.sz, Nat.pow_succ] <;> omega
  | .neg a, k, h => by
    simp only [Tm.ht] at h
    obtain ⟨j, rfl⟩ : ∃ j, k = j + 1 := ⟨k - 1, by omega⟩
    have := mkT_sz (t := a) (j := j) (by omega)
    have := Nat.one_le_two_pow (n := j)
    simp only [Tm.mk, N.sz, Nat.pow_succ] at *; omega
  | .bin w a b, k, h => by
    simp only [Tm.ht] at h
    obtain ⟨j, rfl⟩ : ∃ j, k = j + 1 := ⟨k - 1, by omega⟩
    have := mkT_sz (t := a) (j := j) (by omega)
    have := mkT_sz (t := b) (j := j) (by omega)
    simp only [Tm.mk, N.sz, Nat.pow_succ] at *; omega
theorem mark_value_ok {tx : Bool} {t : Tm} (h : MF M F C) (hC : Cv C) (hM : Mk S wd C) (ho : okB tx t) (hh : t.ht ≤ 3) (q : ∀ S', Kj S S' → Q (vT C t) S') : w1 (den (k + 6) .mark_value) [t.mk.d, .ref wd, foldD C] S Q := by
  refine w_body ?_
  unfold b_mark_value
  refine s_dret (y := t.mk.d) (ws := [.ref wd, foldD C]) rfl rfl ?_
  refine reduced_ok (α := N) (dd := N.d) (kids := N.kids) (P := fun x => ∃ tx t, okB tx t ∧ x = t.mk) (sz := N.sz) (val := valN M F) (ndf := nd_mark_value__step) (id := 0) (k := k + 3) ?_ ?_ ?_ ⟨tx, t, ho, rfl⟩ ?_ lk_new rfl rfl rfl ?_ ?_
  · rintro x ⟨tx, t, ho, rfl⟩ y hy
    exact mkT_kids ho y hy
  · rintro x ⟨tx, t, ho, rfl⟩
    exact N.kids_tot t.mk
  · rintro x ⟨tx, t, ho, rfl⟩ k S Q q
    exact parts_ok (mkT_ok ho) q
  · have := mkT_sz hh; omega
  · rintro x ⟨tx, t, ho, rfl⟩ T m Q hk hm q
    have hM' : Mk T wd C := by
      obtain ⟨kvs, h1, h2⟩ := hM
      exact ⟨kvs, hk _ _ (lk_app h1), h2⟩
    show w1 (den (k + 4) .mark_value__step) [t.mk.d, .ref m, .ref wd, foldD C] T Q
    refine w_body ?_
    unfold b_mark_value__step
    sizeOf_list_dec
    refine worth_ok h hC hM' ho hm ?_
    sizeOf_list_dec
    rw [← valT_eq h ho]
    exact q T Kp.refl
  · intro S' hk
    rw [valT_eq h ho]
    exact re_rt (q _ (Kj.junk (Kp.kj (fun i o e => hk i o (lk_app e)))))
end
section
set_option maxHeartbeats 1000000 -- wide
variable {S T : Sto} {k m wd : Nat} {Q : D → Sto → Prop} {M F : Int → D} {C : Nat → Nat → D}
theorem mkT_tag {tx : Bool} {t : Tm} (ho : okB tx t) : ∃ w r, t.mk.d = .tup (.str w :: r) ∧ (w == ("cmp" : Str)) = false ∧ (w == ("null" : Str)) = false ∧ inT (.str w) c_LINKS = some false := by
  cases t with
  | num z => exact ⟨"num", _, rfl, rfl, rfl, rfl⟩
  | text z => exact ⟨"text", _, rfl, rfl, rfl, rfl⟩
  | col u c =>
    simp only [Tm.mk]
    split
    · exact ⟨"agg", _, rfl, rfl, rfl, rfl⟩
    · exact ⟨"mark", _, rfl, rfl, rfl, rfl⟩
  | neg a => exact ⟨"neg", _, rfl, rfl, rfl, rfl⟩
  | bin w a b =>
    have hw : w = "add" ∨ w = "sub" ∨ w = "mul" := by
      cases tx
      · rcases ho.2.2 with h | h | h; exact .inl h; exact .inr (.inl h); exact .inr (.inr h.1)
      · exact ho.elim
    rcases hw with rfl | rfl | rfl <;> exact ⟨_, _, rfl, rfl, rfl, rfl⟩
theorem join_un {w : Str} (hw : w = "not" ∨ w = "maybe") {x : Nat} (hx : x ≤ 2) (hm : T[m]? = some (.lst [tv x])) (q : Q (tv (levU w x)) T) : w1 (den (k + 2) .truth_joined) [.str w, .ref m] T Q := by
  refine w_body ?_
  unfold b_truth_joined
  rcases hw with rfl | rfl
  · sizeOf_list_dec
    refine iff_t ?_
    sizeOf_list_dec
    refine o_ixL hm rfl ?_
    sizeOf_list_dec
    exact negated_ok hx (th_rt (re_rt q))
  · sizeOf_list_dec
    refine iff_f ?_
    sizeOf_list_dec
    refine iff_t ?_
    sizeOf_list_dec
    refine o_ixL hm rfl ?_
    sizeOf_list_dec
    exact perhaps_ok hx (th_rt (re_rt q))
theorem join_bi {w : Str} (hw : w = "and" ∨ w = "or") {x y : Nat} (hx : x ≤ 2) (hy : y ≤ 2) (hm : T[m]? = some (.lst [tv x, tv y])) (q : Q (tv (levB w x y)) T) : w1 (den (k + 2) .truth_joined) [.str w, .ref m] T Q := by
  refine w_body ?_
  unfold b_truth_joined
  rcases hw with rfl | rfl
  · sizeOf_list_dec
    refine iff_f ?_
    sizeOf_list_dec
    refine iff_f ?_
    sizeOf_list_dec
    refine iff_t ?_
    sizeOf_list_dec
    refine o_ixL hm rfl ?_
    sizeOf_list_dec
    refine o_ixL hm rfl ?_
    sizeOf_list_dec
    exact both_ok hx hy (re_rt q)
  · sizeOf_list_dec
    refine iff_f ?_
    sizeOf_list_dec
    refine iff_f ?_
    sizeOf_list_dec
    refine iff_f ?_
    sizeOf_list_dec
    refine o_ixL hm rfl ?_
    sizeOf_list_dec
    refine o_ixL hm rfl ?_
    sizeOf_list_dec
    exact either_ok hx hy (re_rt q)
theorem stepT_ok {tx : Bool} {t : Tm} (h : MF M F C) (hC : Cv C) (hM : Mk T wd C) (ho : okB tx t) (hm : T[m]? = some (.lst (t.mk.kids.map (valN M F)))) (q : Q (vT C t) T) : w1 (den (k + 3) .mark_truth__step) [t.mk.d, .ref m, .ref wd, foldD C] T Q := by
  obtain ⟨w, r, e, h1, h2, h3⟩ := mkT_tag ho
  have hw := worth_ok (k := k) (Q := fun d S => retQ Q (.rt d) [some t.mk.d, some (.ref m), some (.ref wd), some (foldD C)] S) h hC hM ho hm (re_rt q)
  rw [e] at hw ⊢
  refine w_body ?_
  unfold b_mark_truth__step
  sizeOf_list_dec
  rw [h1]
  refine iff_f ?_
  sizeOf_list_dec
  rw [h2]
  refine iff_f ?_
  sizeOf_list_dec
  refine o_inF h3 ?_
  sizeOf_list_dec
  refine iff_f ?_
  sizeOf_list_dec
  exact hw
theorem stepL_ok {L : Lf} (h : MF M F C) (hC : Cv C) (hL : L.ok) (hm : T[m]? = some (.lst (L.mk.kids.map (valN M F)))) (q : Q (tv (levL C L)) T) : w1 (den (k + 3) .mark_truth__step) [L.mk.d, .ref m, .ref wd, foldD C] T Q := by
  refine w_body ?_
  unfold b_mark_truth__step
  rw [← valL_eq h hL] at q
  cases L with
  | null a =>
    obtain ⟨⟨tx, ha⟩, _⟩ := hL
    have hm : T[m]? = some (.lst [valN M F a.mk]) := hm
    have q : Q (.bl (isN (valN M F a.mk))) T := q
    simp only [Lf.mk, N.d]
    sizeOf_list_dec
    refine iff_f ?_
    sizeOf_list_dec
    refine iff_t ?_
    sizeOf_list_dec
    refine o_ixL hm rfl ?_
    sizeOf_list_dec
    exact q
  | cmp op a b =>
    obtain ⟨hop, ⟨tx, ha, hb⟩, _⟩ := hL
    have hm : T[m]? = some (.lst [valN M F a.mk, valN M F b.mk]) := hm
    have q : Q (cmpD op (valN M F a.mk) (valN M F b.mk)) T := q
    have ht := two_of hC ha hb
    rw [← valT_eq h ha, ← valT_eq h hb] at ht
    simp only [Lf.mk, N.d, List.cons_append, List.nil_append]
    sizeOf_list_dec
    refine iff_t ?_
    sizeOf_list_dec
    refine o_ixL hm rfl ?_
    sizeOf_list_dec
    refine o_ixL hm rfl ?_
    sizeOf_list_dec
    exact compared_ok hop ht (th_rt (re_rt q))
end
section
set_option maxHeartbeats 1000000 -- wide
variable {S T : Sto} {k m wd : Nat} {Q : D → Sto → Prop} {M F : Int → D} {C : Nat → Nat → D}
structure Bk (ls : List Lf) (b : Bn) : Prop where
  ok : b.ok
  idx : ∀ i ∈ b.idx, i < ls.length
theorem mkL_ok {L : Lf} (h : L.ok) : L.mk.ok := by
  cases L with
  | null a => obtain ⟨⟨tx, ha⟩, _⟩ := h; exact ⟨.inr (.inl rfl), mkT_ok ha⟩
  | cmp op a b => obtain ⟨_, ⟨tx, ha, hb⟩, _⟩ := h; exact ⟨.inr ⟨rfl, op, rfl⟩, mkT_ok ha, mkT_ok hb⟩
theorem mkL_kids {L : Lf} (h : L.ok) : ∀ y ∈ L.mk.kids, ∃ tx t, okB tx t ∧ y = t.mk := by
  cases L with
  | null a =>
    obtain ⟨⟨tx, ha⟩, _⟩ := h
    intro y hy; simp [Lf.mk, N.kids] at hy; exact ⟨tx, a, ha, hy⟩
  | cmp op a b =>
    obtain ⟨_, ⟨tx, ha, hb⟩, _⟩ := h
    intro y hy; simp [Lf.mk, N.kids] at hy
    rcases hy with z | z
    · exact ⟨tx, a, ha, z⟩
    · exact ⟨tx, b, hb, z⟩
theorem mkL_sz {L : Lf} (h : L.ok) : L.mk.sz ≤ 40 := by
  cases L with
  | null a => obtain ⟨_, hh⟩ := h; have := mkT_sz hh; simp only [Lf.mk, N.sz]; omega
  | cmp op a b => obtain ⟨_, _, h1, h2⟩ := h; have := mkT_sz h1; have := mkT_sz h2; simp only [Lf.mk, N.sz]; omega
/-- a piece of a marked condition -/
inductive Pm (ls : List Lf) : N → Prop
  | t {tx : Bool} {t : Tm} (h : okB tx t) : Pm ls t.mk
  | l {L : Lf} (h : L.ok) : Pm ls L.mk
  | u {w : Str} {a : Bn} (hw : w = "not" ∨ w = "maybe") (h : Bk ls a) : Pm ls (.un w (a.mk (mOf ls)))
  | b {w : Str} {a b : Bn} (hw : w = "and" ∨ w = "or") (h : Bk ls a) (h' : Bk ls b) : Pm ls (.two w [] (a.mk (mOf ls)) (b.mk (mOf ls)))
theorem pm_of {ls : List Lf} (hls : ∀ L ∈ ls, L.ok) : ∀ {b : Bn}, Bk ls b → Pm ls (b.mk (mOf ls))
  | .lf i, h => by
    have hi' : i < ls.length := h.idx i (by simp [Bn.idx])
    have e0 : ls[i]? = some ls[i] := List.getElem?_eq_getElem hi'
    simp only [Bn.mk, mOf, e0]
    exact .l (hls _ (List.getElem_mem hi'))
  | .un w a, h => .u h.ok.1 ⟨h.ok.2, h.idx⟩
  | .bi w a b, h => .b h.ok.1 ⟨h.ok.2.1, fun i z => h.idx i (by simp [Bn.idx, z])⟩ ⟨h.ok.2.2, fun i z => h.idx i (by simp [Bn.idx, z])⟩
theorem pm_ok {ls : List Lf} (hls : ∀ L ∈ ls, L.ok) : ∀ {b : Bn}, Bk ls b → (b.mk (mOf ls)).ok
  | .lf i, h => by
    have hi' : i < ls.length := h.idx i (by simp [Bn.idx])
    have e0 : ls[i]? = some ls[i] := List.getElem?_eq_getElem hi'
    simp only [Bn.mk, mOf, e0]
    exact mkL_ok (hls _ (List.getElem_mem hi'))
  | .un w a, h => ⟨by rcases h.ok.1 with z | z; exact .inr (.inr (.inl z)); exact .inr (.inr (.inr z)), pm_ok hls (b := a) ⟨h.ok.2, h.idx⟩⟩
  | .bi w a b, h => ⟨.inl ⟨by rcases h.ok.1 with z | z; exact .inr (.inr (.inr (.inl z))); exact .inr (.inr (.inr (.inr z))), rfl⟩, pm_ok hls (b := a) ⟨h.ok.2.1, fun i z => h.idx i (by simp [Bn.idx, z])⟩, pm_ok hls (b := b) ⟨h.ok.2.2, fun i z => h.idx i (by simp [Bn.idx, z])⟩⟩
theorem mark_truth_ok {ls : List Lf} {b : Bn} (hls : ∀ L ∈ ls, L.ok) (h : MF M F C) (hC : Cv C) (hM : Mk S wd C) (hb : Bk ls b) (hs : (b.mk (mOf ls)).sz ≤ 100000) (q : ∀ S', Kj S S' → Q (tv (b.lev (atN (lvs C ls)))) S') : w1 (den (k + 7) .mark_truth) [(b.mk (mOf ls)).d, .ref wd, foldD C] S Q := by
  have decreasing_trivial_pre_omega : ∀ {a : Bn}, Bk ls a → valN M F (a.mk (mOf ls)) = tv (a.lev (atN (lvs C ls))) := fun ha => valB_eq h hls ha.ok ha.idx
  have le : ∀ a : Bn, a.lev (atN (lvs C ls)) ≤ 2 := fun a => Bn.lev_le (fun i => atN_le (lvs_le ls) i) a
  refine w_body ?_
  unfold b_mark_truth
  refine s_dret (y := (b.mk (mOf ls)).d) (ws := [.ref wd, foldD C]) rfl rfl ?_
  refine reduced_ok (α := N) (dd := N.d) (kids := N.kids) (P := Pm ls) (sz := N.sz) (val := valN M F) (ndf := nd_mark_truth__step) (id := 1) (k := k + 4) ?_ ?_ ?_ (pm_of hls hb) hs lk_new rfl rfl rfl ?_ ?_
  · intro x hx y hy
    cases hx with
    | t ho => obtain ⟨tx', t', ho', rfl⟩ := mkT_kids ho y hy; exact .t ho'
    | l hL => obtain ⟨tx', t', ho', rfl⟩ := mkL_kids hL y hy; exact .t ho'
    | u hw ha => simp [N.kids] at hy; subst hy; exact pm_of hls ha
    | b hw ha hb =>
      simp [N.kids] at hy
      rcases hy with rfl | rfl
      · exact pm_of hls ha
      · exact pm_of hls hb
  · intro x _
    exact N.kids_tot x
  · intro x hx k S Q q
    cases hx with
    | t ho => exact parts_ok (mkT_ok ho) q
    | l hL => exact parts_ok (mkL_ok hL) q
    | u hw ha => exact parts_ok (n := .un _ _) ⟨by rcases hw with z | z; exact .inr (.inr (.inl z)); exact .inr (.inr (.inr z)), pm_ok hls ha⟩ q
    | b hw ha hb => exact parts_ok (n := .two _ [] _ _) ⟨.inl ⟨by rcases hw with z | z; exact .inr (.inr (.inr (.inl z))); exact .inr (.inr (.inr (.inr z))), rfl⟩, pm_ok hls ha, pm_ok hls hb⟩ q
  · intro x hx T m Q hk hm q
    have hM' : Mk T wd C := by
      obtain ⟨kvs, h1, h2⟩ := hM
      exact ⟨kvs, hk _ _ (lk_app h1), h2⟩
    show w1 (den (k + 5) .mark_truth__step) [x.d, .ref m, .ref wd, foldD C] T Q
    have q := q T Kp.refl
    cases hx with
    | t ho => exact stepT_ok (k := k + 2) h hC hM' ho hm (by rw [← valT_eq h ho]; exact q)
    | l hL => exact stepL_ok (k := k + 2) h hC hL hm (by rw [← valL_eq h hL]; exact q)
    | @u w a hw ha =>
      have hm : T[m]? = some (.lst [valN M F (a.mk (mOf ls))]) := hm
      rw [decreasing_trivial_pre_omega ha] at hm
      have e : valN M F (.un w (a.mk (mOf ls))) = tv (levU w (a.lev (atN (lvs C ls)))) := decreasing_trivial_pre_omega (a := .un w a) ⟨⟨hw, ha.ok⟩, ha.idx⟩
      rw [e] at q
      refine w_body ?_
      unfold b_mark_truth__step
      simp only [N.d]
      have n1 : (w == ("cmp" : Str)) = false ∧ (w == ("null" : Str)) = false ∧ inT (.str w) c_LINKS = some true := by
        rcases hw with rfl | rfl <;> exact ⟨rfl, rfl, rfl⟩
      sizeOf_list_dec
      rw [n1.1]
      refine iff_f ?_
      sizeOf_list_dec
      rw [n1.2.1]
      refine iff_f ?_
      sizeOf_list_dec
      refine o_inF n1.2.2 ?_
      sizeOf_list_dec
      refine iff_t ?_
      sizeOf_list_dec
      exact join_un hw (le a) hm (th_rt (re_rt q))
    | @b w a b hw ha hb =>
      have hm : T[m]? = some (.lst [valN M F (a.mk (mOf ls)), valN M F (b.mk (mOf ls))]) := hm
      rw [decreasing_trivial_pre_omega ha, decreasing_trivial_pre_omega hb] at hm
      have e : valN M F (.two w [] (a.mk (mOf ls)) (b.mk (mOf ls))) = tv (levB w (a.lev (atN (lvs C ls))) (b.lev (atN (lvs C ls)))) := decreasing_trivial_pre_omega (a := .bi w a b) ⟨⟨hw, ha.ok, hb.ok⟩, fun i z => by
        simp only [Bn.idx, List.mem_append] at z
        rcases z with z | z
        · exact ha.idx i z
        · exact hb.idx i z⟩
      rw [e] at q
      refine w_body ?_
      unfold b_mark_truth__step
      simp only [N.d, List.nil_append]
      have n1 : (w == ("cmp" : Str)) = false ∧ (w == ("null" : Str)) = false ∧ inT (.str w) c_LINKS = some true := by
        rcases hw with rfl | rfl <;> exact ⟨rfl, rfl, rfl⟩
      sizeOf_list_dec
      rw [n1.1]
      refine iff_f ?_
      sizeOf_list_dec
      rw [n1.2.1]
      refine iff_f ?_
      sizeOf_list_dec
      refine o_inF n1.2.2 ?_
      sizeOf_list_dec
      refine iff_t ?_
      sizeOf_list_dec
      exact join_bi hw (le a) (le b) hm (th_rt (re_rt q))
  · intro S' hk
    rw [decreasing_trivial_pre_omega hb]
    exact re_rt (q _ (Kj.junk (Kp.kj (fun i o e => hk i o (lk_app e)))))
end
section
set_option maxHeartbeats 1000000 -- wide
variable {S T : Sto} {k m wd : Nat} {Q : D → Sto → Prop} {M F : Int → D} {C : Nat → Nat → D}
theorem truth_same_ok {x : Nat} (hx : x ≤ 2) (q : Q (.bl true) S) : w1 (den (k + 1) ._law_truth_same) [tv x, tv x] S Q := by
  refine w_body ?_
  unfold b__law_truth_same
  rcases lt3 hx with rfl | rfl | rfl <;>
    repeat (first | exact q | array_mem_dec | refine o_isT rfl ?_ | refine iff_t ?_ | refine iff_f ?_)
theorem ty_is {T0 : String} {x : D} {t : String} {b : Bool} (h1 : tyN S x = some t) (h2 : kitB t T0 = some b) {Q : Bool → Prop} (q : Q b) : tyQ T0 S x Q := ⟨t, b, h1, h2, q⟩
theorem same_N {z : Int} (q : Q (.bl true) S) : w1 (den (k + 1) ._law_same) [.int z, .int z] S Q := by
  refine w_body ?_
  unfold b__law_same
  sizeOf_list_dec
  refine iff_f ?_
  sizeOf_list_dec
  refine ty_is (b := false) rfl (by decide +kernel) ?_
  sizeOf_list_dec
  refine iff_f ?_
  sizeOf_list_dec
  refine ty_is (b := true) rfl (by unfold kitB; simp) ?_
  sizeOf_list_dec
  refine iff_t ?_
  sizeOf_list_dec
  refine ty_is (b := false) rfl (by decide +kernel) ?_
  sizeOf_list_dec
  refine iff_t ?_
  sizeOf_list_dec
  rw [show (z == z) = true by simp]
  exact q
theorem same_S {z : Str} (q : Q (.bl true) S) : w1 (den (k + 1) ._law_same) [.str z, .str z] S Q := by
  refine w_body ?_
  unfold b__law_same
  sizeOf_list_dec
  refine iff_f ?_
  sizeOf_list_dec
  refine ty_is (b := true) rfl (by unfold kitB; simp) ?_
  sizeOf_list_dec
  refine iff_t ?_
  sizeOf_list_dec
  refine ty_is (b := true) rfl (by unfold kitB; simp) ?_
  sizeOf_list_dec
  refine iff_t ?_
  sizeOf_list_dec
  rw [show (z == z) = true by simp]
  exact q
theorem same_O (q : Q (.bl true) S) : w1 (den (k + 1) ._law_same) [.non, .non] S Q := by
  refine w_body ?_
  unfold b__law_same
  sizeOf_list_dec
  refine iff_t ?_
  sizeOf_list_dec
  exact q
theorem same_ok (hC : Cv C) {tx : Bool} {t : Tm} (ho : okB tx t) (q : Q (.bl true) S) : w1 (den (k + 1) ._law_same) [vT C t, vT C t] S Q := by
  cases tx
  · rcases vT_N hC ho with e | ⟨z, e⟩ <;> rw [e]
    · exact same_O q
    · exact same_N q
  · rcases vT_T hC ho with e | ⟨z, e⟩ <;> rw [e]
    · exact same_O q
    · exact same_S q
/-- a leaf's level is one that it can have, if no cell of unit w has a value -/
theorem vT_hit {w : Nat} (h0 : ∀ c, C w c = .non) : ∀ {t : Tm}, hitB w t.cols = true → vT C t = .non
  | .num z, h => by simp [hitB, Tm.cols] at h
  | .text z, h => by simp [hitB, Tm.cols] at h
  | .col u c, h => by
    simp [hitB, Tm.cols] at h
    subst h; exact h0 c
  | .neg a, h => by
    have := vT_hit h0 (t := a) h
    simp only [vT, this]
  | .bin w' a b, h => by
    have h : hitB w a.cols = true ∨ hitB w b.cols = true := by
      simpa [hitB, Tm.cols, List.any_append] using h
    rcases h with h | h
    · have := vT_hit h0 h
      simp only [vT, this]
    · have := vT_hit h0 h
      simp only [vT, this]
      cases vT C a <;> rfl
theorem lev_way {w : Nat} (h0 : ∀ c, C w c = .non) (L : Lf) : levL C L ∈ wayOf w L := by
  cases L with
  | null a =>
    cases h : hitB w (Lf.null a).cols with
    | true =>
      have e := vT_hit h0 (t := a) h
      simp only [levL, wayOf, h, e]; decide
    | false =>
      simp only [levL, wayOf, h, Bool.false_eq_true, if_false]
      split <;> simp
  | cmp op a b =>
    cases h : hitB w (Lf.cmp op a b).cols with
    | true =>
      have h' : hitB w a.cols = true ∨ hitB w b.cols = true := by
        simpa [hitB, Lf.cols, List.any_append] using h
      simp only [wayOf, h, if_true, List.mem_singleton]
      rcases h' with z | z
      · have e := vT_hit h0 z
        simp only [levL, e]; rfl
      · have e := vT_hit h0 z
        simp only [levL, e]
        split <;> rfl
    | false =>
      have := levL_le (C := C) (.cmp op a b)
      simp only [wayOf, h, Bool.false_eq_true, if_false]
      rcases lt3 this with e | e | e <;> rw [e] <;> simp
end
section
set_option maxHeartbeats 1000000 -- wide
variable {S T : Sto} {k m n p wd : Nat} {Q : D → Sto → Prop} {M F : Int → D} {C : Nat → Nat → D}
theorem never_ok {ls : List Lf} {w : Nat} (hls : ∀ L ∈ ls, L.ok) {b : Bn} (ho : b.ok) (hi : ∀ i ∈ b.idx, i < ls.length) (hk : b.ht ≤ k) (q : ∀ S', Kp S S' → Q (.bl (!mayB (wOf ls w) b 2)) S') : w1 (den (k + 8) .never_on_nulls) [b.tree (fOf ls), .int w] S Q := by
  refine w_body ?_
  unfold b_never_on_nulls
  sizeOf_list_dec
  refine possible_ok hls ho hi hk ?_
  intro S1 k1
  sizeOf_list_dec
  exact q _ k1
/-! ### the cells -/
def kyD (i : Nat) : D := .tup [.int (i / 3 : Nat), .int (i % 3 : Nat)]
def kyN (i : Nat) : NestedKey := .tup [.num (i / 3 : Nat), .num (i % 3 : Nat)]
theorem key_at (i j : Int) : keyN [.int i, .int j] = some (.tup [.num i, .num j]) := by
  unfold keyN
  simp [nk, nks, NestedKey.depth, NestedKey.depthAll]
theorem nk_ky (i : Nat) : nk (kyD i) = some (kyN i) := by simp [kyD, kyN, nk, nks]
theorem ky_inj {i j : Nat} (h : kyN i = kyN j) : i = j := by
  simp [kyN] at h
  omega
def kv (vs : Nat → D) (n : Nat) : List (D × D) := (List.range n).map fun i => (kyD i, vs i)
theorem look_kv (vs : Nat → D) (j : Nat) : ∀ n, lookN (kv vs n) (kyN j) = if j < n then some (vs j) else none
  | 0 => rfl
  | n + 1 => by
    have ih := look_kv vs j n
    unfold lookN kv at *
    rw [List.range_succ, List.map_append, List.find?_append]
    by_cases hj : j < n
    · rw [if_pos hj] at ih
      rw [if_pos (by omega)]
      cases h : List.find? (fun p : D × D => decide (nk p.1 = some (kyN j))) (List.map (fun i => (kyD i, vs i)) (List.range n)) with
      | none => rw [h] at ih; cases ih
      | some x => rw [h] at ih; simpa using ih
    · rw [if_neg hj] at ih
      cases h : List.find? (fun p : D × D => decide (nk p.1 = some (kyN j))) (List.map (fun i => (kyD i, vs i)) (List.range n)) with
      | some x => rw [h] at ih; cases ih
      | none =>
        rw [Option.none_or]
        by_cases e : j = n
        · subst e
          rw [if_pos (by omega)]
          simp [nk_ky]
        · rw [if_neg (by omega)]
          have : ¬ kyN n = kyN j := fun z => e (ky_inj z).symm
          simp [nk_ky, this]
def setAt (vs : Nat → D) (n : Nat) (x : D) (i : Nat) : D := if i = n then x else vs i
theorem set_kv (vs : Nat → D) (n : Nat) (x : D) : setN (kv vs n) (kyD n) (kyN n) x = kv (setAt vs n x) (n + 1) := by
  unfold setN
  rw [look_kv, if_neg (Nat.lt_irrefl n)]
  simp only [Bool.false_eq_true, Option.isSome_none, if_false]
  unfold kv
  rw [List.range_succ, List.map_append]
  congr 1
  · apply List.map_congr_left
    intro i hi
    have : i ≠ n := by have := List.mem_range.mp hi; omega
    simp [setAt, this]
  · simp [setAt]
def cellOk (w u c : Nat) (v : D) : Prop := (c < 2 → v = .non ∨ ∃ z, v = .int z ∧ -999999999 ≤ z ∧ z ≤ 999999999) ∧ (c = 2 → v = .non ∨ ∃ s, v = .str s ∧ PyData.strOk s = true) ∧ (u = w → v = .non)
def cof (vs : Nat → D) (u c : Nat) : D := if u < 4 ∧ c < 3 then vs (3 * u + c) else .non
theorem words_ok {z : Str} (h : z ∈ words) : PyData.strOk z = true := by
  simp only [words, List.mem_cons, List.not_mem_nil, or_false] at h
  rcases h with rfl | rfl | rfl | rfl | rfl <;> exact strOk_lit _
theorem cell_tail {u c w : Nat} {vs : Nat → D} {v : D} {Q : Fl → Sl → Sto → Prop} (hu : u < 4) (hc : c < 3) (hv1 : c < 2 → ∃ z, v = .int z ∧ 0 ≤ z ∧ z ≤ 999999999) (hv2 : c = 2 → ∃ s, v = .str s ∧ PyData.strOk s = true) (hp : Dk p T) (hne : p ≠ m) (hd : T[m]? = some (.dn false (kv vs (3 * u + c))))
    (q : ∀ x T', cellOk w u c x → Ks [m, p] T T' → Dk p T' → T'[m]? = some (.dn false (kv (setAt vs (3 * u + c) x) (3 * u + c + 1))) → Q .nx [some (.ref p), some (.int w), some (.ref m), some (.int u), some (.int c), some x] T') :
    wS (seqM (ifS (orC (tstM (binM eqF (varM 3) (varM 1))) (tstM (binM eqF (callM 2 (den (k + 1) ._law_pick) (consA (varM 0) (consA (conM (.int 3)) (nilA)))) (conM (.int 0))))) (asgM (conM .non) (nameG 5)) (ifS (andC (tstM (binM ltF (varM 4) (conM (.int 2)))) (tstM (binM eqF (callM 2 (den (k + 1) ._law_pick) (consA (varM 0) (consA (conM (.int 3)) (nilA)))) (conM (.int 0))))) (asgM (binM subF (conM (.int 0)) (varM 5)) (nameG 5)) (nxM))) (asgM (varM 5) (subD (varM 2) (tupM (consA (varM 3) (consA (varM 4) (nilA)))))))
      [some (.ref p), some (.int w), some (.ref m), some (.int u), some (.int c), some v] T Q := by
  have npm : m ∉ [p] := by simp; omega
  have put : ∀ (x : D) (T1 : Sto), cellOk w u c x → Ks [p] T T1 → Dk p T1 → ∃ kvs, T1[m]? = some (O.dn false kvs) ∧ ∃ k, keyN [D.int u, D.int c] = some k ∧ kvs.length < sizeLine ∧ Q Fl.nx [some (.ref p), some (.int w), some (.ref m), some (.int u), some (.int c), some x] (T1.set m (O.dn false (setN kvs (D.tup [D.int u, D.int c]) k x))) := by
    intro x T1 hx k1 hp1
    have hd1 := k1.at_ _ _ npm hd
    refine ⟨_, hd1, _, key_at _ _, by simp only [kv, List.length_map, List.length_range, sizeLine]; omega, ?_⟩
    have e1 : (3 * u + c) / 3 = u := by omega
    have e2 : (3 * u + c) % 3 = c := by omega
    have e3 : D.tup [.int u, .int c] = kyD (3 * u + c) := by simp only [kyD, e1, e2]
    have e4 : NestedKey.tup [.num u, .num c] = kyN (3 * u + c) := by simp only [kyN, e1, e2]
    rw [e3, e4, set_kv]
    exact q x _ hx ((k1.more (by simp)).set (.inl (by simp))) (hp1.set hne) (lk_set hd1)
  have keep : c < 3 → ¬ u = w → cellOk w u c v := fun _ hw => by
    refine ⟨fun h => ?_, fun h => .inr (hv2 h), fun h => absurd h hw⟩
    obtain ⟨z, e, h0, h1⟩ := hv1 h
    exact .inr ⟨z, e, by omega, h1⟩
  have nonOk : cellOk w u c .non := ⟨fun _ => .inl rfl, fun _ => .inl rfl, fun _ => rfl⟩
  sizeOf_list_dec
  refine iff_b (fun hw => ?_) (fun hw => ?_)
  · sizeOf_list_dec
    refine iff_t ?_
    sizeOf_list_dec
    exact put _ _ nonOk .refl hp
  · have hw' : ¬ u = w := by
      intro e; subst e; simp at hw
    sizeOf_list_dec
    refine pick_ok (by decide) hp ?_
    intro r T1 r0 r1 k1 hp1
    sizeOf_list_dec
    refine iff_b (fun h0 => ?_) (fun h0 => ?_)
    · sizeOf_list_dec
      exact put _ _ nonOk k1 hp1
    · sizeOf_list_dec
      refine iff_d (fun h2 => ?_) (fun h2 => ?_)
      · sizeOf_list_dec
        refine pick_ok (by decide) hp1 ?_
        intro r2 T2 r20 r21 k2 hp2
        obtain ⟨z, rfl, z0, z1⟩ := hv1 (by omega)
        sizeOf_list_dec
        refine iff_b (fun h3 => ?_) (fun h3 => ?_)
        · sizeOf_list_dec
          refine put _ _ ⟨fun _ => .inr ⟨_, rfl, by omega, by omega⟩, fun h => by omega, fun h => absurd h hw'⟩ (k1.trans k2) hp2
        · sizeOf_list_dec
          exact put _ _ (keep hc hw') (k1.trans k2) hp2
      · sizeOf_list_dec
        refine iff_f ?_
        sizeOf_list_dec
        exact put _ _ (keep hc hw') k1 hp1
theorem values_ok {w : Nat} (hp : Dk p S) (hQ : ∀ r S' vs, Ks [p] S S' → Dk p S' → S'[r]? = some (.dn false (kv vs 12)) → S.length ≤ r → (∀ i, i < 12 → cellOk w (i / 3) (i % 3) (vs i)) → Q (.ref r) S') : w1 (den (k + 3) ._law_values) [.ref p, .int w] S Q := by
  have lp := hp.lt
  refine w_body ?_
  unfold b__law_values
  sizeOf_list_dec
  refine ⟨⟨by decide, by decide⟩, ?_⟩
  refine for_rng (N := 4) (fun u γ T => ∃ (vs : Nat → D) (x3 x4 x5 : Option D), γ = [some (.ref p), some (.int w), some (.ref S.length), x3, x4, x5] ∧ Ks [p] S T ∧ Dk p T ∧ T[S.length]? = some (.dn false (kv vs (3 * u))) ∧ ∀ i, i < 3 * u → cellOk w (i / 3) (i % 3) (vs i)) ?_ ?_ ?_
  · rintro u γ T hu ⟨vs, x3, x4, x5, rfl, kT, hpT, hd, hv⟩
    sizeOf_list_dec
    refine ⟨⟨by decide, by decide⟩, ?_⟩
    refine for_rng (N := 3) (fun c γ T => ∃ (vs : Nat → D) (x4 x5 : Option D), γ = [some (.ref p), some (.int w), some (.ref S.length), some (.int u), x4, x5] ∧ Ks [p] S T ∧ Dk p T ∧ T[S.length]? = some (.dn false (kv vs (3 * u + c))) ∧ ∀ i, i < 3 * u + c → cellOk w (i / 3) (i % 3) (vs i)) ?_ ?_ ?_
    · clear hd hv hpT kT vs
      rintro c γ T hc ⟨vs, x4, x5, rfl, kT, hpT, hd, hv⟩
      have e1 : (3 * u + c) / 3 = u := by omega
      have e2 : (3 * u + c) % 3 = c := by omega
      have npl : S.length ∉ [p] := by simp; omega
      have fin : ∀ {T1 T2 : Sto}, Ks [p] T T1 → Ks [S.length, p] T1 T2 → Ks [p] S T2 := fun h1 h2 => (((kT.trans h1).more (by simp)).trans h2).drop (Nat.le_refl _)
      have ext : ∀ {x : D}, cellOk w u c x → ∀ i, i < 3 * u + (c + 1) → cellOk w (i / 3) (i % 3) (setAt vs (3 * u + c) x i) := fun {x} hx i hi => by
        unfold setAt
        split
        · rename_i e; subst e; rw [e1, e2]; exact hx
        · exact hv i (by omega)
      sizeOf_list_dec
      refine iff_b (fun hc2 => ?_) (fun hc2 => ?_)
      · have hc2 : c = 2 := by simp at hc2; omega
        sizeOf_list_dec
        refine word_ok hpT ?_
        intro z T1 hz k1 hp1
        refine g_name ?_
        refine th_nx ?_
        exact cell_tail (k := k) hu hc (fun h => by omega) (fun _ => ⟨z, rfl, words_ok hz⟩) hp1 (by omega) (k1.at_ _ _ npl hd) fun x T' hx k2 hp2 hd2 => .nx ⟨_, _, _, rfl, fin k1 k2, hp2, hd2, ext hx⟩
      · have hc2 : ¬ c = 2 := by
          intro e; subst e; simp at hc2
        sizeOf_list_dec
        refine number_ok hpT ?_
        intro z T1 z0 z1 k1 hp1
        refine g_name ?_
        refine th_nx ?_
        exact cell_tail (k := k) hu hc (fun _ => ⟨z, rfl, z0, z1⟩) (fun h => absurd h hc2) hp1 (by omega) (k1.at_ _ _ npl hd) fun x T' hx k2 hp2 hd2 => .nx ⟨_, _, _, rfl, fin k1 k2, hp2, hd2, ext hx⟩
    · rintro γ T ⟨vs, x4, x5, rfl, kT, hpT, hd, hv⟩
      exact .nx ⟨vs, _, _, _, rfl, kT, hpT, hd, hv⟩
    · exact ⟨vs, _, _, rfl, kT, hpT, hd, hv⟩
  · rintro γ T ⟨vs, x3, x4, x5, rfl, kT, hpT, hd, hv⟩
    sizeOf_list_dec
    exact hQ _ _ vs kT hpT hd (Nat.le_refl _) hv
  · exact ⟨fun _ => .non, _, _, _, rfl, Ks.refl.app, hp.app, lk_new, fun i h => by omega⟩
end
section
set_option maxHeartbeats 1000000 -- wide
variable {S T : Sto} {k m n p wd : Nat} {Q : D → Sto → Prop} {M F : Int → D} {C : Nat → Nat → D}
theorem v_callK {γ : Sl} {na nk n : Nat} {is : List Nat} {F} {ra rk : AvM} (h : wA ra γ S fun xs S1 => wA rk γ S1 fun ys S2 => xs.length = na ∧ ys.length = nk ∧ (xs ++ permL is ys).length = n ∧ w1 F (xs ++ permL is ys) S2 Q) : wE (callKM na nk n is F ra rk) γ S Q := by
  obtain ⟨xs, S1, e1, ys, S2, e2, h1, h2, h3, d, S3, e3, q⟩ := h
  exact ⟨d, S3, by unfold callKM; simp only [e1, e2]; rw [if_pos ⟨h1, h2, h3⟩, e3], q⟩
theorem v_newK {γ : Sl} (q : Q (.ref S.length) (S ++ [.dk []])) : wE newK γ S Q := ⟨_, _, rfl, q⟩
theorem v_lockK {γ : Sl} {i n kvs} {e : EvM} (hx : γ[i]? = some (some (.ref n))) (hn : S[n]? = some (.dk kvs))
    (h : wE e γ (S.set n (.dkl kvs)) fun d S1 => ∃ kvs', S1[n]? = some (.dkl kvs') ∧ Q d (S1.set n (.dk kvs'))) : wE (lockKM i e) γ S Q := by
  obtain ⟨d, S1, e1, kvs', e2, q⟩ := h
  exact ⟨_, _, by unfold lockKM; simp only [hx, hn, e1, e2], q⟩
theorem s_lockK {γ : Sl} {i n kvs} {s : SvM} {Q : Fl → Sl → Sto → Prop} (hx : γ[i]? = some (some (.ref n))) (hn : S[n]? = some (.dk kvs))
    (h : wS s γ (S.set n (.dkl kvs)) fun f γ1 S1 => ∃ kvs', S1[n]? = some (.dkl kvs') ∧ Q f γ1 (S1.set n (.dk kvs'))) : wS (lockKS i s) γ S Q := by
  obtain ⟨d, γ1, S1, e1, kvs', e2, q⟩ := h
  exact ⟨_, _, _, by unfold lockKS; simp only [hx, hn, e1, e2], q⟩
theorem i_keysK {γ : Sl} {e : EvM} {Q : Option (Nat × O) → List D → Sto → Prop} (h : wE e γ S fun d S1 => isRef d fun n => ∃ kvs, S1[n]? = some (.dkl kvs) ∧ Q (some (n, .dkl kvs)) (kvs.map fun e => match e.1 with | .inl i => .int i | .inr z => .str z) S1) : wI (keysK e) γ S Q := by
  obtain ⟨d, S1, e1, n, rfl, kvs, e2, q⟩ := h
  exact ⟨_, _, S1, by
    unfold keysK
    simp only [e1, e2]
    try rfl, q⟩
theorem s_putK {γ : Sl} {eo ei ew : EvM} {Q : Fl → Sl → Sto → Prop} (h : wE ew γ S fun d S1 => wE eo γ S1 fun x S2 => isRef x fun n => wE ei γ S2 fun y S3 => ∃ kvs k, S3[n]? = some (.dk kvs) ∧ keyD y = some k ∧ kvs.length < sizeLine ∧ Q .nx γ (S3.set n (.dk (putKD kvs k d)))) : wS (putS eo ei ew) γ S Q := by
  obtain ⟨d, S1, e1, x, S2, e2, n, rfl, y, S3, e3, kvs, kk, e4, e5, hl, q⟩ := h
  exact ⟨_, _, _, by unfold putS; simp only [e1, e2, e3, e4, e5, if_pos hl], q⟩
/-! ### the marks -/
def mkI (i : Nat) : Nat := 7 * (i / 3) + 3 * (i % 3)
theorem mkI_inj {i j : Nat} (h : mkI i = mkI j) : i = j := by unfold mkI at h; omega
def mkv (vs : Nat → D) (n : Nat) : List (Key × D) := (List.range n).map fun i => (Sum.inl ((mkI i : Nat) : Int), vs i)
theorem val_mkv (vs : Nat → D) (j : Nat) : ∀ n, valD (mkv vs n) (.inl ((mkI j : Nat) : Int)) = if j < n then some (vs j) else none
  | 0 => rfl
  | n + 1 => by
    have ih := val_mkv vs j n
    unfold valD mkv at *
    rw [List.range_succ, List.map_append, List.find?_append]
    by_cases hj : j < n
    · rw [if_pos hj] at ih
      rw [if_pos (by omega)]
      cases h : List.find? (fun p : Key × D => decide (p.1 = Sum.inl ((mkI j : Nat) : Int))) (List.map (fun i => (Sum.inl ((mkI i : Nat) : Int), vs i)) (List.range n)) with
      | none => rw [h] at ih; cases ih
      | some x => rw [h] at ih; simpa using ih
    · rw [if_neg hj] at ih
      cases h : List.find? (fun p : Key × D => decide (p.1 = Sum.inl ((mkI j : Nat) : Int))) (List.map (fun i => (Sum.inl ((mkI i : Nat) : Int), vs i)) (List.range n)) with
      | some x => rw [h] at ih; cases ih
      | none =>
        rw [Option.none_or]
        by_cases e : j = n
        · subst e
          rw [if_pos (by omega)]
          simp
        · rw [if_neg (by omega)]
          have : ¬ (mkI n : Int) = (mkI j : Int) := fun z => e (mkI_inj (by omega)).symm
          simp [this]
theorem put_mkv (vs : Nat → D) (n : Nat) : putKD (mkv vs n) (.inl ((mkI n : Nat) : Int)) (vs n) = mkv vs (n + 1) := by
  have h0 : ((mkv vs n).any fun e => decide (e.1 = Sum.inl ((mkI n : Nat) : Int))) = false := by
    rw [List.any_eq_false]
    intro x hx
    obtain ⟨i, hi, rfl⟩ := List.mem_map.mp hx
    have := List.mem_range.mp hi
    have ne : ¬ (mkI i : Int) = (mkI n : Int) := fun z => by have := mkI_inj (i := i) (j := n) (by omega); omega
    simp [ne]
  unfold putKD
  rw [h0]
  simp only [if_false, Bool.false_eq_true]
  unfold mkv
  rw [List.range_succ, List.map_append]
  rfl
theorem mkv_ok {vs : Nat → D} {e : Key × D} (h : e ∈ mkv vs 9) : ∃ i, i < 9 ∧ e = (Sum.inl ((mkI i : Nat) : Int), vs i) ∧ valD (mkv vs 9) e.1 = some e.2 := by
  obtain ⟨i, hi9, rfl⟩ := List.mem_map.mp h
  have := List.mem_range.mp hi9
  exact ⟨i, this, rfl, by rw [val_mkv, if_pos this]⟩
def keptD (vs : Nat → D) (x : D) : D := .tup [x, match keyD x with
  | some kk => (valD (mkv vs 9) kk).getD .non
  | none => .non]
def keysD (vs : Nat → D) : List D := (mkv vs 9).map fun e => match e.1 with | .inl i => .int i | .inr z => .str z
theorem kept_comp {vs : Nat → D} {γ : Sl} (h7 : γ[7]? = some (some (.ref wd))) (hl : γ.length = 15) (hT : T[wd]? = some (.dkl (mkv vs 9))) (q : Q (.ref T.length) (T ++ [.lst ((keysD vs).map (keptD vs))])) : wE (compM (keysK (varM 7)) (.one 14) yesC (tupM (consA (varM 14) (consA (binM getL (varM 7) (varM 14)) nilA))) [14]) γ T Q := by
  obtain ⟨x0, x1, x2, x3, x4, x5, x6, x7, x8, x9, x10, x11, x12, x13, x14, rfl⟩ : ∃ x0 x1 x2 x3 x4 x5 x6 x7 x8 x9 x10 x11 x12 x13 x14, γ = [x0, x1, x2, x3, x4, x5, x6, x7, x8, x9, x10, x11, x12, x13, x14] := by
    rcases γ with _ | ⟨x0, _ | ⟨x1, _ | ⟨x2, _ | ⟨x3, _ | ⟨x4, _ | ⟨x5, _ | ⟨x6, _ | ⟨x7, _ | ⟨x8, _ | ⟨x9, _ | ⟨x10, _ | ⟨x11, _ | ⟨x12, _ | ⟨x13, _ | ⟨x14, _ | ⟨x15, γ⟩⟩⟩⟩⟩⟩⟩⟩⟩⟩⟩⟩⟩⟩⟩⟩ <;> simp at hl
    exact ⟨_, _, _, _, _, _, _, _, _, _, _, _, _, _, _, rfl⟩
  cases h7
  have lw := lt_of hT
  sizeOf_list_dec
  refine i_keysK ?_
  sizeOf_list_dec
  refine ⟨_, hT, ?_⟩
  refine comp_mapT (g := keptD vs) lk_new ⟨lk_app hT, fun m o e => by cases e; omega⟩ ?_ (by simp [mkv]) ?_
  · intro x hx acc' Q' hQ'
    obtain ⟨e, he, rfl⟩ := List.mem_map.mp hx
    obtain ⟨i, hi, rfl, hv⟩ := mkv_ok he
    sizeOf_list_dec
    refine o_getL (kvs := mkv vs 9) (kk := .inl ((mkI i : Nat) : Int)) (d := vs i) ?_ rfl hv ?_
    · rw [lk_ne (by omega) (lk_app hT)]; rfl
    · sizeOf_list_dec
      have e1 : keptD vs (.int ((mkI i : Nat) : Int)) = .tup [.int ((mkI i : Nat) : Int), vs i] := by
        simp only [keptD, keyD, hv, Option.getD_some]
      rw [← e1]
      exact hQ'
  · have : (T ++ [O.lst []]).set T.length (O.lst ([] ++ (keysD vs).map (keptD vs))) = T ++ [.lst ((keysD vs).map (keptD vs))] := by simp
    rw [show (List.map (fun e : Key × D => match e.1 with | .inl i => D.int i | .inr z => .str z) (mkv vs 9)) = keysD vs from rfl, this]
    exact q
theorem kept_py {w : Nat} {vs : Nat → D} (hv : ∀ i, i < 12 → cellOk w (i / 3) (i % 3) (vs i)) : ∃ ds, pyDs ((keysD vs).map (keptD vs)) = some ds ∧ PyData.canLayAll0 ds = true ∧ PyData.depthAll ds ≤ 2 := by
  have key : ∀ xs : List D, (∀ x ∈ xs, ∃ i y, x = .tup [.int i, y] ∧ atm1 y) → ∃ ds, pyDs xs = some ds ∧ PyData.canLayAll0 ds = true ∧ PyData.depthAll ds ≤ 2 := by
    intro xs
    induction xs with
    | nil => exact fun _ => ⟨[], by simp [pyDs], by simp [PyData.canLayAll0], by simp [PyData.depthAll]⟩
    | cons x xs ih =>
      intro h
      obtain ⟨ds, a, b, c⟩ := ih fun y hy => h y (by simp [hy])
      obtain ⟨i, y, rfl, hy⟩ := h x (by simp)
      obtain ⟨es, ks, a1, b1, c1, _⟩ := atms_data (xs := [D.int i, y]) fun z hz => by
        rcases memC hz with rfl | hz
        · exact .inr (.inl ⟨_, rfl⟩)
        · simp at hz; subst hz; exact hy
      refine ⟨.tuple es :: ds, ?_, ?_, ?_⟩
      · rw [pyDs, pyD, a1, a]
      · rw [PyData.canLayAll0, PyData.canLay0, b1, b]; rfl
      · rw [PyData.depthAll, PyData.depth, c1]; omega
  refine key _ fun x hx => ?_
  obtain ⟨y, hky, rfl⟩ := List.mem_map.mp hx
  obtain ⟨e, he, rfl⟩ := List.mem_map.mp hky
  obtain ⟨i, hi, rfl, hval⟩ := mkv_ok he
  refine ⟨_, vs i, by simp only [keptD, keyD, hval, Option.getD_some]; rfl, ?_⟩
  obtain ⟨c1, c2, _⟩ := hv i (by omega)
  by_cases h : i % 3 < 2
  · rcases c1 h with e | ⟨z, e, _⟩ <;> rw [e]
    · exact .inl rfl
    · exact .inr (.inl ⟨_, rfl⟩)
  · rcases c2 (by omega) with e | ⟨z, e, hz⟩ <;> rw [e]
    · exact .inl rfl
    · exact .inr (.inr ⟨_, rfl, hz⟩)
theorem o_eqL {r s : Nat} {xs : List D} {ds : List PyData} (hr : S[r]? = some (.lst xs)) (hs : S[s]? = some (.lst xs)) (h1 : pyDs xs = some ds) (h2 : PyData.canLayAll0 ds = true) (h3 : PyData.depthAll ds ≤ 2) (q : Q (.bl true) S) : w2 eqF (.ref r) (.ref s) S Q := by
  have s2 : SeqAt.shaped (.list ds) = true := by
    refine Bool.and_eq_true_iff.mpr ⟨?_, decide_eq_true ?_⟩
    · rw [PyData.canLay0]; exact h2
    · rw [PyData.depth]; omega
  refine ⟨_, _, ?_, q⟩
  unfold eqF eqB eqS pyO
  simp only [hr, hs, h1, s2, Bool.and_self, if_true]
  rw [SeqAt.eqv_refl _ (by rw [PyData.canLay0]; exact h2)]
end
section
set_option maxHeartbeats 1000000 -- wide
variable {S T : Sto} {k m n p wd : Nat} {Q : D → Sto → Prop} {M F : Int → D} {C : Nat → Nat → D}
theorem Kj.refl' : Kj S S := fun _ _ h _ => h
theorem Kj.app {J S' : Sto} (h : Kj S S') : Kj S (S' ++ J) := fun i o e z => lk_app (h i o e z)
theorem Kj.new {S' : Sto} {u : O} (h : Kj S S') (hn : S[n]? = none) : Kj S (S'.set n u) := fun i o e z => lk_ne (fun w => by subst w; rw [hn] at e; cases e) (h i o e z)
section
variable {vs : Nat → D} {w : Nat}
theorem cof_v (hv : ∀ i, i < 12 → cellOk w (i / 3) (i % 3) (vs i)) : Cv (cof vs) := by
  refine ⟨fun u c hc => ?_, fun u => ?_⟩
  · unfold cof
    split
    · rename_i h
      have := (hv (3 * u + c) (by omega)).1
      rw [show (3 * u + c) % 3 = c by omega] at this
      exact this hc
    · exact .inl rfl
  · unfold cof
    split
    · rename_i h
      have := (hv (3 * u + 2) (by omega)).2.1 (by omega)
      rcases this with e | ⟨s, e, _⟩
      · exact .inl e
      · exact .inr ⟨s, e⟩
    · exact .inl rfl
theorem cof_0 (hv : ∀ i, i < 12 → cellOk w (i / 3) (i % 3) (vs i)) (c : Nat) : cof vs w c = .non := by
  unfold cof
  split
  · rename_i h
    exact (hv (3 * w + c) (by omega)).2.2 (by omega)
  · rfl
theorem cof_look {u c : Nat} (hu : u < 4) (hc : c < 3) : ∃ kk, keyN [nN u, nN c] = some kk ∧ lookN (kv vs 12) kk = some (cof vs u c) := by
  refine ⟨kyN (3 * u + c), ?_, ?_⟩
  · have e1 : (3 * u + c) / 3 = u := by omega
    have e2 : (3 * u + c) % 3 = c := by omega
    rw [kyN, e1, e2]
    exact key_at _ _
  · rw [look_kv, if_pos (by omega)]
    unfold cof
    rw [if_pos ⟨hu, hc⟩]
theorem cof_ce {lk : Bool} (hm : S[m]? = some (.dn lk (kv vs 12))) : Ce S m (cof vs) := ⟨lk, _, hm, fun u c hu hc => cof_look hu hc⟩
theorem cof_mk (hw : S[wd]? = some (.dk (mkv vs 9))) : Mk S wd (cof vs) := ⟨_, hw, fun u c hu hc => by
  have : mkI (3 * u + c) = 7 * u + 3 * c := by unfold mkI; omega
  rw [← this, val_mkv, if_pos (by omega)]
  unfold cof
  rw [if_pos ⟨by omega, hc⟩]⟩
def mOfV (vs : Nat → D) (z : Int) : D := (valD (mkv vs 9) (.inl z)).getD .non
theorem cof_mf : MF (mOfV vs) (fun z => cof vs 3 z.toNat) (cof vs) := ⟨fun u c hu hc => by
  have : mkI (3 * u + c) = 7 * u + 3 * c := by unfold mkI; omega
  unfold mOfV
  rw [← this, val_mkv, if_pos (by omega)]
  unfold cof
  rw [if_pos ⟨by omega, hc⟩]; rfl, fun c hc => by simp⟩
theorem fold_eq : D.tup [cof vs 3 0, cof vs 3 1, cof vs 3 2] = foldD (cof vs) := rfl
end
theorem LvRs.at {ls : List Lf} {xs : List D} (h : LvRs S p ls xs) : ∀ {j : Nat} {x : D}, xs[j]? = some x → ∃ L, ls[j]? = some L ∧ LvR S p L x := by
  induction ls generalizing xs with
  | nil => cases xs with
    | nil => intro j x e; simp at e
    | cons _ _ => exact h.elim
  | cons L ls ih => cases xs with
    | nil => exact h.elim
    | cons d xs =>
      intro j x e
      cases j with
      | zero => simp at e; subst e; exact ⟨L, rfl, h.1⟩
      | succ j => exact ih h.2 (by simpa using e)
theorem pick3 {f : Nat → D} {due : Nat} (h : due ≤ 2) : atI [f 0, f 1, f 2] (due : Int) = some (f due) := by
  rcases lt3 h with rfl | rfl | rfl <;> rfl
/-- the terms of a leaf -/
theorem terms_ok {vs : Nat → D} {w wd kp le : Nat} {ts : List Tm} {x0 x1 x2 x4 x5 x6 x8 x11 x13 x14 : Option D} {Q : Fl → Sl → Sto → Prop} (hv : ∀ i, i < 12 → cellOk w (i / 3) (i % 3) (vs i)) (hts : ∀ t ∈ ts, ∃ tx, okB tx t ∧ t.ht ≤ 3)
    (hm : S[m]? = some (.dn false (kv vs 12))) (hw : S[wd]? = some (.dk (mkv vs 9))) (hle : S[le]? = some (.lst (ts.map Tm.d)))
    (q : ∀ x13 S', Kj S S' → Q .nx [x0, x1, x2, some (.ref m), x4, x5, x6, some (.ref wd), x8, some (.ref kp), some (foldD (cof vs)), x11, some (.ref le), x13, x14] S') :
    wFor (some (le, .lst (ts.map Tm.d))) (nameG 13) (ifS (notC (truC (callM 2 (den (k + 10) ._law_same) (consA (callKM 0 3 3 [0, 1, 2] (den (k + 10) .mark_value) (nilA) (consA (callM 1 (den (k + 10) ._law_marked) (consA (varM 13) (nilA))) (consA (varM 7) (consA (varM 10) (nilA))))) (consA (callM 2 (den (k + 10) ._law_value) (consA (varM 13) (consA (varM 3) (nilA)))) (nilA)))))) (rtM (conM (.bl false))) (nxM)) (ts.map Tm.d)
      [x0, x1, x2, some (.ref m), x4, x5, x6, some (.ref wd), x8, some (.ref kp), some (foldD (cof vs)), x11, some (.ref le), x13, x14] S Q := by
  refine for_seq (fun j γ T => ∃ x13, γ = [x0, x1, x2, some (.ref m), x4, x5, x6, some (.ref wd), x8, some (.ref kp), some (foldD (cof vs)), x11, some (.ref le), x13, x14] ∧ Kj S T) ?_ ?_ ⟨_, rfl, Kj.refl'⟩
  · rintro j x γ T hx ⟨y13, rfl, kT⟩
    refine ⟨kT _ _ hle rfl, ?_⟩
    have hx' : ∃ t, ts[j]? = some t ∧ x = t.d := by
      rw [List.getElem?_map] at hx
      cases h : ts[j]? with
      | none => rw [h] at hx; cases hx
      | some t => rw [h] at hx; cases hx; exact ⟨t, rfl, rfl⟩
    obtain ⟨t, ht, rfl⟩ := hx'
    obtain ⟨tx, hok, hh⟩ := hts t (List.mem_of_getElem? ht)
    sizeOf_list_dec
    refine v_callK ?_
    sizeOf_list_dec
    refine markedT_ok t tx (k + 9) _ _ hok (by omega) ?_
    sizeOf_list_dec
    show w1 (den (k + 10) .mark_value) [t.mk.d, .ref wd, foldD (cof vs)] _ _
    refine mark_value_ok (k := k + 4) cof_mf (cof_v hv) (cof_mk (kT _ _ hw rfl)) hok hh ?_
    intro T1 k1
    sizeOf_list_dec
    refine value_ok (k := k + 9) (cof_v hv) (cof_ce (k1 _ _ (kT _ _ hm rfl) rfl)) hok (by omega) ?_
    sizeOf_list_dec
    refine same_ok (k := k + 9) (cof_v hv) hok ?_
    sizeOf_list_dec
    refine iff_f ?_
    sizeOf_list_dec
    exact ⟨_, rfl, kT.trans k1⟩
  · rintro γ T ⟨y13, rfl, kT⟩
    exact ⟨kT _ _ hle rfl, q _ _ kT⟩
theorem set_back {T0 : Sto} {m wd : Nat} {u l x : O} (hm : T0[m]? = some u) (hne : wd ≠ m) : ((T0.set m l).set wd x).set m u = T0.set wd x := by
  rw [List.set_comm _ _ hne, List.set_set]
  congr 1
  obtain ⟨h, e⟩ := List.getElem?_eq_some_iff.mp hm
  rw [← e, List.set_getElem_self]
end
section
set_option maxHeartbeats 1000000 -- wide
variable {S T : Sto} {k m n p wd : Nat} {Q : D → Sto → Prop}
theorem len_of_kp {S S' : Sto} (h : Kp S S') : S[S'.length]? = none := List.getElem?_eq_none h.len
theorem set_same {i : Nat} {o : O} (h : S[i]? = some o) : S.set i o = S := by
  obtain ⟨h, e⟩ := List.getElem?_eq_some_iff.mp h
  rw [← e, List.set_getElem_self]
theorem idx_pos : ∀ b : Bn, 0 < b.idx.length
  | .lf i => by simp [Bn.idx]
  | .un w a => idx_pos a
  | .bi w a b => by have := idx_pos a; simp only [Bn.idx, List.length_append]; omega
theorem mk_sz {ls : List Lf} (hls : ∀ L ∈ ls, L.ok) : ∀ (b : Bn), (∀ i ∈ b.idx, i < ls.length) → (b.mk (mOf ls)).sz ≤ b.idx.length * (40 + b.ht)
  | .lf i, hi => by
    have h := hi i (by simp [Bn.idx])
    have e : mOf ls i = ls[i].mk := by simp [mOf, h]
    have := mkL_sz (hls ls[i] (List.getElem_mem h))
    simp only [Bn.mk, e, Bn.ht, Bn.idx, List.length_cons, List.length_nil]; omega
  | .un w a, hi => by
    have h1 := mk_sz hls a hi
    have h2 := idx_pos a
    simp only [Bn.mk, N.sz, Bn.ht, Bn.idx]
    rw [show 40 + (a.ht + 1) = 40 + a.ht + 1 by omega, Nat.mul_add]
    omega
  | .bi w a b, hi => by
    have h1 := mk_sz hls a fun i h => hi i (by simp [Bn.idx, h])
    have h2 := mk_sz hls b fun i h => hi i (by simp [Bn.idx, h])
    have p1 := idx_pos a
    simp only [Bn.mk, N.sz, Bn.ht, Bn.idx, List.length_append]
    rw [show 40 + (max a.ht b.ht + 1) = 40 + max a.ht b.ht + 1 by omega, Nat.mul_add, Nat.add_mul]
    have e1 : a.idx.length * (40 + a.ht) ≤ a.idx.length * (40 + max a.ht b.ht) := Nat.mul_le_mul_left _ (by omega)
    have e2 : b.idx.length * (40 + b.ht) ≤ b.idx.length * (40 + max a.ht b.ht) := Nat.mul_le_mul_left _ (by omega)
    omega
theorem levels_map {C : Nat → Nat → D} {ls : List Lf} {j : Nat} {L : Lf} (h : ls[j]? = some L) : (lvs C (ls.take (j + 1))).map natD = (lvs C (ls.take j)).map natD ++ [natD (levL C L)] := by
  have hj := lt_of h
  have e : ls.take (j + 1) = ls.take j ++ [L] := by
    rw [List.take_succ, h]; rfl
  rw [e]
  simp [lvs]
theorem map_kv (vs : Nat → D) : (kv vs 12).map (·.1) = (List.range 12).map kyD := by
  simp [kv]
theorem leaf_list {L : Lf} (hL : L.ok) : ∃ ts : List Tm, (∀ t ∈ ts, ∃ tx, okB tx t ∧ t.ht ≤ 3) ∧ ((∃ a, L = .null a ∧ ts = [a]) ∨ ∃ op a b, L = .cmp op a b ∧ ts = [a, b]) := by
  cases L with
  | null a =>
    obtain ⟨⟨tx, h⟩, hh⟩ := hL
    exact ⟨[a], fun t ht => by simp at ht; subst ht; exact ⟨tx, h, hh⟩, .inl ⟨a, rfl, rfl⟩⟩
  | cmp op a b =>
    obtain ⟨_, ⟨tx, h, h'⟩, hh, hh'⟩ := hL
    exact ⟨[a, b], fun t ht => by
      simp at ht
      rcases ht with rfl | rfl
      · exact ⟨tx, h, hh⟩
      · exact ⟨tx, h', hh'⟩, .inr ⟨op, a, b, rfl, rfl⟩⟩
noncomputable def rst (k : Nat) : SvM :=
  seqM (asgM (newK) (nameG 7)) (seqM (lockS 3 (forM (keysI (varM 3)) (nameG 8) (ifS (tstM (binM ltF (binM ixF (varM 8) (conM (.int 0))) (conM (.int 3)))) (putS (varM 7) (binM addF (binM mulF (conM (.int 7)) (binM ixF (varM 8) (conM (.int 0)))) (binM mulF (conM (.int 3)) (binM ixF (varM 8) (conM (.int 1))))) (binM getF (varM 3) (varM 8))) (nxM)))) (seqM (lockKS 7 (asgM (compM (keysK (varM 7)) (.one 14) (yesC) (tupM (consA (varM 14) (consA (binM getL (varM 7) (varM 14)) (nilA)))) [14]) (nameG 9))) (seqM (asgM (tupM (consA (binM getF (varM 3) (tupM (consA (conM (.int 3)) (consA (conM (.int 0)) (nilA))))) (consA (binM getF (varM 3) (tupM (consA (conM (.int 3)) (consA (conM (.int 1)) (nilA))))) (consA (binM getF (varM 3) (tupM (consA (conM (.int 3)) (consA (conM (.int 2)) (nilA))))) (nilA))))) (nameG 10)) (seqM (ifS (notC (truC (callM 2 (den (k + 39) ._law_truth_same) (consA (callKM 0 3 3 [0, 1, 2] (den (k + 39) .mark_truth) (nilA) (consA (callM 1 (den (k + 39) ._law_marked) (consA (varM 0) (nilA))) (consA (varM 7) (consA (varM 10) (nilA))))) (consA (binM ixF (lstM (consA (conM (.bl false)) (consA (conM .non) (consA (conM (.bl true)) (nilA))))) (varM 6)) (nilA)))))) (rtM (conM (.bl false))) (nxM)) (seqM (forM (seqI (varM 2)) (nameG 11) (seqM (asgM (ifM (tstM (binM eqF (binM ixF (binM ixF (varM 11) (conM (.int 0))) (conM (.int 0))) (conM (.str "null")))) (appM listF (consA (slM (binM ixF (varM 11) (conM (.int 0))) (partM (conM (.int 1))) (noM)) (nilA))) (appM listF (consA (slM (binM ixF (varM 11) (conM (.int 0))) (partM (conM (.int 2))) (noM)) (nilA)))) (nameG 12)) (forM (seqI (varM 12)) (nameG 13) (ifS (notC (truC (callM 2 (den (k + 39) ._law_same) (consA (callKM 0 3 3 [0, 1, 2] (den (k + 39) .mark_value) (nilA) (consA (callM 1 (den (k + 39) ._law_marked) (consA (varM 13) (nilA))) (consA (varM 7) (consA (varM 10) (nilA))))) (consA (callM 2 (den (k + 39) ._law_value) (consA (varM 13) (consA (varM 3) (nilA)))) (nilA)))))) (rtM (conM (.bl false))) (nxM))))) (rtM (binM eqF (lockKM 7 (compM (keysK (varM 7)) (.one 14) (yesC) (tupM (consA (varM 14) (consA (binM getL (varM 7) (varM 14)) (nilA)))) [14])) (varM 9))))))))
theorem rest_ok {ls : List Lf} {xs : List D} {b : Bn} {vs : Nat → D} {w due : Nat} {x4 x5 : Option D} (hn : S[n]? = some (.lst xs)) (hx : LvRs S p ls xs) (hls : ∀ L ∈ ls, L.ok) (hl : ls.length ≤ 5) (ho : b.ok) (hi : b.idx = List.range ls.length) (hk : b.ht ≤ 20)
    (hm : S[m]? = some (.dn false (kv vs 12))) (hv : ∀ i, i < 12 → cellOk w (i / 3) (i % 3) (vs i)) (hdue : b.lev (atN (lvs (cof vs) ls)) = due) (d2 : due ≤ 2)
    (q : ∀ S', Kj S S' → Q (.bl true) S') : wS (rst k) [some (b.tree (fOf ls)), some b.bone, some (.ref n), some (.ref m), x4, x5, some (natD due), none, none, none, none, none, none, none, none] S (retQ Q) := by
  have hidx : ∀ i ∈ b.idx, i < ls.length := by rw [hi]; simp
  have lm := lt_of hm
  unfold rst
  sizeOf_list_dec
  refine v_newK ?_
  sizeOf_list_dec
  have hm0 : (S ++ [O.dk []])[m]? = some (.dn false (kv vs 12)) := lk_app hm
  refine s_lock (n := m) rfl hm0 ?_
  sizeOf_list_dec
  refine ⟨_, lk_set hm0, ?_⟩
  rw [map_kv]
  refine for_seq (fun j γ T => ∃ x8, γ = [some (b.tree (fOf ls)), some b.bone, some (.ref n), some (.ref m), x4, x5, some (natD due), some (.ref S.length), x8, none, none, none, none, none, none] ∧ T = ((S ++ [O.dk []]).set m (.dn true (kv vs 12))).set S.length (.dk (mkv vs (min j 9)))) ?_ ?_ ⟨_, rfl, ?_⟩
  · rintro j x γ T hj ⟨x8, rfl, rfl⟩
    have hjl : j < 12 := by have := lt_of hj; simpa using this
    have : x = kyD j := by simp [hjl] at hj; exact hj.symm
    subst this
    have hml : (((S ++ [O.dk []]).set m (.dn true (kv vs 12))).set S.length (.dk (mkv vs (min j 9))))[m]? = some (.dn true (kv vs 12)) := lk_ne (by omega) (lk_set hm0)
    have hwl : (((S ++ [O.dk []]).set m (.dn true (kv vs 12))).set S.length (.dk (mkv vs (min j 9))))[S.length]? = some (.dk (mkv vs (min j 9))) := by
      refine lk_set (u := .dk []) (lk_ne (by omega) lk_new)
    refine ⟨hml, ?_⟩
    sizeOf_list_dec
    refine iff_d (fun h3 => ?_) (fun h3 => ?_)
    · have h9 : j < 9 := by omega
      have e9 : min j 9 = j := by omega
      have e10 : min (j + 1) 9 = j + 1 := by omega
      rw [e9] at hwl ⊢
      refine s_putK ?_
      rw [e9] at hml
      sizeOf_list_dec
      refine o_get (d := vs j) hml (key_at _ _) ?_ ?_
      · have := look_kv vs j 12
        rw [if_pos hjl] at this
        exact this
      sizeOf_list_dec
      refine o_mul (mul_l ⟨by decide, by decide⟩) ?_
      sizeOf_list_dec
      refine o_mul (mul_l ⟨by decide, by decide⟩) ?_
      sizeOf_list_dec
      refine ⟨mkv vs j, .inl ((mkI j : Nat) : Int), hwl, ?_, by simp only [mkv, List.length_map, List.length_range, sizeLine]; omega, ?_⟩
      · have e : (7 : Int) * (j / 3 : Nat) + 3 * (j % 3 : Nat) = ((mkI j : Nat) : Int) := by unfold mkI; omega
        rw [e]; rfl
      rw [put_mkv]
      refine .nx ⟨_, rfl, ?_⟩
      rw [e10, List.set_set]
    · have e9 : min (j + 1) 9 = min j 9 := by omega
      sizeOf_list_dec
      exact ⟨_, rfl, by rw [e9]⟩
  · rintro γ T ⟨x8, rfl, rfl⟩
    have hml : (((S ++ [O.dk []]).set m (.dn true (kv vs 12))).set S.length (.dk (mkv vs (min (List.map kyD (List.range 12)).length 9))))[m]? = some (.dn true (kv vs 12)) := lk_ne (by omega) (lk_set hm0)
    refine ⟨hml, _, hml, ?_⟩
    rw [set_back hm0 (by omega), show min (List.map kyD (List.range 12)).length 9 = 9 from rfl, show (S ++ [O.dk []]).set S.length (.dk (mkv vs 9)) = S ++ [.dk (mkv vs 9)] by simp]
    have e0 : ∀ (x y : O), (S ++ [x]).set S.length y = S ++ [y] := fun x y => by simp
    have e1 : ∀ (x y z : O), (S ++ [x] ++ [z]).set S.length y = S ++ [y] ++ [z] := fun x y z => by simp
    refine th_nx ?_
    refine s_seq ?_
    refine s_lockK (n := S.length) rfl lk_new ?_
    rw [e0]
    refine s_asg ?_
    refine kept_comp rfl rfl lk_new ?_
    refine g_name ?_
    refine ⟨_, lk_app lk_new, ?_⟩
    rw [e1]
    have hm1 : (S ++ [O.dk (mkv vs 9)] ++ [.lst ((keysD vs).map (keptD vs))])[m]? = some (.dn false (kv vs 12)) := lk_app (lk_app hm)
    have hn1 : (S ++ [O.dk (mkv vs 9)] ++ [.lst ((keysD vs).map (keptD vs))])[n]? = some (.lst xs) := lk_app (lk_app hn)
    have hw1 : (S ++ [O.dk (mkv vs 9)] ++ [.lst ((keysD vs).map (keptD vs))])[S.length]? = some (.dk (mkv vs 9)) := lk_app lk_new
    have hp1 : (S ++ [O.dk (mkv vs 9)] ++ [.lst ((keysD vs).map (keptD vs))])[(S ++ [O.dkl (mkv vs 9)]).length]? = some (.lst ((keysD vs).map (keptD vs))) := by
      rw [show (S ++ [O.dkl (mkv vs 9)]).length = (S ++ [O.dk (mkv vs 9)]).length by simp]
      exact lk_new
    have k1 : Kp S (S ++ [O.dk (mkv vs 9)] ++ [.lst ((keysD vs).map (keptD vs))]) := Kp.refl.app.app
    have hpl : (S ++ [O.dkl (mkv vs 9)]).length ≠ S.length := by simp
    generalize (S ++ [O.dkl (mkv vs 9)]).length = kp at *
    generalize S ++ [O.dk (mkv vs 9)] ++ [.lst ((keysD vs).map (keptD vs))] = T at *
    sizeOf_list_dec
    refine cell_ok (u := 3) (c := 0) (C := cof vs) hm1 (cof_look (by decide) (by decide)) ?_
    sizeOf_list_dec
    refine cell_ok (u := 3) (c := 1) (C := cof vs) hm1 (cof_look (by decide) (by decide)) ?_
    sizeOf_list_dec
    refine cell_ok (u := 3) (c := 2) (C := cof vs) hm1 (cof_look (by decide) (by decide)) ?_
    sizeOf_list_dec
    refine v_callK ?_
    sizeOf_list_dec
    refine markedB_ok hls b (k + 34) _ _ ho hidx (by omega) ?_
    sizeOf_list_dec
    show w1 (den (k + 39) .mark_truth) [(b.mk (mOf ls)).d, .ref S.length, foldD (cof vs)] _ _
    refine mark_truth_ok (k := k + 32) hls cof_mf (cof_v hv) (cof_mk hw1) ⟨ho, hidx⟩ ?_ ?_
    · have := mk_sz hls b hidx
      have e : b.idx.length ≤ 5 := by rw [hi]; simpa using hl
      have : b.idx.length * (40 + b.ht) ≤ 5 * 60 := Nat.mul_le_mul e (by omega)
      omega
    intro T1 k2
    rw [hdue]
    sizeOf_list_dec
    refine ⟨lk_new, _, pick3 (f := tv) d2, ?_⟩
    sizeOf_list_dec
    refine truth_same_ok (k := k + 38) d2 ?_
    sizeOf_list_dec
    refine iff_f ?_
    have k3 : Kj T (T1 ++ [.lst [D.bl false, .non, .bl true]]) := Kj.app k2
    generalize T1 ++ [.lst [D.bl false, .non, .bl true]] = T2 at *
    have hn2 := k3 _ _ hn1 rfl
    sizeOf_list_dec
    refine for_seq (fun j γ T => ∃ x11 x12 x13 x14, γ = [some (b.tree (fOf ls)), some b.bone, some (.ref n), some (.ref m), x4, x5, some (natD due), some (.ref S.length), x8, some (.ref kp), some (foldD (cof vs)), x11, x12, x13, x14] ∧ Kj T2 T) ?_ ?_ ⟨_, _, _, _, rfl, Kj.refl'⟩
    · rintro j x γ T3 hxj ⟨x11, x12, x13, x14, rfl, k4⟩
      refine ⟨k4 _ _ (k3 _ _ hn1 rfl) rfl, ?_⟩
      obtain ⟨L, hL, q', rfl, hok, _, _⟩ := hx.at hxj
      obtain ⟨ts, hts, hcase⟩ := leaf_list hok
      have fin : ∀ (le : Nat) (T4 : Sto), Kj T3 T4 → T4[le]? = some (.lst (ts.map Tm.d)) → _ := fun le T4 k5 hle => terms_ok (Q := turnQ (fun γ T => ∃ x11 x12 x13 x14, γ = [some (b.tree (fOf ls)), some b.bone, some (.ref n), some (.ref m), x4, x5, some (natD due), some (.ref S.length), x8, some (.ref kp), some (foldD (cof vs)), x11, x12, x13, x14] ∧ Kj T2 T) (thenQ (rtM (binM eqF (lockKM 7 (compM (keysK (varM 7)) (Tgt.one 14) yesC (tupM (consA (varM 14) (consA (binM getL (varM 7) (varM 14)) nilA))) [14])) (varM 9))) (retQ Q))) (k := k + 29) (x0 := some (b.tree (fOf ls))) (x1 := some b.bone) (x2 := some (.ref n)) (x4 := x4) (x5 := x5) (x6 := some (natD due)) (x8 := x8) (x11 := some (.tup [L.d, .ref q'])) (x13 := x13) (x14 := x14) (kp := kp) hv hts (k5 _ _ (k4 _ _ (k3 _ _ hm1 rfl) rfl) rfl) (k5 _ _ (k4 _ _ (k3 _ _ hw1 rfl) rfl) rfl) hle fun y13 S' k6 => .nx ⟨_, _, _, _, rfl, (k4.trans k5).trans k6⟩
      rcases hcase with ⟨a, rfl, rfl⟩ | ⟨op, a, a2, rfl, rfl⟩
      · sizeOf_list_dec
        refine iff_t ?_
        sizeOf_list_dec
        have e : cutX [D.str "null", a.d] (some 1) none = [a].map Tm.d := cut_post [D.str "null"] [a.d]
        rw [e]
        exact fin _ _ (Kj.app Kj.refl') lk_new
      · sizeOf_list_dec
        refine iff_f ?_
        sizeOf_list_dec
        have e : cutX [D.str "cmp", .str op, a.d, a2.d] (some 2) none = [a, a2].map Tm.d := cut_post [D.str "cmp", .str op] [a.d, a2.d]
        rw [e]
        exact fin _ _ (Kj.app Kj.refl') lk_new
    · rintro γ T3 ⟨x11, x12, x13, x14, rfl, k4⟩
      refine ⟨k4 _ _ (k3 _ _ hn1 rfl) rfl, ?_⟩
      refine th_nx ?_
      refine s_rt ?_
      refine v_bin ?_
      have hw3 := k4 _ _ (k3 _ _ hw1 rfl) rfl
      have hp3 := k4 _ _ (k3 _ _ hp1 rfl) rfl
      have k5 : Kj S T3 := ((Kp.kj k1).trans k3).trans k4
      refine v_lockK (n := S.length) rfl hw3 ?_
      refine kept_comp rfl rfl (lk_set hw3) ?_
      refine ⟨_, lk_app (lk_set hw3), ?_⟩
      have e2 : (T3.set S.length (O.dkl (mkv vs 9)) ++ [O.lst ((keysD vs).map (keptD vs))]).set S.length (O.dk (mkv vs 9)) = T3 ++ [O.lst ((keysD vs).map (keptD vs))] := by
        rw [List.set_append_left _ _ (by simpa using lt_of hw3), List.set_set, set_same hw3]
      rw [e2, List.length_set]
      sizeOf_list_dec
      obtain ⟨ds, g1, g2, g3⟩ := kept_py hv
      refine o_eqL lk_new (lk_app hp3) g1 g2 g3 ?_
      sizeOf_list_dec
      exact q _ (Kj.app k5)
  · rw [show mkv vs (min 0 9) = [] from rfl]
    have : ((S ++ [O.dk []]).set m (.dn true (kv vs 12)))[S.length]? = some (.dk []) := lk_ne (by omega) lk_new
    exact (set_same this).symm
theorem at_values_ok {ls : List Lf} {xs : List D} {b : Bn} {vs : Nat → D} {w : Nat} {told : D} (hn : S[n]? = some (.lst xs)) (hx : LvRs S p ls xs) (hls : ∀ L ∈ ls, L.ok) (hl : ls.length ≤ 5) (ho : b.ok) (hi : b.idx = List.range ls.length) (hk : b.ht ≤ 20)
    (hm : S[m]? = some (.dn false (kv vs 12))) (hv : ∀ i, i < 12 → cellOk w (i / 3) (i % 3) (vs i)) (ht : told = .non ∨ told = .tup (L3.map fun l => .bl (mayB (wOf ls w) b l)))
    (q : ∀ S', Kj S S' → Q (.bl true) S') : w1 (den (k + 40) ._law_at_values) [b.tree (fOf ls), b.bone, .ref n, .ref m, told] S Q := by
  have hidx : ∀ i ∈ b.idx, i < ls.length := by rw [hi]; simp
  refine w_body ?_
  unfold b__law_at_values
  sizeOf_list_dec
  refine comp_seq (fun j acc T => Kp S T ∧ acc = (lvs (cof vs) (ls.take j)).map natD) ?_ ?_ (by rw [hx.len]; omega) lk_new ⟨Kp.refl.app, rfl⟩
  · rintro j x acc T hxj ha hT ⟨kT, rfl⟩
    refine ⟨kT _ _ hn, _, rfl, ?_⟩
    obtain ⟨L, hL, q', rfl, hok, _, _⟩ := hx.at hxj
    sizeOf_list_dec
    refine leaf_level_ok (k := k + 34) (cof_v hv) (cof_ce (kT _ _ hm)) hok ?_
    intro T1 k1
    refine ⟨k1 _ _ hT, (kT.trans k1).set (by simp), (levels_map hL).symm⟩
  · rintro acc T ha hT ⟨kT, rfl⟩
    have e1 : ls.take xs.length = ls := by rw [hx.len]; simp
    rw [e1] at hT
    refine ⟨kT _ _ hn, ?_⟩
    have hvs := lvs_le (C := cof vs) ls
    sizeOf_list_dec
    refine level_ok hvs hT b (k + 38) _ ho (by simpa [lvs] using hidx) (by omega) ?_
    have d2 : b.lev (atN (lvs (cof vs) ls)) ≤ 2 := Bn.lev_le (fun i => atN_le hvs i) b
    generalize hdue : b.lev (atN (lvs (cof vs) ls)) = due at *
    have hmay : mayB (wOf ls w) b due = true := by
      refine (may_iff (fun i x hx => ?_) b due (by rw [hi]; exact List.nodup_range)).mpr ⟨_, fun i h => ?_, hdue⟩
      · simp only [wOf] at hx
        split at hx
        · exact (way_ok _ _).2.2 x hx
        · cases hx
      · have hj := hidx i h
        simp only [wOf, List.getElem?_eq_getElem hj]
        have e : atN (lvs (cof vs) ls) i = levL (cof vs) ls[i] := by simp [atN, lvs, hj]
        rw [e]
        exact lev_way (cof_0 hv) _
    have rest : ∀ (y5 : Option D) (T0 : Sto), Kp S T0 → wS (rst k) [some (b.tree (fOf ls)), some b.bone, some (.ref n), some (.ref m), some told, y5, some (natD due), none, none, none, none, none, none, none, none] T0 (retQ Q) := by
      intro y5 T0 k0
      exact rest_ok (k0 _ _ hn) (hx.ks (Kp.ks k0)) hls hl ho hi hk (k0 _ _ hm) hv hdue d2 fun S' k1 => q S' ((Kp.kj k0).trans k1)
    sizeOf_list_dec
    rcases ht with rfl | rfl
    · refine iff_f ?_
      refine iff_f ?_
      refine s_nx ?_
      refine th_nx ?_
      exact rest _ _ kT
    · refine iff_t ?_
      sizeOf_list_dec
      refine ⟨lk_new, _, pick3 (f := fun i => D.int ((i + 1) % 3 : Nat)) d2, ?_⟩
      refine o_ixT (d := .bl true) ?_ ?_
      · rw [← hmay]
        rcases lt3 d2 with e | e | e <;> subst e <;> rfl
      sizeOf_list_dec
      refine o_isnT rfl ?_
      sizeOf_list_dec
      refine iff_f ?_
      refine s_nx ?_
      refine th_nx ?_
      exact rest _ _ kT.app
end
section
set_option maxHeartbeats 1000000 -- wide
variable {S T : Sto} {k m n p wd : Nat} {Q : D → Sto → Prop}
theorem bool_same {c : Bool} (q : Q (.bl true) S) : w1 (den (k + 1) ._law_truth_same) [.bl c, .bl c] S Q := by
  cases c
  · exact truth_same_ok (x := 0) (by decide) q
  · exact truth_same_ok (x := 2) (by decide) q
theorem unit_ok {ls : List Lf} {xs : List D} {b : Bn} {vs : Nat → D} {w : Nat} (hn : S[n]? = some (.lst xs)) (hx : LvRs S p ls xs) (hls : ∀ L ∈ ls, L.ok) (hl : ls.length ≤ 5) (ho : b.ok) (hi : b.idx = List.range ls.length) (hk : b.ht ≤ 20)
    (hm : S[m]? = some (.dn false (kv vs 12))) (hv : ∀ i, i < 12 → cellOk w (i / 3) (i % 3) (vs i))
    (q : ∀ S', Kj S S' → Q (.bl true) S') : w1 (den (k + 41) ._law_unit) [b.tree (fOf ls), b.bone, .ref n, .int w, .ref m] S Q := by
  have hidx : ∀ i ∈ b.idx, i < ls.length := by rw [hi]; simp
  refine w_body ?_
  unfold b__law_unit
  sizeOf_list_dec
  refine v_callK ?_
  sizeOf_list_dec
  show w1 (den (k + 40) .possible) [b.tree (fOf ls), .int w] _ _
  refine possible_ok (k := k + 33) hls ho hidx (by omega) ?_
  intro S1 k1
  sizeOf_list_dec
  refine ty_tup.mpr ?_
  sizeOf_list_dec
  refine iff_f ?_
  sizeOf_list_dec
  refine o_neI ?_
  sizeOf_list_dec
  refine iff_f ?_
  sizeOf_list_dec
  refine told_ok (k := k + 38) (k1 _ _ hn) (hx.ks (Kp.ks k1)) hl ho hi (by omega) ?_
  intro r S2 k2 h2
  rw [seen_may hi, seen_may hi, seen_may hi] at h2
  have lr := lt_of h2
  sizeOf_list_dec
  refine ⟨⟨by decide, by decide⟩, ?_⟩
  refine k_filterT (p := fun _ => false) (P := fun x => ∃ l : Nat, l ≤ 2 ∧ x = .int l) lk_new (by simp [rngD]) ?_ (fun _ _ => trivial) ?_ ?_ ?_
  · intro x hx
    simp only [rngD, List.mem_map, List.mem_range] at hx
    obtain ⟨i, hi, rfl⟩ := hx
    exact ⟨i, by omega, by simp⟩
  · rintro x T Q' ⟨l, hl2, rfl⟩ hT hQ
    have h2' := hT r _ (by omega) (lk_app h2)
    sizeOf_list_dec
    refine o_ixT (pick3 (f := fun i => D.bl (mayB (wOf ls w) b (if i = 0 then 2 else if i = 1 then 0 else 1))) hl2) ?_
    sizeOf_list_dec
    refine o_ixL h2' (pick3 (f := fun i => D.bl (mayB (wOf ls w) b (if i = 0 then 2 else if i = 1 then 0 else 1))) hl2) ?_
    sizeOf_list_dec
    refine bool_same (k := k + 39) ?_
    sizeOf_list_dec
    exact hQ
  · rintro x T Q' ⟨l, hl2, rfl⟩ hQ
    sizeOf_list_dec
    exact hQ
  · intro T hT hr
    have e0 : ∀ l : List D, l.filter (fun _ => false) = [] := fun l => by simp
    rw [e0] at hr
    have k3 : Kp S2 T := fun i o e => hT i o (by have := lt_of e; omega) (lk_app e)
    have h3 := k3 _ _ h2
    sizeOf_list_dec
    refine iff_f ?_
    sizeOf_list_dec
    refine v_callK ?_
    sizeOf_list_dec
    show w1 (den (k + 40) .never_on_nulls) [b.tree (fOf ls), .int w] _ _
    refine never_ok (k := k + 32) hls ho hidx (by omega) ?_
    intro S4 k4
    sizeOf_list_dec
    refine o_ixL (k4 _ _ h3) (at_zero _ _) ?_
    sizeOf_list_dec
    refine bool_same (k := k + 39) ?_
    sizeOf_list_dec
    refine iff_f ?_
    sizeOf_list_dec
    have kk := ((k1.trans k2).trans k3).trans k4
    refine at_values_ok (k := k) (kk _ _ hn) (hx.ks (Kp.ks kk)) hls hl ho hi hk (kk _ _ hm) hv (.inr rfl) ?_
    intro S5 k5
    sizeOf_list_dec
    exact q _ ((Kp.kj kk).trans k5)
/-- a leaf whose columns' list is new -/
theorem leaf_ok2 (hp : Dk p S) (hQ : ∀ (L : Lf) d S', LvR S' p L d → (∃ q, d = .tup [L.d, .ref q] ∧ S.length ≤ q) → Ks [p] S S' → Dk p S' → Q d S') : w1 (den (k + 5) ._law_leaf) [.ref p] S Q := by
  have l0 := hp.lt
  have n1 : S.length ∉ [p] := by simp; omega
  have hne : p ≠ S.length := by omega
  have dr : ∀ {T : Sto}, Ks [p, S.length] S T → Ks [p] S T := fun h => (h.more (fs := [S.length, p]) (by simp)).drop (Nat.le_refl _)
  refine w_body ?_
  unfold b__law_leaf
  sizeOf_list_dec
  refine pick_ok (by decide) hp.app ?_
  intro r S1 r0 r1 k1 hp1
  have c0 : Cl S.length (S ++ [O.lst []]) 0 [] := ⟨[], lk_new, by simp, by simp⟩
  have c1 := c0.ks k1 n1
  have kk1 : Ks [p, S.length] S S1 := Ks.refl.app.trans (k1.more (by simp))
  generalize hb : (r == 0) = tx
  sizeOf_list_dec
  rw [hb]
  refine pick_ok (by decide) hp1 ?_
  intro r2 S2 r20 r21 k2 hp2
  have c2 := c1.ks k2 n1
  have kk2 := kk1.trans (k2.more (by simp))
  sizeOf_list_dec
  refine iff_b (fun _ => ?_) (fun _ => ?_)
  · sizeOf_list_dec
    refine expr_ok (tx := tx) hp2 c2 (by omega) hne ?_
    intro t S3 ht hh k3 hp3 c3
    sizeOf_list_dec
    exact hQ (.null t) _ S3 ⟨S.length, rfl, ⟨⟨tx, ht⟩, hh⟩, by omega, c3.same (by omega) fun x => by simp [Lf.cols]⟩ ⟨_, rfl, Nat.le_refl _⟩ (dr (kk2.trans k3)) hp3
  · sizeOf_list_dec
    refine expr_ok (tx := tx) hp2 c2 (by omega) hne ?_
    intro t S3 ht hh k3 hp3 c3
    sizeOf_list_dec
    refine expr_ok (tx := tx) hp3 c3 (by omega) hne ?_
    intro t2 S4 ht2 hh2 k4 hp4 c4
    sizeOf_list_dec
    have l4 := c4.lt
    refine pick_ok (by decide) hp4.app ?_
    intro r3 S5 r30 r31 k5 hp5
    sizeOf_list_dec
    refine ⟨k5.at_ _ _ (by simp; have := hp4.lt; omega) lk_new, ?_⟩
    obtain ⟨x, hx, hm⟩ := at_in (xs := [D.str "=", .str "<>", .str "<", .str "<=", .str ">", .str ">="]) r30 (by simpa using r31)
    refine ⟨x, hx, ?_⟩
    have hw : ∃ z, x = .str z ∧ z ∈ ops := by
      simp at hm
      rcases hm with h | h | h | h | h | h <;> exact ⟨_, h, by simp [ops]⟩
    obtain ⟨z, rfl, hz⟩ := hw
    sizeOf_list_dec
    exact hQ (.cmp z t t2) _ S5 ⟨S.length, rfl, ⟨hz, ⟨tx, ht, ht2⟩, hh, hh2⟩, by omega, (c4.app.ks k5 n1).same (by omega) fun x => by simp [Lf.cols]⟩ ⟨_, rfl, Nat.le_refl _⟩ (dr (((kk2.trans k3).trans k4).app.trans (k5.more (by simp)))) hp5
theorem LvR.kj {S' : Sto} {L : Lf} {d : D} (h : LvR S p L d) (k : Kj S S') : LvR S' p L d := by
  obtain ⟨q, e, o, n, cs, a, b, c⟩ := h
  exact ⟨q, e, o, n, cs, k _ _ a rfl, b, c⟩
theorem LvRs.kj {S' : Sto} (k : Kj S S') : ∀ {ls : List Lf} {ds : List D}, LvRs S p ls ds → LvRs S' p ls ds
  | [], [], _ => trivial
  | _ :: _, _ :: _, ⟨a, b⟩ => ⟨a.kj k, LvRs.kj k b⟩
theorem LvRs.put {u : O} : ∀ {ls : List Lf} {ds : List D}, LvRs S p ls ds → (∀ d ∈ ds, ∃ x q, d = .tup [x, .ref q] ∧ q ≠ n) → LvRs (S.set n u) p ls ds
  | [], [], _, _ => trivial
  | _ :: _, d :: _, ⟨⟨q, e, o, nq, cs, a, b⟩, t⟩, h => by
    obtain ⟨x, q', e', ne⟩ := h d (by simp)
    rw [e] at e'
    have e2 := D.tup.inj e'
    simp only [List.cons.injEq, D.ref.injEq, and_true] at e2
    obtain ⟨_, rfl⟩ := e2
    exact ⟨⟨q, e, o, nq, cs, lk_ne ne a, b⟩, LvRs.put t fun d hd => h d (by simp [hd])⟩
theorem LvRs.snoc {L : Lf} {d : D} : ∀ {ls : List Lf} {ds : List D}, LvRs S p ls ds → LvR S p L d → LvRs S p (ls ++ [L]) (ds ++ [d])
  | [], [], _, h => ⟨h, trivial⟩
  | _ :: _, _ :: _, ⟨a, b⟩, h => ⟨a, b.snoc h⟩
theorem LvRs.oks : ∀ {ls : List Lf} {ds : List D}, LvRs S p ls ds → (∀ L ∈ ls, L.ok) ∧ ds.map headD = ls.map Lf.d ∧ ∀ x ∈ ds, ∃ y ys, x = .tup (y :: ys)
  | [], [], _ => ⟨by simp, rfl, by simp⟩
  | L :: ls, d :: ds, ⟨⟨q, e, o, _⟩, t⟩ => by
    obtain ⟨a, b, c⟩ := t.oks
    subst e
    refine ⟨fun x hx => ?_, by simp [headD, b], fun x hx => ?_⟩
    · rcases memC hx with rfl | hx
      · exact o
      · exact a x hx
    · rcases memC hx with rfl | hx
      · exact ⟨_, _, rfl⟩
      · exact c x hx
theorem Dk.kj {S' : Sto} (h : Dk p S) (k : Kj S S') : Dk p S' := let ⟨ns, e⟩ := h; ⟨ns, k _ _ e rfl⟩
theorem good : Good := by
  intro ns hns
  have main : w1 (den 100 .law) [.rl (ns.map D.int)] [] fun d _ => d = .bl true := by
    refine w_body ?_
    unfold b_law
    sizeOf_list_dec
    refine deck_ok hns ?_
    intro p S0 _ hp0 _
    sizeOf_list_dec
    refine ⟨⟨by decide, by decide⟩, ?_⟩
    refine for_rng (N := 3) (fun j γ T => ∃ x2 x3 x4 x5 x6 x7 x8, γ = [some (.rl (ns.map D.int)), some (.ref p), x2, x3, x4, x5, x6, x7, x8] ∧ Dk p T) ?_ ?_ ⟨_, _, _, _, _, _, _, rfl, hp0⟩
    · rintro j γ T hj ⟨x2, x3, x4, x5, x6, x7, x8, rfl, hp⟩
      sizeOf_list_dec
      refine pick_ok (by decide) hp ?_
      intro r T1 r0 r1 k1 hp1
      obtain ⟨r, rfl⟩ := nat_of r0
      sizeOf_list_dec
      refine ⟨⟨by omega, by omega⟩, ?_⟩
      rw [show (1 + (r : Int)).toNat = r + 1 by omega]
      have lp1 := hp1.lt
      refine comp_rng (fun i acc T => Dk p T ∧ (∀ d ∈ acc, ∃ x q, d = .tup [x, .ref q] ∧ q ≠ T1.length) ∧ ∃ ls : List Lf, ls.length = i ∧ LvRs T p ls acc) ?_ ?_ (by omega) lk_new ⟨hp1.app, by simp, [], rfl, trivial⟩
      · rintro i acc T2 hi ha hT2 ⟨hp2, hacc, ls, hl, hls⟩
        have lT := lt_of hT2
        sizeOf_list_dec
        refine leaf_ok2 hp2 ?_
        rintro L d T3 hL ⟨q', rfl, hq'⟩ k3 hp3
        have hacc' : ∀ d ∈ acc ++ [.tup [L.d, .ref q']], ∃ x q, d = .tup [x, .ref q] ∧ q ≠ T1.length := fun d hd => by
          rcases memA hd with hd | hd
          · exact hacc d hd
          · simp at hd; subst hd; exact ⟨_, _, rfl, by omega⟩
        refine ⟨k3.at_ _ _ (by simp; omega) hT2, hp3.set (by omega), hacc', ls ++ [L], by simp [hl], LvRs.put ((hls.ks k3).snoc hL) hacc'⟩
      · rintro acc T2 ha hT2 ⟨hp2, hacc, ls, hl, hls⟩
        obtain ⟨o1, o2, o3⟩ := LvRs.oks hls
        sizeOf_list_dec
        refine joined_ok hp2 hT2 o2 o3 (by omega) (by omega) (by omega) ?_
        intro b T3 hb hh hi k3 hp3
        have hn3 := k3.at_ _ _ (by simp; omega) hT2
        have hls3 := hls.ks k3
        have ln3 := lt_of hn3
        sizeOf_list_dec
        refine values_ok (w := 9) hp3 ?_
        intro rc T4 vs k4 hp4 hc4 lc4 hv
        sizeOf_list_dec
        refine at_values_ok (k := 59) (k4.at_ _ _ (by simp; omega) hn3) (hls3.ks k4) o1 (by omega) hb hi hh hc4 hv (.inl rfl) ?_
        intro T5 k5
        have hn5 := k5 _ _ (k4.at_ _ _ (by simp; omega) hn3) rfl
        have hls5 := LvRs.kj k5 (hls3.ks k4)
        have hp5 := Dk.kj hp4 k5
        sizeOf_list_dec
        refine iff_f ?_
        sizeOf_list_dec
        refine pick_ok (by decide) hp5 ?_
        intro one T6 _ _ k6 hp6
        have hn6 := k6.at_ _ _ (by simp; omega) hn5
        have hls6 := hls5.ks k6
        sizeOf_list_dec
        refine ⟨⟨by decide, by decide⟩, ?_⟩
        refine for_rng (N := 5) (fun j γ T => ∃ x6 x7, γ = [some (.rl (ns.map D.int)), some (.ref p), some (.int _), some (.ref T1.length), some (.tup [b.tree (fOf ls), b.bone]), some (.int one), x6, x7, x8] ∧ Dk p T ∧ T[T1.length]? = some (.lst acc) ∧ LvRs T p ls acc) ?_ ?_ ⟨_, _, rfl, hp6, hn6, hls6⟩
        · rintro w γ T7 hw ⟨y6, y7, rfl, hp7, hn7, hls7⟩
          have ln7 := lt_of hn7
          have lp7 := hp7.lt
          have fin : ∀ (T8 : Sto) (rc : Nat) (vs : Nat → D), Dk p T8 → T8[T1.length]? = some (.lst acc) → LvRs T8 p ls acc → T8[rc]? = some (.dn false (kv vs 12)) → (∀ i, i < 12 → cellOk w (i / 3) (i % 3) (vs i)) → ∀ (Q : D → Sto → Prop), (∀ T', Dk p T' → T'[T1.length]? = some (.lst acc) → LvRs T' p ls acc → Q (.bl true) T') → w1 (den 99 ._law_unit) [b.tree (fOf ls), b.bone, .ref T1.length, .int w, .ref rc] T8 Q := by
            intro T8 rc vs hp8 hn8 hls8 hc8 hv8 Q hQ
            refine unit_ok (k := 58) hn8 hls8 o1 (by omega) hb hi hh hc8 hv8 ?_
            intro T9 k9
            exact hQ T9 (Dk.kj hp8 k9) (k9 _ _ hn8 rfl) (LvRs.kj k9 hls8)
          sizeOf_list_dec
          refine iff_b (fun _ => ?_) (fun _ => ?_)
          · sizeOf_list_dec
            refine values_ok (w := w) hp7 ?_
            intro rc T8 vs k8 hp8 hc8 lc8 hv8
            sizeOf_list_dec
            refine fin T8 rc vs hp8 (k8.at_ _ _ (by simp; omega) hn7) (hls7.ks k8) hc8 hv8 _ ?_
            intro T9 hp9 hn9 hls9
            sizeOf_list_dec
            refine iff_f ?_
            sizeOf_list_dec
            exact ⟨_, _, rfl, hp9, hn9, hls9⟩
          · sizeOf_list_dec
            refine values_ok (w := w) (p := T7.length) ⟨[], lk_new⟩ ?_
            intro rc T8 vs k8 hp8 hc8 lc8 hv8
            have k8' : Kp T7 T8 := fun i o e => k8.at_ i o (by have := lt_of e; simp; omega) (lk_app e)
            sizeOf_list_dec
            refine fin T8 rc vs (hp7.ks (Kp.ks (es := []) k8') (by simp)) (k8' _ _ hn7) (hls7.ks (Kp.ks k8')) hc8 hv8 _ ?_
            intro T9 hp9 hn9 hls9
            sizeOf_list_dec
            refine iff_f ?_
            sizeOf_list_dec
            exact ⟨_, _, rfl, hp9, hn9, hls9⟩
        · rintro γ T7 ⟨y6, y7, rfl, hp7, hn7, hls7⟩
          exact .nx ⟨_, _, _, _, _, _, _, rfl, hp7⟩
    · rintro γ T ⟨x2, x3, x4, x5, x6, x7, x8, rfl, hp⟩
      sizeOf_list_dec
      rfl
  obtain ⟨d, S, e, rfl⟩ := main
  exact ⟨S, e⟩
end
end Gn
set_option maxHeartbeats 4000000 -- wide
namespace Gn
open L2 PyProof.Rows PySem PySem.Spec Ml
theorem walk (good : Good) {l : PySem.W.OpenLaw} {q : Program} {loose : List Str} {XP : (Str → Option Value) → Heap → Prop} {YP : World → Heap → Prop} {d : DefRec} (hn : l.most = some 63) (hdf : d.params.defaults = []) (hd : d.name = "law")
    (F : ∀ (w : World) (mg : Str → Option Value) (h : Heap), YP w h → h.Ns mainGlobals mg → ∃ (K1 : PySem.W.Frag) (T : Txt K1 w mg), K1.In h ∧ ∀ p ∈ T.cs, h.get? p.2 = some (PySem.W.tabObj #[]) ∧ K1.lookup p.2 = none ∧ PySem.W.CodeHd h p.1 p.2) :
    PySem.W.WalkO q loose XP YP l.row.toRowW d [] (fun g us => PySem.call g us) :=
  LamX.walk_ofTsE (n := 63) (k := 100) (x := "_law_script") (CX := fun _ => CX0) hn (by decide) hdf ⟨rfl, by decide, by decide⟩
    (fun w mg fa h Y G hfa => by
      rw [hd] at hfa
      obtain ⟨K1, T, X1, hT⟩ := F w mg h Y G
      have e := hfa.symm.trans (T.mg .law rfl)
      cases e
      refine ⟨K1, X1, T.fd .law, T.cs, spLaw K1 T.tb, fun p hp => (hT p hp).1, fun p hp => (hT p hp).2.1, fun p hp => (hT p hp).2.2, T.lawB, fun H a ns hl _ hH hS => ⟨a, ns, rfl, hl, fun p hp => ?_, hS, fun _ => rfl⟩, fun base _ _ hTB => fn_law ((all_ok T 100 base hTB).f .law rfl) good⟩
      have : p.1 ∈ T.cs.map (·.2) := by
        have h2 : p.1 ∈ T.tb.map (·.1) := List.mem_map.mpr ⟨p, hp, rfl⟩
        exact h2
      obtain ⟨p2, hp2, e⟩ := List.mem_map.mp this
      rw [← e]
      exact hH p2 hp2)
    fun _ _ _ _ _ z => z
abbrev R : PySem.W.OpenRow := PySem.W.OpenLaw.row PySem.Challenge.rw_leastplans_k35_possible_truths
abbrev hk : PySem.W.Hook := He.hookX 4 faL fnL tsL tfL exL
end Gn
open PySem PySem.Calls PySem.W PyProof.Rows
theorem PySem.Challenge.cw_leastplans_k35_possible_truths_holds : PySem.Challenge.rw_leastplans_k35_possible_truths.Holds := by
  w_on; o_law
  o_head Gn.hk
  case hw => w_witness2
  case hc =>
    refine Gn.walk Gn.good (l := PySem.Challenge.rw_leastplans_k35_possible_truths) rfl (by kernel_rfl) (by kernel_rfl) ?F
    intro w mg h Y G
    obtain ⟨K, KX, c⟩ := Y
    obtain ⟨T, hT⟩ := Gn.mk_txt KX G c
    exact ⟨K, T, KX, hT⟩

