import PyProof.Rows.All
import Wide.All
import OpenK.AllK
import Wide.FinOn
import HandS.Base
import HandS.Call
import HandS.List
import HandS.Comp
import HandS.Ends
import HandS.Dict
import HandS.Iter
import HandS.Text
import HandS.Words
import HandS.WordsList
import HandS.WordsDict
import HandS.Deep
import HandS.IsInst
import HandS.TupAny
import HandS.TupLe
import HandS.Wide
import HandS.Rev
import HandS.Style
import HandS.Conv
import KE.KDictKeyed
import HandS.Lambda
import HandS.Nested
import HandS.NestedK
import HandS.More
import HandS.RevTup
import KE.KDictList
import HandS.CallLocal
import HandS.EndTab
import KE.KNestM
import PySem.Challenge.RW_leastplans_k20_trees_gone_through
set_option Elab.async false
set_option linter.all false
set_option maxRecDepth 100000
/-! Ml: values by content, a store of what may change, and what a piece of a program computes over them. -/
namespace Ml
open L2 PyProof.Rows PySem PySem.Spec
/-- the written part, the program, the world -/
structure Kx where
  f : PySem.W.Frag
  p : Program
  w : World
  b : Heap
  t : List NdefX.NTab
abbrev kx (tb : List NdefX.NTab) (X : Cx) : Kx := ⟨X.K, X.prog, X.w, X.base, tb⟩
/-- a def within a def -/
structure NDef where
  name : Str
  qual : Str
  st : Stmt
  ps : List Str
  fr : List Str
abbrev NDef.nf (n : NDef) (cl : List (Str × Addr)) (c : Addr) : NdefX.NF := NdefX.NF.of n.st n.name n.qual cl c
/-- a value: what never changes by its content, what may change by its number in the store -/
inductive D where
  | non | bl (b : Bool) | int (i : Int) | str (z : Str) | tup (xs : List D) | rl (xs : List D) | ref (n : Nat) | gl (z : Str)
/-- what may change -/
inductive O : Type where
  | lst (xs : List D)
  | dk (kvs : List (Key × D))
  | dn (lk : Bool) (kvs : List (D × D))
  | ins (C : Addr) (fs : List (Str × D))
  | dkl (kvs : List (Key × D))
  | fn (id : Nat) (nd : NDef) (ws : List D)
  | junk
abbrev Sto := List O
abbrev Sl := List (Option D)
/-- a list that nothing changes (the script that a law is handed) -/
def RoL (K : PySem.W.Frag) (H : Hp) (a : Addr) (xs : List V) : Prop := (∃ o, H a = some (.frz o (.lst xs))) ∨ ∀ H' : Hp, SqL K H' a xs
theorem RoL.sq {K : PySem.W.Frag} {H : Hp} {a : Addr} {xs : List V} (h : RoL K H a xs) : SqL K H a xs := by
  rcases h with ⟨o, h⟩ | h
  · exact .inl (.inr ⟨o, h⟩)
  · exact h H
mutual
/-- v is the value d in the heap H, m telling where the store's things stand -/
def Rp (K : Kx) (H : Hp) (m : List Addr) : D → V → Prop
  | .non, v => v = .non
  | .bl b, v => v = .bl b
  | .int i, v => v = .int i
  | .str z, v => v = .str z
  | .tup xs, v => ∃ a vs, v = .ref a ∧ SqT K.f H a vs ∧ Rps K H m xs vs
  | .rl xs, v => ∃ a vs, v = .ref a ∧ RoL K.f H a vs ∧ Rps K H m xs vs
  | .ref n, v => ∃ a, m[n]? = some a ∧ v = .ref a
  | .gl z, v => ∃ a, v = .ref a ∧ PySem.W.nsIn K.f mainGlobals z = some (some (.ref a))
def Rps (K : Kx) (H : Hp) (m : List Addr) : List D → List V → Prop
  | [], vs => vs = []
  | x :: xs, vs => ∃ v r, vs = v :: r ∧ Rp K H m x v ∧ Rps K H m xs r
end
/-- later: more things, all tuples as they were -/
structure Ext0 (K : Kx) (H : Hp) (m : List Addr) (H' : Hp) (m' : List Addr) : Prop where
  pre : ∃ r, m' = m ++ r
  tup : ∀ a vs, SqT K.f H a vs → SqT K.f H' a vs
  rol : ∀ a vs, RoL K.f H a vs → RoL K.f H' a vs
/-- .. and what is locked stays as it is -/
structure Ext (K : Kx) (H : Hp) (m : List Addr) (H' : Hp) (m' : List Addr) : Prop extends Ext0 K H m H' m' where
  frz : ∀ a od u, H a = some (.frz od u) → H' a = some (.frz od u)
theorem Ext.refl {K H m} : Ext K H m H m := ⟨⟨⟨[], by simp⟩, fun _ _ h => h, fun _ _ h => h⟩, fun _ _ _ h => h⟩
theorem Ext0.trans {K H m H1 m1 H2 m2} (a : Ext0 K H m H1 m1) (b : Ext0 K H1 m1 H2 m2) : Ext0 K H m H2 m2 := by
  obtain ⟨⟨r, rfl⟩, t, u⟩ := a
  obtain ⟨⟨r', rfl⟩, t', u'⟩ := b
  exact ⟨⟨r ++ r', by simp⟩, fun x vs h => t' x vs (t x vs h), fun x vs h => u' x vs (u x vs h)⟩
theorem Ext.trans {K H m H1 m1 H2 m2} (a : Ext K H m H1 m1) (b : Ext K H1 m1 H2 m2) : Ext K H m H2 m2 := ⟨a.toExt0.trans b.toExt0, fun x o u h => b.frz x o u (a.frz x o u h)⟩
theorem Ext.get {K H m H' m'} (e : Ext K H m H' m') {n : Nat} {a : Addr} (h : m[n]? = some a) : m'[n]? = some a := by
  obtain ⟨⟨⟨r, rfl⟩, _⟩, _⟩ := e
  obtain ⟨hl, _⟩ := List.getElem?_eq_some_iff.mp h
  rw [List.getElem?_append_left hl]
  exact h
mutual
theorem Rp.mono0 {K H m H' m'} (e : Ext0 K H m H' m') : ∀ (d : D) (v : V), Rp K H m d v → Rp K H' m' d v
  | .non, v, h => by simpa [Rp] using h
  | .bl b, v, h => by simpa [Rp] using h
  | .int i, v, h => by simpa [Rp] using h
  | .str z, v, h => by simpa [Rp] using h
  | .tup xs, v, h => by
    rw [Rp] at h ⊢
    obtain ⟨a, vs, r, s, q⟩ := h
    exact ⟨a, vs, r, e.tup a vs s, Rps.mono0 e xs vs q⟩
  | .rl xs, v, h => by
    rw [Rp] at h ⊢
    obtain ⟨a, vs, r, s, q⟩ := h
    exact ⟨a, vs, r, e.rol a vs s, Rps.mono0 e xs vs q⟩
  | .ref n, v, h => by
    rw [Rp] at h ⊢
    obtain ⟨a, r, s⟩ := h
    obtain ⟨⟨z, rfl⟩, _⟩ := e
    obtain ⟨hl, _⟩ := List.getElem?_eq_some_iff.mp r
    exact ⟨a, by rw [List.getElem?_append_left hl]; exact r, s⟩
  | .gl z, v, h => by simpa [Rp] using h
theorem Rps.mono0 {K H m H' m'} (e : Ext0 K H m H' m') : ∀ (d : List D) (v : List V), Rps K H m d v → Rps K H' m' d v
  | [], v, h => by simpa [Rps] using h
  | x :: xs, v, h => by
    rw [Rps] at h ⊢
    obtain ⟨w, r, q, s, t⟩ := h
    exact ⟨w, r, q, Rp.mono0 e x w s, Rps.mono0 e xs r t⟩
end
theorem Rp.mono {K H m H' m'} (e : Ext K H m H' m') (d : D) (v : V) (h : Rp K H m d v) : Rp K H' m' d v := Rp.mono0 e.toExt0 d v h
theorem Rps.mono {K H m H' m'} (e : Ext K H m H' m') (d : List D) (v : List V) (h : Rps K H m d v) : Rps K H' m' d v := Rps.mono0 e.toExt0 d v h
section
variable {K : Kx} {H : Hp} {m : List Addr}
theorem Rps.length : ∀ {xs : List D} {vs : List V}, Rps K H m xs vs → vs.length = xs.length
  | [], vs, h => by rw [Rps] at h; subst h; rfl
  | x :: xs, vs, h => by
    rw [Rps] at h
    obtain ⟨w, r, rfl, _, t⟩ := h
    simp [Rps.length t]
theorem Rps.get : ∀ {xs : List D} {vs : List V} {i : Nat} {x : D}, Rps K H m xs vs → xs[i]? = some x → ∃ v, vs[i]? = some v ∧ Rp K H m x v
  | [], vs, i, x, h, e => by simp at e
  | y :: xs, vs, 0, x, h, e => by
    rw [Rps] at h
    obtain ⟨w, r, rfl, s, t⟩ := h
    simp at e; subst e
    exact ⟨w, rfl, s⟩
  | y :: xs, vs, i + 1, x, h, e => by
    rw [Rps] at h
    obtain ⟨w, r, rfl, s, t⟩ := h
    have e' : xs[i]? = some x := by simpa using e
    obtain ⟨v, a, b⟩ := Rps.get (i := i) t e'
    exact ⟨v, by simpa using a, b⟩
theorem Rps.getV {xs : List D} {vs : List V} {i : Nat} {v : V} (h : Rps K H m xs vs) (e : vs[i]? = some v) : ∃ x, xs[i]? = some x ∧ Rp K H m x v := by
  obtain ⟨hl, _⟩ := List.getElem?_eq_some_iff.mp e
  have hx : i < xs.length := by rw [← h.length]; exact hl
  obtain ⟨w, a, b⟩ := h.get (List.getElem?_eq_getElem hx)
  rw [a] at e; cases e
  exact ⟨_, List.getElem?_eq_getElem hx, b⟩
theorem Rps.append : ∀ {xs ys : List D} {vs ws : List V}, Rps K H m xs vs → Rps K H m ys ws → Rps K H m (xs ++ ys) (vs ++ ws)
  | [], ys, vs, ws, h, g => by rw [Rps] at h; subst h; exact g
  | x :: xs, ys, vs, ws, h, g => by
    rw [Rps] at h
    obtain ⟨w, r, rfl, s, t⟩ := h
    show Rps K H m (x :: (xs ++ ys)) _
    rw [Rps]
    exact ⟨w, r ++ ws, rfl, s, Rps.append t g⟩
theorem Rps.one {x : D} {v : V} (h : Rp K H m x v) : Rps K H m [x] [v] := by
  rw [Rps]; exact ⟨v, [], rfl, h, by rw [Rps]⟩
theorem Rps.cons {x : D} {v : V} {xs : List D} {vs : List V} (h : Rp K H m x v) (g : Rps K H m xs vs) : Rps K H m (x :: xs) (v :: vs) := by
  rw [Rps]; exact ⟨v, vs, rfl, h, g⟩
theorem Rps.nil : Rps K H m [] [] := by rw [Rps]
theorem Rps.take : ∀ (n : Nat) {xs : List D} {vs : List V}, Rps K H m xs vs → Rps K H m (xs.take n) (vs.take n)
  | 0, xs, vs, h => by simpa using Rps.nil
  | n + 1, [], vs, h => by rw [Rps] at h; subst h; simpa using Rps.nil
  | n + 1, x :: xs, vs, h => by
    rw [Rps] at h
    obtain ⟨w, r, rfl, s, t⟩ := h
    simpa using Rps.cons s (Rps.take n t)
theorem Rps.drop : ∀ (n : Nat) {xs : List D} {vs : List V}, Rps K H m xs vs → Rps K H m (xs.drop n) (vs.drop n)
  | 0, xs, vs, h => by simpa using h
  | n + 1, [], vs, h => by rw [Rps] at h; subst h; simpa using Rps.nil
  | n + 1, x :: xs, vs, h => by
    rw [Rps] at h
    obtain ⟨w, r, rfl, s, t⟩ := h
    simpa using Rps.drop n t
theorem Rps.reverse {xs : List D} {vs : List V} (h : Rps K H m xs vs) : Rps K H m xs.reverse vs.reverse := by
  induction xs generalizing vs with
  | nil => rw [Rps] at h; subst h; exact Rps.nil
  | cons x xs ih =>
    rw [Rps] at h
    obtain ⟨w, r, rfl, s, t⟩ := h
    rw [List.reverse_cons]; rw [List.reverse_cons]
    exact (ih t).append (Rps.one s)
theorem Rps.set {x : D} {v : V} (h : Rp K H m x v) : ∀ (n : Nat) {xs : List D} {vs : List V}, Rps K H m xs vs → Rps K H m (xs.set n x) (vs.set n v)
  | n, [], vs, g => by rw [Rps] at g; subst g; simpa using Rps.nil
  | 0, y :: xs, vs, g => by
    rw [Rps] at g
    obtain ⟨w, r, rfl, s, t⟩ := g
    simpa using Rps.cons h t
  | n + 1, y :: xs, vs, g => by
    rw [Rps] at g
    obtain ⟨w, r, rfl, s, t⟩ := g
    simpa using Rps.cons s (Rps.set h n t)
theorem Rps.rep {x : D} {v : V} (h : Rp K H m x v) : ∀ n : Nat, Rps K H m (List.replicate n x) (List.replicate n v)
  | 0 => Rps.nil
  | n + 1 => by rw [List.replicate_succ, List.replicate_succ]; exact Rps.cons h (Rps.rep h n)
end
/-- values by key -/
def Rkv {κ : Type} (K : Kx) (H : Hp) (m : List Addr) : List (κ × D) → List (κ × V) → Prop := Paired fun p q => p.1 = q.1 ∧ Rp K H m p.2 q.2
theorem Rkv.mono0 {κ : Type} {K H m H' m'} (e : Ext0 K H m H' m') {a : List (κ × D)} {b : List (κ × V)} (h : Rkv K H m a b) : Rkv K H' m' a b :=
  Paired.mapP h fun _ _ q => ⟨q.1, q.2.mono0 e⟩
theorem Rkv.mono {κ : Type} {K H m H' m'} (e : Ext K H m H' m') {a : List (κ × D)} {b : List (κ × V)} (h : Rkv K H m a b) : Rkv K H' m' a b := Rkv.mono0 e.toExt0 h
mutual
/-- a value as a key of a dict -/
def nk : D → Option NestedKey
  | .non => some .none
  | .bl b => some (.num (if b = true then 1 else 0))
  | .int i => some (.num i)
  | .str z => some (.text z)
  | .tup xs => match nks xs with
    | some ks => some (.tup ks)
    | none => none
  | .rl _ => none
  | .ref _ => none
  | .gl _ => none
def nks : List D → Option (List NestedKey)
  | [] => some []
  | x :: xs => match nk x, nks xs with
    | some k, some ks => some (k :: ks)
    | _, _ => none
end
/-- the object of a dict whose keys are tuples -/
def dnF (P : Program) (w : World) (a : Addr) (xs : List (NestedKey × Addr × V)) : Heap → Prop := fun h => (a == sysModules) = false ∧ xs.length ≤ sizeLine ∧
  ∃ ys : List (NestedKey × Addr × Value), Paired (fun (p : NestedKey × Addr × V) (q : NestedKey × Addr × Value) => p.1 = q.1 ∧ p.2.1 = q.2.1 ∧ RelV p.2.2 q.2.2) xs ys ∧
    ∃ o es ep, h.get? a = some o ∧ o.ExactDict ∧ o.data = .dict es ep ∧ es.toList = ys.map (entryOfKey (nestedKind P w)) ∧ (ys.map (·.1)).Nodup
/-- its entries -/
def Rdn (K : Kx) (H : Hp) (m : List Addr) : List (D × D) → List (NestedKey × Addr × V) → Prop :=
  Paired fun p q => nk p.1 = some q.1 ∧ q.1.depth ≤ 8 ∧ Rp K H m p.1 (.ref q.2.1) ∧ Rp K H m p.2 q.2.2
theorem Rdn.mono0 {K H m H' m'} (e : Ext0 K H m H' m') {a : List (D × D)} {b : List (NestedKey × Addr × V)} (h : Rdn K H m a b) : Rdn K H' m' a b :=
  Paired.mapP h fun _ _ q => ⟨q.1, q.2.1, q.2.2.1.mono0 e, q.2.2.2.mono0 e⟩
theorem Rdn.mono {K H m H' m'} (e : Ext K H m H' m') {a : List (D × D)} {b : List (NestedKey × Addr × V)} (h : Rdn K H m a b) : Rdn K H' m' a b := Rdn.mono0 e.toExt0 h
/-- no tuple -/
def NoTup : HO → Prop
  | .tup _ => False
  | .frz _ (.tup _) => False
  | .frz _ (.lst _) => False
  | .tbl _ => False
  | _ => True
/-- cells that hold these values, in the part of the heap that stays -/
structure CellsIn (b : Heap) (cl : List (Str × Addr)) (fr : List Str) (vs : List V) : Prop where
  inj : ∀ y z c, cl.lookup y = some c → cl.lookup z = some c → y = z
  all : ∀ y c, cl.lookup y = some c → ∃ v, b.IsCell c v
  len : vs.length = fr.length
  has : ∀ (i : Nat) (y : Str), fr[i]? = some y → ∃ c, cl.lookup y = some c ∧ ∀ v, vs[i]? = some v → ∃ u, RelV v u ∧ b.IsCell c (some u)
/-- what stands at a -/
def OR (K : Kx) (H : Hp) (m : List Addr) (a : Addr) : O → Prop
  | .lst xs => ∃ vs, H a = some (.lst vs) ∧ Rps K H m xs vs
  | .dk kvs => ∃ ws, H a = some (.dK ws) ∧ Rkv K H m kvs ws
  | .dn false kvs => ∃ xs, H a = some (.ext (dnF K.p K.w a xs)) ∧ Rdn K H m kvs xs
  | .dn true kvs => ∃ od xs, H a = some (.frz od (.ext (dnF K.p K.w a xs))) ∧ Rdn K H m kvs xs
  | .ins C fs => ∃ dx ws, H a = some (.ins C dx ws) ∧ Rkv K H m fs ws
  | .dkl kvs => ∃ od ws, H a = some (.frz od (.dK ws)) ∧ Rkv K H m kvs ws
  | .fn _ nd ws => ∃ cl c vs, H a = some (NdefX.FnO a (nd.nf cl c)) ∧ H c = some (LamX.CodeO c nd.qual) ∧ c ∉ m ∧ CellsIn K.b cl nd.fr vs ∧ Rps K H m ws vs
  | .junk => ∃ F : NdefX.NF, H a = some (NdefX.FnO a F)
/-- the tables of code objects, none of these in the store -/
def TbOk (t : List NdefX.NTab) (H : Hp) (m : List Addr) : Prop := ∀ p ∈ t, ∃ ps : Array Value, H p.1 = some (.tbl ps) ∧ TriplesOk ps.toList ∧
  ∀ (pos : Pos) (cv : Value), codeAmong pos ps.toList = some cv → ∃ c, cv = .ref c ∧ H c = some (LamX.CodeO c (p.2 pos.line pos.col)) ∧ c ∉ m
/-- the store S stands at m -/
structure SR (K : Kx) (H : Hp) (m : List Addr) (S : Sto) : Prop where
  tb : TbOk K.t H m
  len : m.length = S.length
  nd : m.Nodup
  at_ : ∀ (n : Nat) (a : Addr) (o : O), m[n]? = some a → S[n]? = some o → OR K H m a o
theorem OR.there {K H m a o} (h : OR K H m a o) : ∃ u, H a = some u ∧ NoTup u := by
  cases o with
  | lst xs => obtain ⟨vs, e, _⟩ := h; exact ⟨_, e, trivial⟩
  | dk kvs => obtain ⟨vs, e, _⟩ := h; exact ⟨_, e, trivial⟩
  | dn lk kvs =>
    cases lk with
    | false => obtain ⟨xs, e, _⟩ := h; exact ⟨_, e, trivial⟩
    | true => obtain ⟨od, xs, e, _⟩ := h; exact ⟨_, e, trivial⟩
  | ins C fs => obtain ⟨dx, ws, e, _⟩ := h; exact ⟨_, e, trivial⟩
  | dkl kvs => obtain ⟨od, ws, e, _⟩ := h; exact ⟨_, e, trivial⟩
  | fn i nd ws => obtain ⟨_, _, _, e, _⟩ := h; exact ⟨_, e, True.intro⟩
  | junk => obtain ⟨_, e⟩ := h; exact ⟨_, e, True.intro⟩
theorem SR.addr {K H m S} (h : SR K H m S) {n : Nat} {o : O} (e : S[n]? = some o) : ∃ a, m[n]? = some a ∧ OR K H m a o := by
  obtain ⟨hl, _⟩ := List.getElem?_eq_some_iff.mp e
  have hm : n < m.length := by rw [h.len]; exact hl
  exact ⟨m[n], List.getElem?_eq_getElem hm, h.at_ n _ o (List.getElem?_eq_getElem hm) e⟩
/-- tuples stay -/
theorem sqT_new {K : Kx} {H : Hp} {p : Addr} {o : HO} (hp : H p = none) {a : Addr} {vs : List V} (h : SqT K.f H a vs) : SqT K.f (upd H p o) a vs := by
  rcases h with (h | ⟨ob, h⟩) | h
  · exact .inl (.inl (by rw [upd_ne (ne_of_none h hp)]; exact h))
  · exact .inl (.inr ⟨ob, by rw [upd_ne (ne_of_none h hp)]; exact h⟩)
  · exact .inr h
theorem sqT_upd {K : Kx} {H : Hp} {p : Addr} {o u : HO} (hp : H p = some u) (hm : NoTup u) {a : Addr} {vs : List V} (h : SqT K.f H a vs) : SqT K.f (upd H p o) a vs := by
  have ne : ∀ {w : HO}, H a = some w → ¬ NoTup w → a ≠ p := fun {w} e n z => by subst z; rw [e] at hp; cases hp; exact n hm
  rcases h with (h | ⟨ob, h⟩) | h
  · exact .inl (.inl (by rw [upd_ne (ne h fun z => z)]; exact h))
  · exact .inl (.inr ⟨ob, by rw [upd_ne (ne h fun z => z)]; exact h⟩)
  · exact .inr h
/-- neither a tuple nor locked -/
def Free : HO → Prop
  | .tup _ => False
  | .frz _ _ => False
  | .tbl _ => False
  | _ => True
theorem Free.noTup {u : HO} (h : Free u) : NoTup u := by cases u <;> first | exact h | exact trivial | exact h.elim
theorem rol_new {K : Kx} {H : Hp} {p : Addr} {o : HO} (hp : H p = none) {a : Addr} {vs : List V} (h : RoL K.f H a vs) : RoL K.f (upd H p o) a vs := by
  rcases h with ⟨ob, h⟩ | h
  · exact .inl ⟨ob, by rw [upd_ne (ne_of_none h hp)]; exact h⟩
  · exact .inr h
theorem rol_upd {K : Kx} {H : Hp} {p : Addr} {o u : HO} (hp : H p = some u) (hm : NoTup u) {a : Addr} {vs : List V} (h : RoL K.f H a vs) : RoL K.f (upd H p o) a vs := by
  rcases h with ⟨ob, h⟩ | h
  · exact .inl ⟨ob, by rw [upd_ne (fun z => by subst z; rw [h] at hp; cases hp; exact hm)]; exact h⟩
  · exact .inr h
theorem Ext.new {K H m} {p : Addr} {o : HO} (hp : H p = none) : Ext K H m (upd H p o) m := ⟨⟨⟨[], by simp⟩, fun _ _ h => sqT_new hp h, fun _ _ h => rol_new hp h⟩, fun a od u h => by rw [upd_ne (ne_of_none h hp)]; exact h⟩
theorem Ext.newM {K H m} {p : Addr} {o : HO} (hp : H p = none) : Ext K H m (upd H p o) (m ++ [p]) := ⟨⟨⟨[p], rfl⟩, fun _ _ h => sqT_new hp h, fun _ _ h => rol_new hp h⟩, fun a od u h => by rw [upd_ne (ne_of_none h hp)]; exact h⟩
theorem Ext0.upd {K H m} {p : Addr} {o u : HO} (hp : H p = some u) (hm : NoTup u) : Ext0 K H m (upd H p o) m := ⟨⟨[], by simp⟩, fun _ _ h => sqT_upd hp hm h, fun _ _ h => rol_upd hp hm h⟩
theorem Ext.upd {K H m} {p : Addr} {o u : HO} (hp : H p = some u) (hm : Free u) : Ext K H m (upd H p o) m :=
  ⟨Ext0.upd hp hm.noTup, fun a od w h => by rw [upd_ne fun z => by subst z; rw [h] at hp; cases hp; exact hm]; exact h⟩
theorem OR.moved {K H m H' m' a o} (e : Ext0 K H m H' m') (h : OR K H m a o) (k : ∀ u, H a = some u → H' a = some u) (kc : ∀ c u, c ∉ m → H c = some u → H' c = some u ∧ c ∉ m' := by intro _ _ z w; exact ⟨w, z⟩) : OR K H' m' a o := by
  cases o with
  | lst xs => obtain ⟨vs, q, r⟩ := h; exact ⟨vs, k _ q, r.mono0 e⟩
  | dk kvs => obtain ⟨vs, q, r⟩ := h; exact ⟨vs, k _ q, r.mono0 e⟩
  | dn lk kvs =>
    cases lk with
    | false => obtain ⟨xs, q, r⟩ := h; exact ⟨xs, k _ q, r.mono0 e⟩
    | true => obtain ⟨od, xs, q, r⟩ := h; exact ⟨od, xs, k _ q, r.mono0 e⟩
  | ins C fs => obtain ⟨dx, ws, q, r⟩ := h; exact ⟨dx, ws, k _ q, r.mono0 e⟩
  | dkl kvs => obtain ⟨od, ws, q, r⟩ := h; exact ⟨od, ws, k _ q, r.mono0 e⟩
  | fn i nd ws =>
    obtain ⟨cl, c, vs, q, r, z, w, x⟩ := h
    exact ⟨cl, c, vs, k _ q, (kc _ _ z r).1, (kc _ _ z r).2, w, x.mono0 e⟩
  | junk => obtain ⟨F, q⟩ := h; exact ⟨F, k _ q⟩
theorem TbOk.moved {t H m H' m'} (h : TbOk t H m) (k : ∀ P ps, H P = some (.tbl ps) → H' P = some (.tbl ps)) (kc : ∀ c u, c ∉ m → H c = some u → H' c = some u ∧ c ∉ m') : TbOk t H' m' := fun p hp => by
  obtain ⟨ps, h1, h2, h3⟩ := h p hp
  refine ⟨ps, k _ _ h1, h2, fun pos cv e => ?_⟩
  obtain ⟨c, e1, e2, e3⟩ := h3 pos cv e
  exact ⟨c, e1, (kc _ _ e3 e2).1, (kc _ _ e3 e2).2⟩
theorem SR.none {K H m S} (h : SR K H m S) {p : Addr} (hp : H p = Option.none) : p ∉ m := fun hm => by
  obtain ⟨n, hl, e⟩ := List.getElem_of_mem hm
  have hS : n < S.length := by rw [← h.len]; exact hl
  obtain ⟨u, q, _⟩ := (h.at_ n p S[n] (by rw [List.getElem?_eq_getElem hl, e]) (List.getElem?_eq_getElem hS)).there
  rw [hp] at q; cases q
/-- a new tuple (or anything that the store doesn't tell) -/
theorem SR.new {K H m S} (h : SR K H m S) {p : Addr} {o : HO} (hp : H p = Option.none) : SR K (upd H p o) m S :=
  have k : ∀ (b : Addr) (u : HO), H b = some u → upd H p o b = some u := fun b u q => by rw [upd_ne (ne_of_none q hp)]; exact q
  ⟨h.tb.moved (fun _ _ q => k _ _ q) fun _ _ z q => ⟨k _ _ q, z⟩, h.len, h.nd, fun n a u e1 e2 => (h.at_ n a u e1 e2).moved (Ext.new hp).toExt0 (fun w q => k _ _ q) fun _ _ z q => ⟨k _ _ q, z⟩⟩
/-- a new thing of the store -/
theorem SR.newM {K H m S} (h : SR K H m S) {p : Addr} {o : HO} {u : O} (hp : H p = Option.none) (new : OR K (upd H p o) (m ++ [p]) p u) : SR K (upd H p o) (m ++ [p]) (S ++ [u]) := by
  have kc : ∀ (c : Addr) (x : HO), c ∉ m → H c = some x → upd H p o c = some x ∧ c ∉ m ++ [p] := fun c x z q => ⟨by rw [upd_ne (ne_of_none q hp)]; exact q, fun y => by
    rcases List.mem_append.mp y with y | y
    · exact z y
    · have : c = p := by simpa using y
      rw [this, hp] at q; cases q⟩
  refine ⟨h.tb.moved (fun P ps q => by rw [upd_ne (ne_of_none q hp)]; exact q) kc, by simp [h.len], ?_, fun n a w e1 e2 => ?_⟩
  · rw [List.nodup_append]
    refine ⟨h.nd, by simp, fun a ha b hb z => ?_⟩
    have : b = p := by simpa using hb
    subst this; subst z
    exact h.none hp ha
  · by_cases hn : n < m.length
    · rw [List.getElem?_append_left hn] at e1
      rw [List.getElem?_append_left (by rw [← h.len]; exact hn)] at e2
      exact (h.at_ n a w e1 e2).moved (Ext.newM hp).toExt0 (fun x q => by rw [upd_ne (ne_of_none q hp)]; exact q) kc
    · have hn' : m.length ≤ n := Nat.le_of_not_lt hn
      rw [List.getElem?_append_right hn'] at e1
      rw [List.getElem?_append_right (by rw [← h.len]; exact hn')] at e2
      rw [h.len] at e1
      cases q : n - S.length with
      | zero =>
        rw [q] at e1 e2
        simp at e1 e2
        subst e1; subst e2
        exact new
      | succ k =>
        rw [q] at e1
        simp at e1
/-- a thing of the store is changed -/
theorem SR.upd {K H m S} (h : SR K H m S) {n : Nat} {p : Addr} {o : HO} {u : O} (hn : m[n]? = some p) (hl : n < S.length) (new : OR K (L2.upd H p o) m p u) : SR K (L2.upd H p o) m (S.set n u) := by
  obtain ⟨w, hw, hm⟩ := (h.at_ n p S[n] hn (List.getElem?_eq_getElem hl)).there
  have kc : ∀ (c : Addr) (x : HO), c ∉ m → H c = some x → L2.upd H p o c = some x ∧ c ∉ m := fun c x z q => ⟨by rw [upd_ne fun y => by subst y; exact z (List.mem_of_getElem? hn)]; exact q, z⟩
  have kt : ∀ (P : Addr) (ps : Array Value), H P = some (.tbl ps) → L2.upd H p o P = some (.tbl ps) := fun P ps q => by
    rw [upd_ne fun y => by subst y; rw [hw] at q; cases q; exact hm]; exact q
  refine ⟨h.tb.moved kt kc, by simp [h.len], h.nd, fun k a x e1 e2 => ?_⟩
  by_cases hk : k = n
  · subst hk
    rw [hn] at e1; cases e1
    rw [List.getElem?_set_self hl] at e2; cases e2
    exact new
  · rw [List.getElem?_set_ne (Ne.symm hk)] at e2
    have ne : a ≠ p := fun z => hk (nd_ix h.nd e1 (z ▸ hn))
    exact (h.at_ k a x e1 e2).moved (Ext0.upd hw hm) (fun y q => by rw [upd_ne ne]; exact q) kc
/-- the slots -/
structure SLR (K : Kx) (H : Hp) (m : List Addr) (γ : Sl) (σ : L2.St) : Prop where
  len : γ.length = σ.length
  at_ : ∀ (i : Nat) (d : D), γ[i]? = some (some d) → ∃ v, σ[i]? = some (some v) ∧ Rp K H m d v
theorem SLR.mono {K H m H' m' γ σ} (e : Ext K H m H' m') (h : SLR K H m γ σ) : SLR K H' m' γ σ :=
  ⟨h.len, fun i d q => let ⟨v, a, b⟩ := h.at_ i d q; ⟨v, a, b.mono e⟩⟩
theorem SLR.set {K H m γ σ} (h : SLR K H m γ σ) {i : Nat} {d : D} {v : V} (r : Rp K H m d v) : SLR K H m (γ.set i (some d)) (σ.set i (some v)) := by
  refine ⟨by simp [h.len], fun j e q => ?_⟩
  by_cases hj : j = i
  · subst hj
    have hl : j < γ.length := by
      have := (List.getElem?_eq_some_iff.mp q).1
      simpa using this
    rw [List.getElem?_set_self hl] at q
    cases q
    exact ⟨v, List.getElem?_set_self (by rw [← h.len]; exact hl), r⟩
  · rw [List.getElem?_set_ne (Ne.symm hj)] at q ⊢
    exact h.at_ j e q
theorem SLR.forget {K H m γ σ} (h : SLR K H m γ σ) {i : Nat} : SLR K H m (γ.set i none) (σ.set i none) := by
  refine ⟨by simp [h.len], fun j e q => ?_⟩
  by_cases hj : j = i
  · subst hj
    have hl : j < γ.length := by
      have := (List.getElem?_eq_some_iff.mp q).1
      simpa using this
    rw [List.getElem?_set_self hl] at q
    cases q
  · rw [List.getElem?_set_ne (Ne.symm hj)] at q ⊢
    exact h.at_ j e q
end Ml
namespace Ml
open L2 PyProof.Rows PySem PySem.Spec
abbrev EvM := Sl → Sto → Option (D × Sto)
abbrev CvM := Sl → Sto → Option (Bool × Sto)
abbrev AvM := Sl → Sto → Option (List D × Sto)
/-- what is wanted of a value and the store behind it -/
abbrev Fin (K : Kx) (H : Hp) (m : List Addr) (S' : Sto) (d : D) (Q : VK) : Prop :=
  ∀ w H' m', Ext K H m H' m' → SR K H' m' S' → Rp K H' m' d w → Q w H'
def tM (K : Kx) (e : EvM) : TE := fun σ H Q => ∃ m S γ d S', SR K H m S ∧ SLR K H m γ σ ∧ e γ S = some (d, S') ∧ Fin K H m S' d Q
def tTM (K : Kx) (c : CvM) : TT := fun σ H Q => ∃ m S γ b S', SR K H m S ∧ SLR K H m γ σ ∧ c γ S = some (b, S') ∧ ∀ H' m', Ext K H m H' m' → SR K H' m' S' → Q b H'
def tAM (K : Kx) (e : AvM) : TA := fun σ H Q => ∃ m S γ ds S', SR K H m S ∧ SLR K H m γ σ ∧ e γ S = some (ds, S') ∧ ∀ vs H' m', Ext K H m H' m' → SR K H' m' S' → Rps K H' m' ds vs → Q vs H'
section
variable {tb : List NdefX.NTab} {X : Cx}
theorem PE.imp {e : Expr} {t t' : TE} (h : PE X e t) (hi : ∀ σ H Q, t' σ H Q → t σ H Q) : PE X e t' := ⟨fun pins s σ H Q I q => h.run pins s σ H Q I (hi σ H Q q)⟩
theorem PT.imp {e : Expr} {t t' : TT} (h : PT X e t) (hi : ∀ σ H Q, t' σ H Q → t σ H Q) : PT X e t' := ⟨fun pins s σ H Q I q => h.run pins s σ H Q I (hi σ H Q q)⟩
theorem PW.imp {e : Expr} {t t' : TT} (h : PW X e t) (hi : ∀ σ H Q, t' σ H Q → t σ H Q) : PW X e t' := ⟨fun wh pins s σ H Q I q => h.run wh pins s σ H Q I (hi σ H Q q)⟩
theorem PA.imp {e : List Expr} {t t' : TA} (h : PA X e t) (hi : ∀ σ H Q, t' σ H Q → t σ H Q) : PA X e t' := ⟨fun pos pins s σ H Q I q => h.run pos pins s σ H Q I (hi σ H Q q)⟩
theorem PK.imp {e : List Keyword} {t t' : TA} (h : PK X e t) (hi : ∀ σ H Q, t' σ H Q → t σ H Q) : PK X e t' := ⟨fun pos pins s σ H Q I q => h.run pos pins s σ H Q I (hi σ H Q q)⟩
theorem PS.imp {e : Stmt} {t t' : TS} (h : PS X e t) (hi : ∀ D σ H, t' D σ H → t D σ H) : PS X e t' := ⟨fun pins s σ H D I q => h.run pins s σ H D I (hi D σ H q)⟩
theorem PSs.imp {e : List Stmt} {t t' : TS} (h : PSs X e t) (hi : ∀ D σ H, t' D σ H → t D σ H) : PSs X e t' := ⟨fun pins s σ H D I q => h.run pins s σ H D I (hi D σ H q)⟩
abbrev ME (tb : List NdefX.NTab) (X : Cx) (e : Expr) (m : EvM) : Prop := PE X e (tM (kx tb X) m)
abbrev MT (tb : List NdefX.NTab) (X : Cx) (e : Expr) (m : CvM) : Prop := PT X e (tTM (kx tb X) m)
abbrev MW (tb : List NdefX.NTab) (X : Cx) (e : Expr) (m : CvM) : Prop := PW X e (tTM (kx tb X) m)
abbrev MA (tb : List NdefX.NTab) (X : Cx) (e : List Expr) (m : AvM) : Prop := PA X e (tAM (kx tb X) m)
abbrev MK (tb : List NdefX.NTab) (X : Cx) (e : List Keyword) (m : AvM) : Prop := PK X e (tAM (kx tb X) m)
variable {K : Kx} {a b c : Expr} {ea eb ec : EvM} {pos : Pos}
/-! ### names, constants -/
def varM (i : Nat) : EvM := fun γ S => match γ[i]? with
  | some (some d) => some (d, S)
  | _ => none
def conM (d : D) : EvM := fun _ S => some (d, S)
theorem me_var (i : Nat) {x : Str} {p : Pos} (hN : X.N[i]? = some x := by rfl) (hv : Vis X.env.scope x := by first | exact Or.inl rfl | exact Or.inr (Or.inl rfl) | exact Or.inr (Or.inr rfl)) (hd : (x == ("__debug__" : Str)) = false := by decide)
    (hcd : (x == ("__classdict__" : Str)) = false := by decide) : ME tb X (.Name x p) (varM i) := by
  refine PE.imp (pe_var hN hv hd hcd) fun σ H Q h => ?_
  obtain ⟨m, S, γ, d, S', hS, hγ, e, q⟩ := h
  unfold varM at e
  split at e
  · rename_i d' hd'
    cases e
    obtain ⟨v, h1, h2⟩ := hγ.at_ i _ hd'
    exact ⟨v, h1, q v H m .refl hS h2⟩
  · cases e
theorem me_con {e : Expr} {v : V} {d : D} (h : PE X e (tC v)) (hr : ∀ H m, Rp (kx tb X) H m d v) : ME tb X e (conM d) := by
  refine PE.imp h fun σ H Q h => ?_
  obtain ⟨m, S, γ, d', S', hS, hγ, e, q⟩ := h
  cases e
  exact q v H m .refl hS (hr H m)
theorem me_int {i j p} : ME tb X (.Constant (.int i) j p) (conM (.int i)) := me_con pe_int fun _ _ => by rw [Rp]
theorem me_bl {i j p} : ME tb X (.Constant (.bool i) j p) (conM (.bl i)) := me_con pe_bl fun _ _ => by rw [Rp]
theorem me_non {j p} : ME tb X (.Constant .none j p) (conM .non) := me_con pe_non fun _ _ => by rw [Rp]
theorem me_str {i j p} : ME tb X (.Constant (.str i) j p) (conM (.str i)) := me_con pe_str fun _ _ => by rw [Rp]
/-! ### two values -/
def binM (F : D → D → Sto → Option (D × Sto)) (ea eb : EvM) : EvM := fun γ S => match ea γ S with
  | none => none
  | some (x, S1) => match eb γ S1 with
    | none => none
    | some (y, S2) => F x y S2
def FOk2 (K : Kx) (F : D → D → Sto → Option (D × Sto)) (r : R2) : Prop :=
  ∀ x y S d S', F x y S = some (d, S') → ∀ H m vx vy Q, SR K H m S → Rp K H m x vx → Rp K H m y vy → Fin K H m S' d Q → r vx vy H Q
theorem FOk2.or {F G : D → D → Sto → Option (D × Sto)} {r r' : R2} (h : FOk2 K F r) (h' : FOk2 K G r') : FOk2 K (fun x y S => (F x y S).or (G x y S)) (fun x y H Q => r x y H Q ∨ r' x y H Q) := by
  intro x y S d S' e H m vx vy Q hS hx hy q
  dsimp only at e
  cases hF : F x y S with
  | some p => rw [hF] at e; simp at e; subst e; exact .inl (h _ _ _ _ _ hF H m vx vy Q hS hx hy q)
  | none => rw [hF] at e; simp at e; exact .inr (h' _ _ _ _ _ e H m vx vy Q hS hx hy q)
theorem bin_core {F : D → D → Sto → Option (D × Sto)} {r : R2} (hF : FOk2 K F r) {σ : L2.St} {H : Hp} {Q : VK} (h : tM K (binM F ea eb) σ H Q) : tOp r (tM K ea) (tM K eb) σ H Q := by
  obtain ⟨m, S, γ, d, S', hS, hγ, e, q⟩ := h
  unfold binM at e
  cases h1 : ea γ S with
  | none => rw [h1] at e; cases e
  | some p =>
    obtain ⟨x, S1⟩ := p
    rw [h1] at e
    dsimp only at e
    cases h2 : eb γ S1 with
    | none => rw [h2] at e; cases e
    | some p2 =>
      obtain ⟨y, S2⟩ := p2
      rw [h2] at e
      refine ⟨m, S, γ, x, S1, hS, hγ, h1, fun v H1 m1 e1 hS1 hx => ?_⟩
      refine ⟨m1, S1, γ, y, S2, hS1, hγ.mono e1, h2, fun w H2 m2 e2 hS2 hy => ?_⟩
      exact hF x y S2 d S' e H2 m2 v w Q hS2 (hx.mono e2) hy fun u H3 m3 e3 => q u H3 m3 (e1.trans (e2.trans e3))
theorem me_bin {op : Operator} {F : D → D → Sto → Option (D × Sto)} {r : R2} (ho : OpR X (binaryOp op) r) (hF : FOk2 (kx tb X) F r) (ha : ME tb X a ea) (hb : ME tb X b eb) : ME tb X (.BinOp a op b pos) (binM F ea eb) :=
  PE.imp (pe_op ho ha hb) fun _ _ _ h => bin_core hF h
theorem me_cmp {op : CmpOp} {F : D → D → Sto → Option (D × Sto)} {r : R2} (ho : OpR X (compareOp op) r) (hF : FOk2 (kx tb X) F r) (ha : ME tb X a ea) (hb : ME tb X b eb) (hm : behindInMarks op b = false) : ME tb X (.Compare a [op] [b] pos) (binM F ea eb) :=
  PE.imp (pe_cmpR ho ha hb hm) fun _ _ _ h => bin_core hF h
/-- a value that is a bool, as a test -/
def tstM (e : EvM) : CvM := fun γ S => match e γ S with
  | some (.bl k, S') => some (k, S')
  | _ => none
theorem tst_core {e : EvM} {σ : L2.St} {H : Hp} {Q : Bool → Hp → Prop} (h : tTM K (tstM e) σ H Q) : tM K e σ H fun x H' => ∃ k, x = .bl k ∧ Q k H' := by
  obtain ⟨m, S, γ, d, S', hS, hγ, e1, q⟩ := h
  unfold tstM at e1
  split at e1
  · rename_i k S1 h1
    cases e1
    refine ⟨m, S, γ, _, _, hS, hγ, h1, fun w H' m' e2 hS' hw => ?_⟩
    rw [Rp] at hw
    exact ⟨_, hw, q H' m' e2 hS'⟩
  · cases e1
theorem mt_cmp {op : CmpOp} {F : D → D → Sto → Option (D × Sto)} {r : R2} (ho : OpR X (compareOp op) r) (hF : FOk2 (kx tb X) F r) (ha : ME tb X a ea) (hb : ME tb X b eb) (hm : behindInMarks op b = false) : MT tb X (.Compare a [op] [b] pos) (tstM (binM F ea eb)) :=
  PT.imp (pt_cmpR ho ha hb hm) fun σ H Q h => bin_core hF (tst_core h)
/-! ### the operators -/
def opI (C : Int → Int → Bool) (g : Int → Int → D) : D → D → Sto → Option (D × Sto)
  | .int i, .int j, S => if C i j then some (g i j, S) else none
  | _, _, _ => none
theorem Rp.int_iff {H m i v} : Rp K H m (.int i) v ↔ v = .int i := by rw [Rp]
theorem Rp.str_iff {H m i v} : Rp K H m (.str i) v ↔ v = .str i := by rw [Rp]
theorem Rp.bl_iff {H m i v} : Rp K H m (.bl i) v ↔ v = .bl i := by rw [Rp]
theorem Rp.non_iff {H m v} : Rp K H m .non v ↔ v = .non := by rw [Rp]
theorem Rp.tup_iff {H m xs v} : Rp K H m (.tup xs) v ↔ ∃ a vs, v = .ref a ∧ SqT K.f H a vs ∧ Rps K H m xs vs := by rw [Rp]
theorem Rp.ref_iff {H m n v} : Rp K H m (.ref n) v ↔ ∃ a, m[n]? = some a ∧ v = .ref a := by rw [Rp]
/-- a scalar answer, nothing changed -/
theorem fin_int {H m S i} {Q : VK} (hS : SR K H m S) (q : Fin K H m S (.int i) Q) : Q (.int i) H := q _ H m .refl hS (by rw [Rp])
theorem fin_bl {H m S i} {Q : VK} (hS : SR K H m S) (q : Fin K H m S (.bl i) Q) : Q (.bl i) H := q _ H m .refl hS (by rw [Rp])
theorem fin_str {H m S i} {Q : VK} (hS : SR K H m S) (q : Fin K H m S (.str i) Q) : Q (.str i) H := q _ H m .refl hS (by rw [Rp])
theorem fin_non {H m S} {Q : VK} (hS : SR K H m S) (q : Fin K H m S .non Q) : Q .non H := q _ H m .refl hS (by rw [Rp])
/-- a new tuple -/
theorem fin_tup {H m S xs vs} {Q : VK} (hS : SR K H m S) (hv : Rps K H m xs vs) (q : Fin K H m S (.tup xs) Q) : ∀ p, H p = none → Q (.ref p) (upd H p (.tup vs)) := fun p hp =>
  q _ _ m (.new hp) (hS.new hp) (by rw [Rp]; exact ⟨p, vs, rfl, SqT.of upd_same, hv.mono (.new hp)⟩)
/-- a new list -/
theorem fin_lst {H m S xs vs} {Q : VK} (hS : SR K H m S) (hv : Rps K H m xs vs) (q : Fin K H m (S ++ [.lst xs]) (.ref S.length) Q) : ∀ p, H p = none → Q (.ref p) (upd H p (.lst vs)) := fun p hp =>
  q _ _ (m ++ [p]) (.newM hp) (hS.newM hp ⟨vs, upd_same, hv.mono (.newM hp)⟩) (by rw [Rp]; exact ⟨p, by rw [← hS.len]; simp, rfl⟩)
/-- a list of the store is changed -/
theorem fin_set {H m S n a xs vs us d v} {Q : VK} (hS : SR K H m S) (hn : m[n]? = some a) (hl : H a = some (.lst vs)) (hx : n < S.length) (hv : Rps K H m xs us) (hd : Rp K H m d v) (q : Fin K H m (S.set n (.lst xs)) d Q) : Q v (upd H a (.lst us)) :=
  q _ _ m (.upd hl trivial) (hS.upd hn hx ⟨us, upd_same, hv.mono (.upd hl trivial)⟩) (hd.mono (.upd hl trivial))
theorem opI_ok {C : Int → Int → Bool} {g : Int → Int → D} {P : Int → Int → Prop} {gV : Int → Int → V} (hC : ∀ i j, C i j = true → P i j) (hg : ∀ i j H m, Rp K H m (g i j) (gV i j)) : FOk2 K (opI C g) (rI P gV) := by
  intro x y S d S' e H m vx vy Q hS hx hy q
  unfold opI at e
  split at e
  · rename_i i j
    split at e
    · rename_i hc
      cases e
      rw [Rp] at hx hy
      exact ⟨i, j, hx, hy, hC _ _ hc, q _ H m .refl hS (hg i j H m)⟩
    · cases e
  · cases e
theorem opI0_ok {g : Int → Int → D} {gV : Int → Int → V} (hg : ∀ i j H m, Rp K H m (g i j) (gV i j)) : FOk2 K (opI (fun _ _ => true) g) (rI0 gV) := by
  intro x y S d S' e H m vx vy Q hS hx hy q
  unfold opI at e
  split at e
  · rename_i i j
    simp at e
    obtain ⟨rfl, rfl⟩ := e
    rw [Rp] at hx hy
    exact ⟨i, j, hx, hy, q _ H m .refl hS (hg i j H m)⟩
  · cases e
/-- the list of the store at a number -/
theorem SR.lst {H : Hp} {m : List Addr} {S : Sto} {n : Nat} {xs : List D} (hS : SR K H m S) (e : S[n]? = some (.lst xs)) : ∃ a vs, m[n]? = some a ∧ H a = some (.lst vs) ∧ Rps K H m xs vs := by
  obtain ⟨a, h1, vs, h2, h3⟩ := hS.addr e
  exact ⟨a, vs, h1, h2, h3⟩
theorem lt_of {α : Type} {l : List α} {n : Nat} {x : α} (e : l[n]? = some x) : n < l.length := (List.getElem?_eq_some_iff.mp e).1
/-- + -/
def addL : D → D → Sto → Option (D × Sto)
  | .ref i, .ref j, S => match S[i]?, S[j]? with
    | some (.lst xs), some (.lst ys) => if xs.length + ys.length ≤ sizeLine then some (.ref S.length, S ++ [.lst (xs ++ ys)]) else none
    | _, _ => none
  | _, _, _ => none
def addS : D → D → Sto → Option (D × Sto)
  | .str i, .str j, S => if i.length + j.length ≤ sizeLine then some (.str (i ++ j), S) else none
  | _, _, _ => none
def addT : D → D → Sto → Option (D × Sto)
  | .tup xs, .tup ys, S => if xs.length + ys.length ≤ sizeLine then some (.tup (xs ++ ys), S) else none
  | _, _, _ => none
theorem addL_ok : FOk2 K addL rCat := by
  intro x y S d S' e H m vx vy Q hS hx hy q
  unfold addL at e
  split at e
  · rename_i i j
    split at e
    · rename_i xs ys h1 h2
      split at e
      · rename_i hz
        cases e
        rw [Rp] at hx hy
        obtain ⟨a, ea, rfl⟩ := hx
        obtain ⟨b, eb, rfl⟩ := hy
        obtain ⟨a', vs, m1, k1, r1⟩ := hS.lst h1
        obtain ⟨b', ws, m2, k2, r2⟩ := hS.lst h2
        rw [ea] at m1; cases m1
        rw [eb] at m2; cases m2
        exact ⟨a, b, vs, ws, rfl, rfl, k1, k2, by rw [r1.length, r2.length]; exact hz, fin_lst hS (r1.append r2) q⟩
      · cases e
    · cases e
  · cases e
theorem addS_ok : FOk2 K addS (fun x y H Q => ∃ i j, x = .str i ∧ y = .str j ∧ i.length + j.length ≤ sizeLine ∧ Q (.str (i ++ j)) H) := by
  intro x y S d S' e H m vx vy Q hS hx hy q
  unfold addS at e
  split at e
  · rename_i i j
    split at e
    · rename_i hz
      cases e
      rw [Rp] at hx hy
      exact ⟨i, j, hx, hy, hz, fin_str hS q⟩
    · cases e
  · cases e
theorem addT_ok : FOk2 K addT (rCatA K.f) := by
  intro x y S d S' e H m vx vy Q hS hx hy q
  unfold addT at e
  split at e
  · rename_i xs ys
    split at e
    · rename_i hz
      cases e
      rw [Rp] at hx hy
      obtain ⟨a, vs, rfl, ha, rx⟩ := hx
      obtain ⟨b, ws, rfl, hb, ry⟩ := hy
      refine ⟨a, b, vs, ws, rfl, rfl, ha, hb, by rw [rx.length, ry.length]; exact hz, fun z => ?_, fun _ z => ?_, fun _ _ => fin_tup hS (rx.append ry) q⟩
      · have hx0 : xs = [] := by
          have := rx.length
          rw [z] at this
          exact List.length_eq_zero_iff.mp this.symm
        subst hx0
        refine q _ H m .refl hS ?_
        rw [List.nil_append, Rp]
        exact ⟨b, ws, rfl, hb, ry⟩
      · have hy0 : ys = [] := by
          have := ry.length
          rw [z] at this
          exact List.length_eq_zero_iff.mp this.symm
        subst hy0
        refine q _ H m .refl hS ?_
        rw [List.append_nil, Rp]
        exact ⟨a, vs, rfl, ha, rx⟩
    · cases e
  · cases e
def addF : D → D → Sto → Option (D × Sto)
  | .int i, .int j, S => some (.int (i + j), S)
  | .str i, .str j, S => if i.length + j.length ≤ sizeLine then some (.str (i ++ j), S) else none
  | .tup xs, .tup ys, S => if xs.length + ys.length ≤ sizeLine then some (.tup (xs ++ ys), S) else none
  | .ref i, .ref j, S => match S[i]?, S[j]? with
    | some (.lst xs), some (.lst ys) => if xs.length + ys.length ≤ sizeLine then some (.ref S.length, S ++ [.lst (xs ++ ys)]) else none
    | _, _ => none
  | _, _, _ => none
theorem FOk2.of {F G : D → D → Sto → Option (D × Sto)} {r : R2} (h : FOk2 K F r) (e : ∀ x y S, G x y S = F x y S) : FOk2 K G r := by
  have : G = F := by funext x y S; exact e x y S
  rw [this]; exact h
theorem addF_ok : FOk2 K addF (fun x y H Q => rI0 (fun i j => .int (i + j)) x y H Q ∨ (∃ i j, x = .str i ∧ y = .str j ∧ i.length + j.length ≤ sizeLine ∧ Q (.str (i ++ j)) H) ∨ rCatA K.f x y H Q ∨ rCat x y H Q) :=
  ((opI0_ok (g := fun i j => .int (i + j)) (gV := fun i j => .int (i + j)) fun _ _ _ _ => by rw [Rp]).or (addS_ok.or (addT_ok.or addL_ok))).of fun x y S => by
    cases x <;> cases y <;> simp [addF, opI, addS, addT, addL]
theorem me_add (ha : ME tb X a ea) (hb : ME tb X b eb) : ME tb X (.BinOp a .Add b pos) (binM addF ea eb) :=
  me_bin (op_add.or (op_add_str.or (op_catA.or op_cat))) addF_ok ha hb
def subF := opI (fun _ _ => true) (fun i j => .int (i - j))
theorem me_sub (ha : ME tb X a ea) (hb : ME tb X b eb) : ME tb X (.BinOp a .Sub b pos) (binM subF ea eb) := me_bin op_sub (opI0_ok (gV := fun i j => .int (i - j)) fun _ _ _ _ => by rw [Rp]) ha hb
end
end Ml
namespace Ml
open L2 PyProof.Rows PySem PySem.Spec
section
variable {tb : List NdefX.NTab} {X : Cx} {K : Kx} {a b c : Expr} {ea eb ec : EvM} {pos : Pos}
/-! ### numbers -/
def mulOk (i j : Int) : Bool := decide (-(2 ^ 64) < i ∧ i < 2 ^ 64) || decide (-(2 ^ 64) < j ∧ j < 2 ^ 64) || decide (i.natAbs.log2 + j.natAbs.log2 < 1000000)
def mulF : D → D → Sto → Option (D × Sto)
  | .int i, .int j, S => if mulOk i j then some (.int (i * j), S) else none
  | _, _, _ => none
theorem mulF_ok : FOk2 K mulF (fun x y H Q => rI CMul (fun i j => .int (i * j)) x y H Q ∨ rI CMulW (fun i j => .int (i * j)) x y H Q) := by
  intro x y S d S' e H m vx vy Q hS hx hy q
  unfold mulF at e
  split at e
  · rename_i i j
    split at e
    · rename_i hc
      cases e
      simp only [Rp] at hx hy
      simp only [mulOk, Bool.or_eq_true, decide_eq_true_eq] at hc
      rcases hc with (hc | hc) | hc
      · exact .inl ⟨i, j, hx, hy, .inl hc, fin_int hS q⟩
      · exact .inl ⟨i, j, hx, hy, .inr hc, fin_int hS q⟩
      · exact .inr ⟨i, j, hx, hy, hc, fin_int hS q⟩
    · cases e
  · cases e
theorem me_mul (ha : ME tb X a ea) (hb : ME tb X b eb) : ME tb X (.BinOp a .Mult b pos) (binM mulF ea eb) := me_bin (op_mul.or op_mulW) mulF_ok ha hb
/-- xs * n -/
def repF : D → D → Sto → Option (D × Sto)
  | .ref n, .int k, S => match S[n]? with
    | some (.lst xs) => if 0 ≤ k ∧ k < 2 ^ 63 ∧ xs.length * k.toNat ≤ sizeLine then some (.ref S.length, S ++ [.lst (List.replicate k.toNat xs).flatten]) else none
    | _ => none
  | _, _, _ => none
theorem Rps.repl {H m} {xs : List D} {vs : List V} (h : Rps K H m xs vs) : ∀ k : Nat, Rps K H m (List.replicate k xs).flatten (List.replicate k vs).flatten
  | 0 => Rps.nil
  | k + 1 => by rw [List.replicate_succ, List.replicate_succ, List.flatten_cons, List.flatten_cons]; exact h.append (Rps.repl h k)
theorem repF_ok : FOk2 K repF rRep := by
  intro x y S d S' e H m vx vy Q hS hx hy q
  unfold repF at e
  split at e
  · rename_i n k
    split at e
    · rename_i xs h1
      split at e
      · rename_i hz
        cases e
        simp only [Rp] at hx hy
        obtain ⟨a, ea, rfl⟩ := hx
        obtain ⟨a', vs, m1, k1, r1⟩ := hS.lst h1
        rw [ea] at m1; cases m1
        subst hy
        exact ⟨a, k, vs, rfl, rfl, k1, by omega, hz.2.1, by rw [r1.length]; exact hz.2.2, fin_lst hS (r1.repl _) q⟩
      · cases e
    · cases e
  · cases e
theorem me_rep (ha : ME tb X a ea) (hb : ME tb X b eb) : ME tb X (.BinOp a .Mult b pos) (binM repF ea eb) := me_bin op_rep repF_ok ha hb
def fdivF : D → D → Sto → Option (D × Sto)
  | .int i, .int j, S => if 0 < j ∧ j.natAbs.log2 < 9000 then some (.int (i / j), S) else none
  | _, _, _ => none
theorem me_fdiv (ha : ME tb X a ea) (hb : ME tb X b eb) : ME tb X (.BinOp a .FloorDiv b pos) (binM fdivF ea eb) :=
  me_bin op_fdivW ((opI_ok (P := CDivW) (C := fun i j => decide (0 < j ∧ j.natAbs.log2 < 9000)) (g := fun i j => .int (i / j)) (gV := fun i j => .int (i / j)) (fun _ _ h => by have h2 := h; simp only [decide_eq_true_eq] at h2; exact h2) fun _ _ _ _ => by rw [Rp]).of fun x y S => by
    cases x <;> cases y <;> simp [fdivF, opI]) ha hb
def modF : D → D → Sto → Option (D × Sto)
  | .int i, .int j, S => if 0 < j then some (.int (i % j), S) else none
  | _, _, _ => none
theorem me_mod (ha : ME tb X a ea) (hb : ME tb X b eb) : ME tb X (.BinOp a .Mod b pos) (binM modF ea eb) :=
  me_bin op_mod ((opI_ok (P := fun _ j => 0 < j) (C := fun i j => decide (0 < j)) (g := fun i j => .int (i % j)) (gV := fun i j => .int (i % j)) (fun _ _ h => by have h2 := h; simp only [decide_eq_true_eq] at h2; exact h2) fun _ _ _ _ => by rw [Rp]).of fun x y S => by
    cases x <;> cases y <;> simp [modF, opI]) ha hb
def powF : D → D → Sto → Option (D × Sto)
  | .int i, .int j, S => if 0 ≤ j ∧ j ≤ 1000000 ∧ i.natAbs < 2 ^ 64 then some (.int (i ^ j.toNat), S) else none
  | _, _, _ => none
theorem me_pow (ha : ME tb X a ea) (hb : ME tb X b eb) : ME tb X (.BinOp a .Pow b pos) (binM powF ea eb) :=
  me_bin op_pow ((opI_ok (P := CPow) (C := fun i j => decide (0 ≤ j ∧ j ≤ 1000000 ∧ i.natAbs < 2 ^ 64)) (g := fun i j => .int (i ^ j.toNat)) (gV := fun i j => .int (i ^ j.toNat)) (fun _ _ h => by have h2 := h; simp only [decide_eq_true_eq] at h2; exact h2) fun _ _ _ _ => by rw [Rp]).of fun x y S => by
    cases x <;> cases y <;> simp [powF, opI]) ha hb
/-- -x -/
def negM (e : EvM) : EvM := fun γ S => match e γ S with
  | some (.int i, S') => some (.int (-i), S')
  | _ => none
theorem me_neg (ha : ME tb X a ea) : ME tb X (.UnaryOp .USub a pos) (negM ea) := by
  refine PE.imp (pe_un un_neg ha) fun σ H Q h => ?_
  obtain ⟨m, S, γ, d, S', hS, hγ, e1, q⟩ := h
  unfold negM at e1
  split at e1
  · rename_i i S1 h1
    cases e1
    refine ⟨m, S, γ, _, _, hS, hγ, h1, fun w H' m' e2 hS' hw => ?_⟩
    rw [Rp] at hw
    exact ⟨_, hw, q _ H' m' e2 hS' (by rw [Rp])⟩
  · cases e1
/-! ### comparisons by order -/
def strS (g : Str → Str → Bool) : D → D → Sto → Option (D × Sto)
  | .str i, .str j, S => some (.bl (g i j), S)
  | _, _, _ => none
theorem strS_ok {g : Str → Str → Bool} : FOk2 K (strS g) (fun x y H Q => ∃ i j, x = .str i ∧ y = .str j ∧ Q (.bl (g i j)) H) := by
  intro x y S d S' e H m vx vy Q hS hx hy q
  unfold strS at e
  split at e
  · cases e
    rw [Rp] at hx hy
    exact ⟨_, _, hx, hy, fin_bl hS q⟩
  · cases e
abbrev ltS (i j : Str) : Bool := decide (i.cps.toList < j.cps.toList)
def ordF (gi : Int → Int → Bool) (gs : Str → Str → Bool) : D → D → Sto → Option (D × Sto)
  | .int i, .int j, S => some (.bl (gi i j), S)
  | .str i, .str j, S => some (.bl (gs i j), S)
  | _, _, _ => none
theorem ordF_ok {gi : Int → Int → Bool} {gs : Str → Str → Bool} : FOk2 K (ordF gi gs) (fun x y H Q => rI0 (fun i j => .bl (gi i j)) x y H Q ∨ (∃ i j, x = .str i ∧ y = .str j ∧ Q (.bl (gs i j)) H)) :=
  ((opI0_ok (g := fun i j => .bl (gi i j)) (gV := fun i j => .bl (gi i j)) fun _ _ _ _ => by rw [Rp]).or strS_ok).of fun x y S => by
    cases x <;> cases y <;> simp [ordF, opI, strS]
def ltF := ordF (fun i j => decide (i < j)) ltS
def leF := ordF (fun i j => decide (i ≤ j)) (fun i j => !ltS j i)
def gtF := ordF (fun i j => decide (j < i)) (fun i j => ltS j i)
def geF := ordF (fun i j => decide (j ≤ i)) (fun i j => !ltS i j)
theorem ltF_ok : FOk2 K ltF (fun x y H Q => rI0 (fun i j => .bl (decide (i < j))) x y H Q ∨ (∃ i j, x = .str i ∧ y = .str j ∧ Q (.bl (decide (i.cps.toList < j.cps.toList))) H)) := ordF_ok
theorem leF_ok : FOk2 K leF (fun x y H Q => rI0 (fun i j => .bl (decide (i ≤ j))) x y H Q ∨ (∃ i j, x = .str i ∧ y = .str j ∧ Q (.bl (!decide (j.cps.toList < i.cps.toList))) H)) := ordF_ok
theorem gtF_ok : FOk2 K gtF (fun x y H Q => rI0 (fun i j => .bl (decide (j < i))) x y H Q ∨ (∃ i j, x = .str i ∧ y = .str j ∧ Q (.bl (decide (j.cps.toList < i.cps.toList))) H)) := ordF_ok
theorem geF_ok : FOk2 K geF (fun x y H Q => rI0 (fun i j => .bl (decide (j ≤ i))) x y H Q ∨ (∃ i j, x = .str i ∧ y = .str j ∧ Q (.bl (!decide (i.cps.toList < j.cps.toList))) H)) := ordF_ok
theorem or_lt : OpR X (compareOp .Lt) (fun x y H Q => rI0 (fun i j => .bl (decide (i < j))) x y H Q ∨ (∃ i j, x = .str i ∧ y = .str j ∧ Q (.bl (decide (i.cps.toList < j.cps.toList))) H)) := op_lt.or op_lt_str
theorem or_le : OpR X (compareOp .LtE) (fun x y H Q => rI0 (fun i j => .bl (decide (i ≤ j))) x y H Q ∨ (∃ i j, x = .str i ∧ y = .str j ∧ Q (.bl (!decide (j.cps.toList < i.cps.toList))) H)) := op_le.or op_le_str
theorem or_gt : OpR X (compareOp .Gt) (fun x y H Q => rI0 (fun i j => .bl (decide (j < i))) x y H Q ∨ (∃ i j, x = .str i ∧ y = .str j ∧ Q (.bl (decide (j.cps.toList < i.cps.toList))) H)) := op_gt.or op_gt_str
theorem or_ge : OpR X (compareOp .GtE) (fun x y H Q => rI0 (fun i j => .bl (decide (j ≤ i))) x y H Q ∨ (∃ i j, x = .str i ∧ y = .str j ∧ Q (.bl (!decide (i.cps.toList < j.cps.toList))) H)) := op_ge.or op_ge_str
/-! ### == -/
mutual
/-- a value that has no thing of the store in it, as data -/
def pyD : D → Option PyData
  | .non => some .none
  | .bl b => some (.bool b)
  | .int i => some (.int i)
  | .str z => some (.str z)
  | .tup xs => match pyDs xs with
    | some ds => some (.tuple ds)
    | none => none
  | .rl _ => none
  | .ref _ => none
  | .gl _ => none
def pyDs : List D → Option (List PyData)
  | [] => some []
  | x :: xs => match pyD x, pyDs xs with
    | some d0, some ds => some (d0 :: ds)
    | _, _ => none
end
/-- .. or a list of such -/
def pyO (S : Sto) : D → Option PyData
  | .ref n => match S[n]? with
    | some (.lst xs) => match pyDs xs with
      | some ds => some (.list ds)
      | none => none
    | _ => none
  | d => pyD d
mutual
theorem pyD_ok {H m} : ∀ (d : D) (v : V) (p : PyData), Rp K H m d v → pyD d = some p → Dp K.f H v p
  | .non, v, p, h, e => by rw [Rp] at h; rw [pyD] at e; cases e; subst h; exact .non
  | .bl b, v, p, h, e => by rw [Rp] at h; rw [pyD] at e; cases e; subst h; exact .bl b
  | .int i, v, p, h, e => by rw [Rp] at h; rw [pyD] at e; cases e; subst h; exact .int i
  | .str z, v, p, h, e => by rw [Rp] at h; rw [pyD] at e; cases e; subst h; exact .str z
  | .tup xs, v, p, h, e => by
    rw [Rp] at h
    obtain ⟨a, vs, rfl, ha, hv⟩ := h
    rw [pyD] at e
    cases h1 : pyDs xs with
    | none => rw [h1] at e; cases e
    | some ds =>
      rw [h1] at e
      cases e
      exact .tup ha (pyDs_ok xs vs ds hv h1)
  | .rl n, v, p, h, e => by rw [pyD] at e; cases e
  | .ref n, v, p, h, e => by rw [pyD] at e; cases e
  | .gl n, v, p, h, e => by rw [pyD] at e; cases e
theorem pyDs_ok {H m} : ∀ (d : List D) (v : List V) (p : List PyData), Rps K H m d v → pyDs d = some p → DpAll K.f H v p
  | [], v, p, h, e => by rw [Rps] at h; rw [pyDs] at e; cases e; subst h; exact .nil
  | x :: xs, v, p, h, e => by
    rw [Rps] at h
    obtain ⟨w, r, rfl, h1, h2⟩ := h
    rw [pyDs] at e
    cases e1 : pyD x with
    | none => rw [e1] at e; cases e
    | some d1 =>
      cases e2 : pyDs xs with
      | none => rw [e1, e2] at e; cases e
      | some d2 =>
        rw [e1, e2] at e
        cases e
        exact .cons (pyD_ok x w d1 h1 e1) (pyDs_ok xs r d2 h2 e2)
end
theorem pyO_ok {H m S} {d : D} {v : V} {p : PyData} (hS : SR K H m S) (h : Rp K H m d v) (e : pyO S d = some p) : Dp K.f H v p := by
  unfold pyO at e
  split at e
  · rename_i n
    split at e
    · rename_i xs h1
      split at e
      · rename_i ds h2
        cases e
        rw [Rp] at h
        obtain ⟨a, ea, rfl⟩ := h
        obtain ⟨a', vs, m1, k1, r1⟩ := hS.lst h1
        rw [ea] at m1; cases m1
        exact .lst (SqL.of k1) (pyDs_ok xs vs ds r1 h2)
      · cases e
    · cases e
  · exact pyD_ok d v p h e
/-- == of scalars of like kinds -/
def eqS : D → D → Option Bool
  | .non, .non => some true
  | .int i, .int j => some (i == j)
  | .bl i, .bl j => some (i == j)
  | .str i, .str j => some (i == j)
  | .non, .int _ => some false | .int _, .non => some false
  | .non, .bl _ => some false | .bl _, .non => some false
  | .non, .str _ => some false | .str _, .non => some false
  | .int _, .str _ => some false | .str _, .int _ => some false
  | .bl _, .str _ => some false | .str _, .bl _ => some false
  | _, _ => none
def eqB (S : Sto) (x y : D) : Option Bool := match eqS x y with
  | some b => some b
  | none => match pyO S x, pyO S y with
    | some p, some q => if SeqAt.shaped p && SeqAt.shaped q then some (PyData.eqv p q) else none
    | _, _ => none
theorem eqS_ok {H m} {x y : D} {b : Bool} {vx vy : V} (e : eqS x y = some b) (hx : Rp K H m x vx) (hy : Rp K H m y vy) : scal vx vy = true ∧ decide (vx = vy) = b := by
  cases x <;> cases y <;> simp only [eqS, Option.some.injEq, reduceCtorEq] at e <;> (simp only [Rp] at hx hy; subst hx; subst hy; subst e) <;> refine ⟨rfl, ?_⟩ <;> first | rfl | (rw [dec_int]) | (rw [dec_bl]) | (rw [dec_str]) | simp
def eqF : D → D → Sto → Option (D × Sto) := fun x y S => match eqB S x y with
  | some b => some (.bl b, S)
  | none => none
def neF : D → D → Sto → Option (D × Sto) := fun x y S => match eqB S x y with
  | some b => some (.bl (!b), S)
  | none => none
theorem eqB_ok {H m S} {x y : D} {b : Bool} {vx vy : V} (hS : SR K H m S) (e : eqB S x y = some b) (hx : Rp K H m x vx) (hy : Rp K H m y vy) :
    (scal vx vy = true ∧ decide (vx = vy) = b) ∨ ∃ p q, Dp K.f H vx p ∧ Dp K.f H vy q ∧ SeqAt.shaped p = true ∧ SeqAt.shaped q = true ∧ PyData.eqv p q = b := by
  unfold eqB at e
  split at e
  · rename_i b' h1
    cases e
    exact .inl (eqS_ok h1 hx hy)
  · split at e
    · rename_i p q h1 h2
      split at e
      · rename_i hs
        cases e
        rw [Bool.and_eq_true] at hs
        exact .inr ⟨p, q, pyO_ok hS hx h1, pyO_ok hS hy h2, hs.1, hs.2, rfl⟩
      · cases e
    · cases e
theorem eqF_ok : FOk2 K eqF (fun x y H Q => rEq x y H Q ∨ rEqD K.f x y H Q) := by
  intro x y S d S' e H m vx vy Q hS hx hy q
  unfold eqF at e
  split at e
  · rename_i b h1
    cases e
    rcases eqB_ok hS h1 hx hy with ⟨h2, h3⟩ | ⟨p, r, h2, h3, h4, h5, h6⟩
    · exact .inl ⟨h2, by rw [h3]; exact fin_bl hS q⟩
    · exact .inr ⟨p, r, h2, h3, h4, h5, by rw [h6]; exact fin_bl hS q⟩
  · cases e
theorem neF_ok : FOk2 K neF (fun x y H Q => rNe x y H Q ∨ rNeD K.f x y H Q) := by
  intro x y S d S' e H m vx vy Q hS hx hy q
  unfold neF at e
  split at e
  · rename_i b h1
    cases e
    rcases eqB_ok hS h1 hx hy with ⟨h2, h3⟩ | ⟨p, r, h2, h3, h4, h5, h6⟩
    · exact .inl ⟨h2, by rw [h3]; exact fin_bl hS q⟩
    · exact .inr ⟨p, r, h2, h3, h4, h5, by rw [h6]; exact fin_bl hS q⟩
  · cases e
theorem or_eq (hu : X.A.units + 64 < cLine) : OpR X (compareOp .Eq) (fun x y H Q => rEq x y H Q ∨ rEqD X.K x y H Q) := op_eq.or (op_eqD hu)
theorem or_ne (hu : X.A.units + 64 < cLine) : OpR X (compareOp .NotEq) (fun x y H Q => rNe x y H Q ∨ rNeD X.K x y H Q) := op_ne.or (op_neD hu)
/-! ### in -/
/-- x in a list of data -/
def inB (S : Sto) (x y : D) : Option Bool := match pyD x, pyO S y with
  | some p, some (.list ds) => if SeqAt.shaped p && SeqAt.shaped (.list ds) then some (ds.any fun z => PyData.eqv z p) else none
  | _, _ => none
/-- x in a tuple of flat values -/
def flatD : D → Bool
  | .non => true | .bl _ => true | .int _ => true | .str _ => true | _ => false
def eqFl : D → D → Bool
  | .non, .non => true
  | .bl a, .bl b => a == b
  | .bl a0, .int b => (if a0 then 1 else 0) == b
  | .int a0, .bl b => a0 == (if b then 1 else 0)
  | .int a, .int b => a == b
  | .str a, .str b => a == b
  | _, _ => false
def inT (x y : D) : Option Bool := match y with
  | .tup ys => if flatD x && ys.all flatD then some (ys.any fun z => eqFl z x) else none
  | _ => none
theorem flatD_ok {H m} {x : D} {v : V} (h : Rp K H m x v) : flatD x = true → flatV v = true := by
  cases x <;> simp only [flatD, Bool.false_eq_true, false_imp_iff, imp_true_iff, forall_const, true_imp_iff] <;> (try (rw [Rp] at h; subst h; rfl))
theorem eqFl_ok {H m} {x y : D} {v w : V} (h : Rp K H m x v) (h' : Rp K H m y w) (f : flatD x = true) (g : flatD y = true) : eqV v w = eqFl x y := by
  cases x <;> simp only [flatD, Bool.false_eq_true] at f <;> cases y <;> simp only [flatD, Bool.false_eq_true] at g <;> (simp only [Rp] at h h'; subst h; subst h'; rfl)
theorem flats_ok {H m} : ∀ {xs : List D} {vs : List V}, Rps K H m xs vs → xs.all flatD = true → vs.all flatV = true
  | [], vs, h, _ => by rw [Rps] at h; subst h; rfl
  | x :: xs, vs, h, f => by
    rw [Rps] at h
    obtain ⟨w, r, rfl, h1, h2⟩ := h
    simp only [List.all_cons, Bool.and_eq_true] at f ⊢
    exact ⟨flatD_ok h1 f.1, flats_ok h2 f.2⟩
theorem inV_ok {H m} {x : D} {v : V} (h : Rp K H m x v) (f : flatD x = true) : ∀ {xs : List D} {vs : List V}, Rps K H m xs vs → xs.all flatD = true → inV v vs = xs.any fun z => eqFl z x
  | [], vs, h, _ => by rw [Rps] at h; subst h; rfl
  | y :: xs, vs, h', g => by
    rw [Rps] at h'
    obtain ⟨w, r, rfl, h1, h2⟩ := h'
    simp only [List.all_cons, Bool.and_eq_true] at g
    have := inV_ok h f h2 g.2
    unfold inV at this ⊢
    rw [List.any_cons, List.any_cons, this, eqFl_ok h1 h g.1 f]
def inF (neg : Bool) : D → D → Sto → Option (D × Sto) := fun x y S => match inT x y with
  | some b => some (.bl (if neg then !b else b), S)
  | none => match inB S x y with
    | some b => some (.bl (if neg then !b else b), S)
    | none => none
theorem inT_ok {H m S neg} {x y : D} {b : Bool} {vx vy : V} {Q : VK} (hS : SR K H m S) (e : inT x y = some b) (hx : Rp K H m x vx) (hy : Rp K H m y vy) (q : Fin K H m S (.bl (if neg then !b else b)) Q) : rIn K.f neg vx vy H Q := by
  unfold inT at e
  split at e
  · rename_i ys
    split at e
    · rename_i hf
      cases e
      rw [Bool.and_eq_true] at hf
      rw [Rp] at hy
      obtain ⟨a, vs, rfl, ha, hv⟩ := hy
      refine ⟨a, vs, rfl, .inr ha, flatD_ok hx hf.1, flats_ok hv hf.2, ?_⟩
      rw [inV_ok hx hf.1 hv hf.2]
      exact fin_bl hS q
    · cases e
  · cases e
theorem inB_ok {H m S} {x y : D} {b : Bool} {vx vy : V} (hS : SR K H m S) (e : inB S x y = some b) (hx : Rp K H m x vx) (hy : Rp K H m y vy) :
    ∃ d ds, Dp K.f H vx d ∧ Dp K.f H vy (.list ds) ∧ SeqAt.shaped d = true ∧ SeqAt.shaped (.list ds) = true ∧ (ds.any fun z => PyData.eqv z d) = b := by
  unfold inB at e
  split at e
  · rename_i p ds h1 h2
    split at e
    · rename_i hs
      cases e
      rw [Bool.and_eq_true] at hs
      exact ⟨p, ds, pyD_ok _ _ _ hx h1, pyO_ok hS hy h2, hs.1, hs.2, rfl⟩
    · cases e
  · cases e
theorem inF_ok : FOk2 K (inF false) (fun x y H Q => rIn K.f false x y H Q ∨ rInD K.f x y H Q) := by
  intro x y S d S' e H m vx vy Q hS hx hy q
  unfold inF at e
  split at e
  · rename_i b h1
    cases e
    exact .inl (inT_ok hS h1 hx hy q)
  · split at e
    · rename_i b h1
      cases e
      obtain ⟨p, ds, h2, h3, h4, h5, h6⟩ := inB_ok hS h1 hx hy
      exact .inr ⟨p, ds, h2, h3, h4, h5, by rw [h6]; exact fin_bl hS q⟩
    · cases e
theorem notInF_ok : FOk2 K (inF true) (fun x y H Q => rIn K.f true x y H Q ∨ rNotInD K.f x y H Q) := by
  intro x y S d S' e H m vx vy Q hS hx hy q
  unfold inF at e
  split at e
  · rename_i b h1
    cases e
    exact .inl (inT_ok hS h1 hx hy q)
  · split at e
    · rename_i b h1
      cases e
      obtain ⟨p, ds, h2, h3, h4, h5, h6⟩ := inB_ok hS h1 hx hy
      exact .inr ⟨p, ds, h2, h3, h4, h5, by rw [h6]; exact fin_bl hS q⟩
    · cases e
theorem or_in (hu : X.A.units + 65 < cLine) : OpR X (compareOp .In) (fun x y H Q => rIn X.K false x y H Q ∨ rInD X.K x y H Q) := op_in_seq.or (op_inD hu)
theorem or_notIn (hu : X.A.units + 65 < cLine) : OpR X (compareOp .NotIn) (fun x y H Q => rIn X.K true x y H Q ∨ rNotInD X.K x y H Q) := op_notIn_seq.or (op_notInD hu)
/-! ### is None, is True -/
def isN : D → Bool
  | .non => true
  | _ => false
def isF (neg : Bool) : D → D → Sto → Option (D × Sto)
  | x, .non, S => some (.bl (if neg then !isN x else isN x), S)
  | _, _, _ => none
theorem isN_ok {H m} {x : D} {v : V} (h : Rp K H m x v) : decide (v = V.non) = isN x := by
  cases x with
  | non => rw [Rp] at h; subst h; rfl
  | bl b => rw [Rp] at h; subst h; rfl
  | int b => rw [Rp] at h; subst h; rfl
  | str b => rw [Rp] at h; subst h; rfl
  | tup b => rw [Rp] at h; obtain ⟨_, _, rfl, _⟩ := h; rfl
  | rl b => rw [Rp] at h; obtain ⟨_, _, rfl, _⟩ := h; rfl
  | ref b => rw [Rp] at h; obtain ⟨_, _, rfl⟩ := h; rfl
  | gl b => rw [Rp] at h; obtain ⟨_, rfl, _⟩ := h; rfl
theorem isF_ok : FOk2 K (isF false) (fun x y H Q => y = .non ∧ Q (.bl (decide (x = .non))) H) := by
  intro x y S d S' e H m vx vy Q hS hx hy q
  unfold isF at e
  split at e
  · cases e
    rw [Rp] at hy
    exact ⟨hy, by rw [isN_ok hx]; exact fin_bl hS q⟩
  · cases e
theorem notF_ok : FOk2 K (isF true) (fun x y H Q => y = .non ∧ Q (.bl (!decide (x = .non))) H) := by
  intro x y S d S' e H m vx vy Q hS hx hy q
  unfold isF at e
  split at e
  · cases e
    rw [Rp] at hy
    exact ⟨hy, by rw [isN_ok hx]; exact fin_bl hS q⟩
  · cases e
end
end Ml
namespace Ml
open L2 PyProof.Rows PySem PySem.Spec
section
variable {tb : List NdefX.NTab} {X : Cx} {K : Kx} {a b c e : Expr} {es : List Expr} {ea eb ec : EvM} {pos : Pos}
/-! ### by place -/
theorem atI_rp {H m} {xs : List D} {vs : List V} {i : Int} {d : D} (h : Rps K H m xs vs) (e : atI xs i = some d) : ∃ v, atI vs i = some v ∧ Rp K H m d v := by
  unfold atI at e ⊢
  rw [h.length]
  cases hj : ixN xs.length i with
  | none => rw [hj] at e; cases e
  | some j =>
    rw [hj] at e
    exact h.get (by simpa using e)
def ixF : D → D → Sto → Option (D × Sto)
  | .tup xs, .int i, S => match atI xs i with
    | some d => some (d, S)
    | none => none
  | .ref n, .int i, S => match S[n]? with
    | some (.lst xs) => match atI xs i with
      | some d => some (d, S)
      | none => none
    | _ => none
  | .str z, .int i, S => if z.length ≤ sizeLine then match atI z.cps.toList i with
      | some c => some (.str ⟨#[c]⟩, S)
      | none => none
    else none
  | .rl xs, .int i, S => match atI xs i with
    | some d => some (d, S)
    | none => none
  | _, _, _ => none
theorem ixF_ok : FOk2 K ixF (rIx K.f) := by
  intro x y S d S' e H m vx vy Q hS hx hy q
  unfold ixF at e
  split at e
  · rename_i xs i
    split at e
    · rename_i d' h1
      cases e
      simp only [Rp] at hx hy
      obtain ⟨a, vs, rfl, ha, hv⟩ := hx
      obtain ⟨v, h2, h3⟩ := atI_rp hv h1
      exact .inr (.inl ⟨a, vs, i, v, rfl, hy, ha, h2, q v H m .refl hS h3⟩)
    · cases e
  · rename_i n i
    split at e
    · rename_i xs h1
      split at e
      · rename_i d' h2
        cases e
        simp only [Rp] at hx hy
        obtain ⟨a, ea, rfl⟩ := hx
        obtain ⟨a', vs, m1, k1, r1⟩ := hS.lst h1
        rw [ea] at m1; cases m1
        obtain ⟨v, h3, h4⟩ := atI_rp r1 h2
        exact .inl ⟨a, vs, i, v, rfl, hy, SqL.of k1, h3, q v H m .refl hS h4⟩
      · cases e
    · cases e
  · rename_i z i
    split at e
    · rename_i hz
      split at e
      · rename_i c h1
        cases e
        simp only [Rp] at hx hy
        exact .inr (.inr ⟨z, i, c, hx, hy, hz, h1, fin_str hS q⟩)
      · cases e
    · cases e
  · rename_i xs i
    split at e
    · rename_i d' h1
      cases e
      simp only [Rp] at hx hy
      obtain ⟨a, vs, rfl, ha, hv⟩ := hx
      obtain ⟨v, h2, h3⟩ := atI_rp hv h1
      exact .inl ⟨a, vs, i, v, rfl, hy, ha.sq, h2, q v H m .refl hS h3⟩
    · cases e
  · cases e
theorem me_ix (ha : ME tb X a ea) (hb : ME tb X b eb) (hs : PlainIx b := by exact fun _ _ => rfl) : ME tb X (.Subscript a b pos) (binM ixF ea eb) :=
  PE.imp (pe_ix ix_seq ha hb hs) fun _ _ _ h => bin_core ixF_ok h
/-! ### slices -/
abbrev OvM := Sl → Sto → Option (Option Int × Sto)
def tOM (K : Kx) (e : OvM) : TO := fun σ H Q => ∃ m S γ d S', SR K H m S ∧ SLR K H m γ σ ∧ e γ S = some (d, S') ∧ ∀ H' m', Ext K H m H' m' → SR K H' m' S' → Q d H'
abbrev MO (tb : List NdefX.NTab) (X : Cx) (e : Option Expr) (m : OvM) : Prop := PO X e (tOM (kx tb X) m)
def noM : OvM := fun _ S => some (none, S)
def partM (e : EvM) : OvM := fun γ S => match e γ S with
  | some (.int i, S') => some (some i, S')
  | _ => none
theorem PO.imp {e : Option Expr} {t t' : TO} (h : PO X e t) (hi : ∀ σ H Q, t' σ H Q → t σ H Q) : PO X e t' := ⟨fun pins s σ H Q I q => h.run pins s σ H Q I (hi σ H Q q)⟩
theorem mo_none : MO tb X none noM := PO.imp po_none fun σ H Q h => by
  obtain ⟨m, S, γ, d, S', hS, hγ, e1, q⟩ := h
  cases e1
  exact q H m .refl hS
theorem mo_some (h : ME tb X a ea) : MO tb X (some a) (partM ea) := PO.imp (po_some h) fun σ H Q h => by
  obtain ⟨m, S, γ, d, S', hS, hγ, e1, q⟩ := h
  unfold partM at e1
  split at e1
  · rename_i i S1 h1
    cases e1
    refine ⟨m, S, γ, _, _, hS, hγ, h1, fun w H' m' e2 hS' hw => ?_⟩
    rw [Rp] at hw
    exact ⟨_, hw, q H' m' e2 hS'⟩
  · cases e1
def cutX {α : Type} (xs : List α) (lo hi : Option Int) : List α := (xs.drop (HT.sIx xs.length 0 lo)).take (HT.sIx xs.length xs.length hi - HT.sIx xs.length 0 lo)
theorem cutX_rp {H m} {xs : List D} {vs : List V} (h : Rps K H m xs vs) (lo hi : Option Int) : Rps K H m (cutX xs lo hi) (cutV vs lo hi) := by
  unfold cutX cutV
  rw [h.length]
  exact (h.drop _).take _
theorem cutX_whole {α : Type} {xs : List α} {lo hi : Option Int} (h : HT.sIx xs.length 0 lo = 0 ∧ HT.sIx xs.length xs.length hi = xs.length) : cutX xs lo hi = xs := by
  unfold cutX
  rw [h.1, h.2]
  simp
def slF (x : D) (lo hi : Option Int) (S : Sto) : Option (D × Sto) := match x with
  | .tup xs => some (.tup (cutX xs lo hi), S)
  | .ref n => match S[n]? with
    | some (.lst xs) => some (.ref S.length, S ++ [.lst (cutX xs lo hi)])
    | _ => none
  | .str z => if z.length ≤ sizeLine then some (.str (cutS z lo hi), S) else none
  | _ => none
def slM (ea : EvM) (l h : OvM) : EvM := fun γ S => match ea γ S with
  | none => none
  | some (x, S1) => match l γ S1 with
    | none => none
    | some (lo, S2) => match h γ S2 with
      | none => none
      | some (hi, S3) => slF x lo hi S3
def rSlAll (K : PySem.W.Frag) : V → Option Int → Option Int → Hp → VK → Prop := fun x lo hi H Q => rSlA K x lo hi H Q ∨ rSlL K x lo hi H Q ∨ rSlS x lo hi H Q
theorem sl_all : SlR X (rSlAll X.K) := sl_tupA.or (sl_list.or sl_str)
theorem slF_ok {H m S x lo hi d S' vx} {Q : VK} (e : slF x lo hi S = some (d, S')) (hS : SR K H m S) (hx : Rp K H m x vx) (q : Fin K H m S' d Q) : rSlAll K.f vx lo hi H Q := by
  unfold slF at e
  split at e
  · rename_i xs
    cases e
    simp only [Rp] at hx
    obtain ⟨a, vs, rfl, ha, hv⟩ := hx
    refine .inl ⟨a, vs, rfl, ha, fun z => ?_, fun _ => fin_tup hS (cutX_rp hv lo hi) q⟩
    rw [hv.length] at z
    refine q _ H m .refl hS ?_
    rw [cutX_whole z, Rp]
    exact ⟨a, vs, rfl, ha, hv⟩
  · rename_i n
    split at e
    · rename_i xs h1
      cases e
      simp only [Rp] at hx
      obtain ⟨a, ea, rfl⟩ := hx
      obtain ⟨a', vs, m1, k1, r1⟩ := hS.lst h1
      rw [ea] at m1; cases m1
      exact .inr (.inl ⟨a, vs, rfl, SqL.of k1, fin_lst hS (cutX_rp r1 lo hi) q⟩)
    · cases e
  · rename_i z
    split at e
    · rename_i hz
      cases e
      simp only [Rp] at hx
      exact .inr (.inr ⟨z, hx, hz, fin_str hS q⟩)
    · cases e
  · cases e
theorem me_slice {lo hi : Option Expr} {l h : OvM} {p2 : Pos} (ha : ME tb X a ea) (hl : MO tb X lo l) (hh : MO tb X hi h) : ME tb X (.Subscript a (.Slice lo hi none p2) pos) (slM ea l h) := by
  refine PE.imp (pe_slice sl_all ha hl hh) fun σ H Q hw => ?_
  obtain ⟨m, S, γ, d, S', hS, hγ, e1, q⟩ := hw
  unfold slM at e1
  split at e1
  · cases e1
  · rename_i x S1 h1
    split at e1
    · cases e1
    · rename_i u S2 h2
      split at e1
      · cases e1
      · rename_i v S3 h3
        refine ⟨m, S, γ, x, S1, hS, hγ, h1, fun w H1 m1 x1 hS1 hx => ?_⟩
        refine ⟨m1, S1, γ, u, S2, hS1, hγ.mono x1, h2, fun H2 m2 x2 hS2 => ?_⟩
        refine ⟨m2, S2, γ, v, S3, hS2, (hγ.mono x1).mono x2, h3, fun H3 m3 x3 hS3 => ?_⟩
        exact slF_ok e1 hS3 ((hx.mono x2).mono x3) fun y H4 m4 x4 => q y H4 m4 (x1.trans (x2.trans (x3.trans x4)))
/-- xs[::-1] of a list -/
def revM (ea : EvM) : EvM := fun γ S => match ea γ S with
  | some (.ref n, S1) => match S1[n]? with
    | some (.lst xs) => some (.ref S1.length, S1 ++ [.lst xs.reverse])
    | _ => none
  | _ => none
theorem me_rev {k : Nat} {p1 p2 p3 : Pos} (ha : ME tb X a ea) : ME tb X (.Subscript a (.Slice none none (some (.UnaryOp .USub (.Constant (.int 1) k p1) p2)) p3) pos) (revM ea) := by
  refine PE.imp (pe_revL ha) fun σ H Q h => ?_
  obtain ⟨m, S, γ, d, S', hS, hγ, e1, q⟩ := h
  unfold revM at e1
  split at e1
  · rename_i n S1 h1
    split at e1
    · rename_i xs h2
      cases e1
      refine ⟨m, S, γ, _, _, hS, hγ, h1, fun w H1 m1 x1 hS1 hw => ?_⟩
      simp only [Rp] at hw
      obtain ⟨a, ea, rfl⟩ := hw
      obtain ⟨a', vs, m2, k1, r1⟩ := hS1.lst h2
      rw [ea] at m2; cases m2
      exact ⟨a, vs, rfl, SqL.of k1, fin_lst hS1 r1.reverse fun y H4 m4 x4 => q y H4 m4 (x1.trans x4)⟩
    · cases e1
  · cases e1
/-! ### arguments, displays -/
def nilA : AvM := fun _ S => some ([], S)
def consA (e : EvM) (r : AvM) : AvM := fun γ S => match e γ S with
  | none => none
  | some (x, S1) => match r γ S1 with
    | none => none
    | some (xs, S2) => some (x :: xs, S2)
theorem tnil_core {σ : L2.St} {H : Hp} {Q : List V → Hp → Prop} (h : tAM K nilA σ H Q) : tNil σ H Q := by
  obtain ⟨m, S, γ, d, S', hS, hγ, e1, q⟩ := h
  cases e1
  exact q [] H m .refl hS Rps.nil
theorem tcons_core {ra : AvM} {σ : L2.St} {H : Hp} {Q : List V → Hp → Prop} (h : tAM K (consA ea ra) σ H Q) : tCons (tM K ea) (tAM K ra) σ H Q := by
  obtain ⟨m, S, γ, d, S', hS, hγ, e1, q⟩ := h
  unfold consA at e1
  split at e1
  · cases e1
  · rename_i x S1 h1
    split at e1
    · cases e1
    · rename_i xs S2 h2
      cases e1
      refine ⟨m, S, γ, x, S1, hS, hγ, h1, fun w H1 m1 x1 hS1 hw => ?_⟩
      refine ⟨m1, S1, γ, xs, _, hS1, hγ.mono x1, h2, fun ws H2 m2 x2 hS2 hws => ?_⟩
      exact q _ H2 m2 (x1.trans x2) hS2 (Rps.cons (hw.mono x2) hws)
theorem ma_nil : MA tb X [] nilA := PA.imp pa_nil fun _ _ _ h => tnil_core h
theorem ma_cons {ra : AvM} (ha : ME tb X e ea) (hr : MA tb X es ra) (hs : starEach (e :: es) X.env = (false, eval e X.env) :: starEach es X.env := by rfl) : MA tb X (e :: es) (consA ea ra) :=
  PA.imp (pa_cons ha hr hs) fun _ _ _ h => tcons_core h
theorem mk_nil : MK tb X [] nilA := PK.imp pk_nil fun _ _ _ h => tnil_core h
theorem mk_cons {kws : List Keyword} {nm : Option Str} {kpos : Pos} {ra : AvM} (ha : ME tb X e ea) (hr : MK tb X kws ra) : MK tb X (⟨nm, e, kpos⟩ :: kws) (consA ea ra) :=
  PK.imp (pk_cons ha hr) fun _ _ _ h => tcons_core h
def tupM (r : AvM) : EvM := fun γ S => match r γ S with
  | some (xs, S') => if xs.length ≤ sizeLine then some (.tup xs, S') else none
  | none => none
def lstM (r : AvM) : EvM := fun γ S => match r γ S with
  | some (xs, S') => if xs.length ≤ sizeLine then some (.ref S'.length, S' ++ [.lst xs]) else none
  | none => none
theorem me_tup {x1 : Nat} {r : AvM} (h : MA tb X es r) : ME tb X (.Tuple es x1 pos) (tupM r) := by
  refine PE.imp (pe_tup h) fun σ H Q hw => ?_
  obtain ⟨m, S, γ, d, S', hS, hγ, e1, q⟩ := hw
  unfold tupM at e1
  split at e1
  · rename_i xs S1 h1
    split at e1
    · rename_i hz
      cases e1
      refine ⟨m, S, γ, xs, _, hS, hγ, h1, fun vs H1 m1 x1 hS1 hv => ⟨by rw [hv.length]; exact hz, ?_⟩⟩
      exact fin_tup hS1 hv fun y H4 m4 x4 => q y H4 m4 (x1.trans x4)
    · cases e1
  · cases e1
theorem me_lst {r : AvM} (h : MA tb X es r) : ME tb X (.List es pos) (lstM r) := by
  refine PE.imp (pe_lst h) fun σ H Q hw => ?_
  obtain ⟨m, S, γ, d, S', hS, hγ, e1, q⟩ := hw
  unfold lstM at e1
  split at e1
  · rename_i xs S1 h1
    split at e1
    · rename_i hz
      cases e1
      refine ⟨m, S, γ, xs, _, hS, hγ, h1, fun vs H1 m1 x1 hS1 hv => ⟨by rw [hv.length]; exact hz, ?_⟩⟩
      exact fin_lst hS1 hv fun y H4 m4 x4 => q y H4 m4 (x1.trans x4)
    · cases e1
  · cases e1
/-! ### truth -/
def truB (S : Sto) : D → Option Bool
  | .non => some false
  | .bl b => some b
  | .int i => some (i != 0)
  | .str z => if z.length ≤ sizeLine then some ((z.length : Int) != 0) else none
  | .tup xs => some (!xs.isEmpty)
  | .rl _ => none
  | .gl _ => none
  | .ref n => match S[n]? with
    | some (.lst xs) => some (!xs.isEmpty)
    | some (.dk kvs) => some (!kvs.isEmpty)
    | _ => none
theorem isEmpty_rps {H m} {xs : List D} {vs : List V} (h : Rps K H m xs vs) : vs.isEmpty = xs.isEmpty := by
  have := h.length
  cases xs <;> cases vs <;> simp_all
theorem truB_ok {H m S d b v} (hS : SR K H m S) (h : Rp K H m d v) (e : truB S d = some b) : TruV K.f v H b := by
  unfold truB at e
  split at e
  · cases e; rw [Rp] at h; subst h; rfl
  · cases e; rw [Rp] at h; subst h; rfl
  · cases e; rw [Rp] at h; subst h; rfl
  · split at e
    · rename_i hz
      cases e; rw [Rp] at h; subst h; exact ⟨hz, rfl⟩
    · cases e
  · rename_i xs
    cases e
    rw [Rp] at h
    obtain ⟨a, vs, rfl, ha, hv⟩ := h
    exact .inr (.inl ⟨vs, ha, by rw [isEmpty_rps hv]⟩)
  · cases e
  · cases e
  · rename_i n
    rw [Rp] at h
    obtain ⟨a, ea, rfl⟩ := h
    split at e
    · rename_i xs h1
      cases e
      obtain ⟨a', vs, m1, k1, r1⟩ := hS.lst h1
      rw [ea] at m1; cases m1
      exact .inl ⟨vs, SqL.of k1, by rw [isEmpty_rps r1]⟩
    · rename_i kvs h1
      cases e
      obtain ⟨a', m1, ws, k1, r1⟩ := hS.addr h1
      rw [ea] at m1; cases m1
      refine .inr (.inr ⟨ws, k1, ?_⟩)
      cases r1 <;> rfl
    · cases e
def truC (e : EvM) : CvM := fun γ S => match e γ S with
  | none => none
  | some (d, S') => match truB S' d with
    | some b => some (b, S')
    | none => none
theorem mt_truth (ha : ME tb X a ea) (he : ∀ whole, isTrue a X.env whole = (do let v ← whole; standAt a.pos; holding [v] (truthy v)) := by intro _; rfl) : MT tb X a (truC ea) := by
  refine PT.imp (pt_truth ha he) fun σ H Q h => ?_
  obtain ⟨m, S, γ, b, S', hS, hγ, e1, q⟩ := h
  unfold truC at e1
  split at e1
  · cases e1
  · rename_i d S1 h1
    split at e1
    · rename_i b' h2
      cases e1
      exact ⟨m, S, γ, d, _, hS, hγ, h1, fun w H1 m1 x1 hS1 hw => ⟨_, truB_ok hS1 hw h2, q H1 m1 x1 hS1⟩⟩
    · cases e1
def notC (c : CvM) : CvM := fun γ S => match c γ S with
  | some (b, S') => some (!b, S')
  | none => none
def andC (c d : CvM) : CvM := fun γ S => match c γ S with
  | some (true, S') => d γ S'
  | some (false, S') => some (false, S')
  | none => none
def orC (c d : CvM) : CvM := fun γ S => match c γ S with
  | some (true, S') => some (true, S')
  | some (false, S') => d γ S'
  | none => none
variable {ca cb : CvM} {rest : List Expr}
theorem mt_not (ha : MT tb X a ca) : MT tb X (.UnaryOp .Not a pos) (notC ca) := by
  refine PT.imp (pt_not ha) fun σ H Q h => ?_
  obtain ⟨m, S, γ, b, S', hS, hγ, e1, q⟩ := h
  unfold notC at e1
  split at e1
  · rename_i b' S1 h1
    cases e1
    exact ⟨m, S, γ, b', _, hS, hγ, h1, fun H1 m1 x1 hS1 => q H1 m1 x1 hS1⟩
  · cases e1
theorem mw_and1 (ha : MT tb X a ca) : MW tb X (.BoolOp .And [a] pos) ca := pw_and1 ha
theorem mw_or1 (ha : MT tb X a ca) : MW tb X (.BoolOp .Or [a] pos) ca := pw_or1 ha
theorem and_core {σ : L2.St} {H : Hp} {Q : Bool → Hp → Prop} (h : tTM K (andC ca cb) σ H Q) : tAnd (tTM K ca) (tTM K cb) σ H Q := by
  obtain ⟨m, S, γ, b, S', hS, hγ, e1, q⟩ := h
  unfold andC at e1
  split at e1
  · rename_i S1 h1
    refine ⟨m, S, γ, true, _, hS, hγ, h1, fun H1 m1 x1 hS1 => ?_⟩
    refine iteT ?_
    exact ⟨m1, _, γ, b, S', hS1, hγ.mono x1, e1, fun H2 m2 x2 hS2 => q H2 m2 (x1.trans x2) hS2⟩
  · rename_i S1 h1
    cases e1
    refine ⟨m, S, γ, false, _, hS, hγ, h1, fun H1 m1 x1 hS1 => ?_⟩
    refine iteF ?_
    exact q H1 m1 x1 hS1
  · cases e1
theorem or_core {σ : L2.St} {H : Hp} {Q : Bool → Hp → Prop} (h : tTM K (orC ca cb) σ H Q) : tOr (tTM K ca) (tTM K cb) σ H Q := by
  obtain ⟨m, S, γ, b, S', hS, hγ, e1, q⟩ := h
  unfold orC at e1
  split at e1
  · rename_i S1 h1
    cases e1
    refine ⟨m, S, γ, true, _, hS, hγ, h1, fun H1 m1 x1 hS1 => ?_⟩
    refine iteT ?_
    exact q H1 m1 x1 hS1
  · rename_i S1 h1
    refine ⟨m, S, γ, false, _, hS, hγ, h1, fun H1 m1 x1 hS1 => ?_⟩
    refine iteF ?_
    exact ⟨m1, _, γ, b, S', hS1, hγ.mono x1, e1, fun H2 m2 x2 hS2 => q H2 m2 (x1.trans x2) hS2⟩
  · cases e1
theorem mw_and (ha : MT tb X a ca) (hb : MW tb X (.BoolOp .And (b :: rest) pos) cb) : MW tb X (.BoolOp .And (a :: b :: rest) pos) (andC ca cb) :=
  PW.imp (pw_and ha hb) fun _ _ _ h => and_core h
theorem mw_or (ha : MT tb X a ca) (hb : MW tb X (.BoolOp .Or (b :: rest) pos) cb) : MW tb X (.BoolOp .Or (a :: b :: rest) pos) (orC ca cb) :=
  PW.imp (pw_or ha hb) fun _ _ _ h => or_core h
/-- .. as values, all but the last one bools -/
def andV (ea eb : EvM) : EvM := fun γ S => match ea γ S with
  | some (.bl true, S') => eb γ S'
  | some (.bl false, S') => some (.bl false, S')
  | _ => none
def orV (ea eb : EvM) : EvM := fun γ S => match ea γ S with
  | some (.bl true, S') => some (.bl true, S')
  | some (.bl false, S') => eb γ S'
  | _ => none
def notV (ea : EvM) : EvM := fun γ S => match ea γ S with
  | some (.bl b, S') => some (.bl (!b), S')
  | _ => none
theorem me_one {op : BoolOp} (h : ME tb X a ea) : ME tb X (.BoolOp op [a] pos) ea := pe_one h
theorem me_and (ha : ME tb X a ea) (hb : ME tb X (.BoolOp .And (b :: rest) pos) eb) : ME tb X (.BoolOp .And (a :: b :: rest) pos) (andV ea eb) := by
  refine PE.imp (pe_and ha hb) fun σ H Q h => ?_
  obtain ⟨m, S, γ, b, S', hS, hγ, e1, q⟩ := h
  unfold andV at e1
  split at e1
  · rename_i S1 h1
    refine ⟨m, S, γ, _, _, hS, hγ, h1, fun w H1 m1 x1 hS1 hw => ⟨true, by rw [Rp] at hw; exact hw, ?_⟩⟩
    refine iteT ?_
    exact ⟨m1, _, γ, b, S', hS1, hγ.mono x1, e1, fun w H2 m2 x2 => q w H2 m2 (x1.trans x2)⟩
  · rename_i S1 h1
    cases e1
    refine ⟨m, S, γ, _, _, hS, hγ, h1, fun w H1 m1 x1 hS1 hw => ⟨false, by rw [Rp] at hw; exact hw, ?_⟩⟩
    refine iteF ?_
    exact q _ H1 m1 x1 hS1 (by rw [Rp])
  · cases e1
theorem me_or (ha : ME tb X a ea) (hb : ME tb X (.BoolOp .Or (b :: rest) pos) eb) : ME tb X (.BoolOp .Or (a :: b :: rest) pos) (orV ea eb) := by
  refine PE.imp (pe_or ha hb) fun σ H Q h => ?_
  obtain ⟨m, S, γ, b, S', hS, hγ, e1, q⟩ := h
  unfold orV at e1
  split at e1
  · rename_i S1 h1
    cases e1
    refine ⟨m, S, γ, _, _, hS, hγ, h1, fun w H1 m1 x1 hS1 hw => ⟨true, by rw [Rp] at hw; exact hw, ?_⟩⟩
    refine iteT ?_
    exact q _ H1 m1 x1 hS1 (by rw [Rp])
  · rename_i S1 h1
    refine ⟨m, S, γ, _, _, hS, hγ, h1, fun w H1 m1 x1 hS1 hw => ⟨false, by rw [Rp] at hw; exact hw, ?_⟩⟩
    refine iteF ?_
    exact ⟨m1, _, γ, b, S', hS1, hγ.mono x1, e1, fun w H2 m2 x2 => q w H2 m2 (x1.trans x2)⟩
  · cases e1
theorem me_not (ha : ME tb X a ea) : ME tb X (.UnaryOp .Not a pos) (notV ea) := by
  refine PE.imp (pe_not ha) fun σ H Q h => ?_
  obtain ⟨m, S, γ, b, S', hS, hγ, e1, q⟩ := h
  unfold notV at e1
  split at e1
  · rename_i k S1 h1
    cases e1
    exact ⟨m, S, γ, _, _, hS, hγ, h1, fun w H1 m1 x1 hS1 hw => ⟨k, by rw [Rp] at hw; exact hw, q _ H1 m1 x1 hS1 (by rw [Rp])⟩⟩
  · cases e1
/-- a if t else b -/
def ifM (c : CvM) (ea eb : EvM) : EvM := fun γ S => match c γ S with
  | some (true, S') => ea γ S'
  | some (false, S') => eb γ S'
  | none => none
theorem me_if (hc : MT tb X c ca) (ha : ME tb X a ea) (hb : ME tb X b eb) : ME tb X (.IfExp c a b pos) (ifM ca ea eb) := by
  refine PE.imp (pe_ifExp hc ha hb) fun σ H Q h => ?_
  obtain ⟨m, S, γ, d, S', hS, hγ, e1, q⟩ := h
  unfold ifM at e1
  split at e1
  · rename_i S1 h1
    refine ⟨m, S, γ, true, _, hS, hγ, h1, fun H1 m1 x1 hS1 => ?_⟩
    refine iteT ?_
    exact ⟨m1, _, γ, d, S', hS1, hγ.mono x1, e1, fun w H2 m2 x2 => q w H2 m2 (x1.trans x2)⟩
  · rename_i S1 h1
    refine ⟨m, S, γ, false, _, hS, hγ, h1, fun H1 m1 x1 hS1 => ?_⟩
    refine iteF ?_
    exact ⟨m1, _, γ, d, S', hS1, hγ.mono x1, e1, fun w H2 m2 x2 => q w H2 m2 (x1.trans x2)⟩
  · cases e1
/-! ### calls of built-ins -/
def FOkN (K : Kx) (F : List D → Sto → Option (D × Sto)) (r : List V → Hp → VK → Prop) : Prop :=
  ∀ xs S d S', F xs S = some (d, S') → ∀ H m vs Q, SR K H m S → Rps K H m xs vs → Fin K H m S' d Q → r vs H Q
def appM (F : List D → Sto → Option (D × Sto)) (r : AvM) : EvM := fun γ S => match r γ S with
  | some (xs, S') => F xs S'
  | none => none
theorem app_core {F : List D → Sto → Option (D × Sto)} {r : List V → Hp → VK → Prop} {ra : AvM} (hF : FOkN K F r) {σ : L2.St} {H : Hp} {Q : VK} (h : tM K (appM F ra) σ H Q) : tAM K ra σ H fun vs H1 => r vs H1 Q := by
  obtain ⟨m, S, γ, d, S', hS, hγ, e1, q⟩ := h
  unfold appM at e1
  split at e1
  · rename_i xs S1 h1
    exact ⟨m, S, γ, xs, S1, hS, hγ, h1, fun vs H1 m1 x1 hS1 hv => hF xs S1 d S' e1 H1 m1 vs Q hS1 hv fun w H2 m2 x2 => q w H2 m2 (x1.trans x2)⟩
  · cases e1
variable {x : Str} {p : Pos} {ra : AvM} {F : List D → Sto → Option (D × Sto)} {r : List V → Hp → VK → Prop}
theorem me_callB {id : String} (hc : CallR X (.builtin id) r) (hF : FOkN (kx tb X) F r) (hg : Gl X x) (hm : X.mg x = none) (hv : bootBuiltins x = some (.builtin id)) (ha : MA tb X (e :: es) ra) (hn : x ≠ "__name__" := by decide) (hdb : (x == ("__debug__" : Str)) = false := by decide)
    (he : starEach (e :: es) X.env = (false, eval e X.env) :: starEach es X.env := by rfl) (hpl : (backTo pos (starEach es X.env)).any (·.1) = false := by rfl) : ME tb X (.Call (.Name x p) (e :: es) [] pos) (appM F ra) :=
  PE.imp (pe_callB hc hg hm hv ha hn hdb he hpl) fun _ _ _ h => app_core hF h
theorem me_callTy {T : String} (hc : CallR X (.type T) r) (hF : FOkN (kx tb X) F r) (hg : Gl X x) (hm : X.mg x = none) (hv : bootBuiltins x = some (.type T)) (ha : MA tb X (e :: es) ra) (hn : x ≠ "__name__" := by decide) (hdb : (x == ("__debug__" : Str)) = false := by decide)
    (he : starEach (e :: es) X.env = (false, eval e X.env) :: starEach es X.env := by rfl) (hpl : (backTo pos (starEach es X.env)).any (·.1) = false := by rfl) : ME tb X (.Call (.Name x p) (e :: es) [] pos) (appM F ra) :=
  PE.imp (pe_callTy hc hg hm hv ha hn hdb he hpl) fun _ _ _ h => app_core hF h
end
end Ml
namespace Ml
open L2 PyProof.Rows PySem PySem.Spec
section
variable {tb : List NdefX.NTab} {X : Cx} {K : Kx} {a b c e : Expr} {es : List Expr} {ea eb ec : EvM} {pos : Pos}
/-! ### built-ins -/
def lenF : List D → Sto → Option (D × Sto)
  | [.str z], S => if z.length ≤ sizeLine then some (.int z.length, S) else none
  | [.tup xs], S => some (.int xs.length, S)
  | [.rl xs], S => some (.int xs.length, S)
  | [.ref n], S => match S[n]? with
    | some (.lst xs) => some (.int xs.length, S)
    | _ => none
  | _, _ => none
theorem Rps.one_iff {H m} {x : D} {vs : List V} (h : Rps K H m [x] vs) : ∃ v, vs = [v] ∧ Rp K H m x v := by
  simp only [Rps] at h
  obtain ⟨v, r, rfl, h1, rfl⟩ := h
  exact ⟨v, rfl, h1⟩
theorem Rps.two_iff {H m} {x y : D} {vs : List V} (h : Rps K H m [x, y] vs) : ∃ v w, vs = [v, w] ∧ Rp K H m x v ∧ Rp K H m y w := by
  simp only [Rps] at h
  obtain ⟨v, r, rfl, h1, w, r', rfl, h2, rfl⟩ := h
  exact ⟨v, w, rfl, h1, h2⟩
theorem lenF_ok : FOkN K lenF (fun xs H Q => ∃ x n, xs = [x] ∧ LenV K.f x H n ∧ Q (.int n) H) := by
  intro xs S d S' e H m vs Q hS hx q
  unfold lenF at e
  split at e
  · split at e
    · rename_i z hz
      cases e
      obtain ⟨v, rfl, h1⟩ := hx.one_iff
      rw [Rp] at h1; subst h1
      exact ⟨_, z.length, rfl, ⟨hz, rfl⟩, fin_int hS q⟩
    · cases e
  · rename_i xs
    cases e
    obtain ⟨v, rfl, h1⟩ := hx.one_iff
    rw [Rp] at h1
    obtain ⟨a, ws, rfl, ha, hv⟩ := h1
    exact ⟨_, xs.length, rfl, .inr ⟨ws, ha, hv.length.symm⟩, fin_int hS q⟩
  · rename_i xs
    cases e
    obtain ⟨v, rfl, h1⟩ := hx.one_iff
    rw [Rp] at h1
    obtain ⟨a, ws, rfl, ha, hv⟩ := h1
    exact ⟨_, xs.length, rfl, .inl ⟨ws, ha.sq, hv.length.symm⟩, fin_int hS q⟩
  · rename_i n
    split at e
    · rename_i xs h2
      cases e
      obtain ⟨v, rfl, h1⟩ := hx.one_iff
      rw [Rp] at h1
      obtain ⟨a, ea, rfl⟩ := h1
      obtain ⟨a', ws, m1, k1, r1⟩ := hS.lst h2
      rw [ea] at m1; cases m1
      exact ⟨_, xs.length, rfl, .inl ⟨ws, SqL.of k1, r1.length.symm⟩, fin_int hS q⟩
    · cases e
  · cases e
def intF : List D → Sto → Option (D × Sto)
  | [.int i], S => some (.int i, S)
  | [.bl k], S => some (.int (if k then 1 else 0), S)
  | _, _ => none
theorem intF_ok : FOkN K intF (fun xs H Q => (∃ i, xs = [.int i] ∧ Q (.int i) H) ∨ ∃ k, xs = [.bl k] ∧ Q (.int (if k then 1 else 0)) H) := by
  intro xs S d S' e H m vs Q hS hx q
  unfold intF at e
  split at e
  · cases e
    obtain ⟨v, rfl, h1⟩ := hx.one_iff
    rw [Rp] at h1; subst h1
    exact .inl ⟨_, rfl, fin_int hS q⟩
  · cases e
    obtain ⟨v, rfl, h1⟩ := hx.one_iff
    rw [Rp] at h1; subst h1
    exact .inr ⟨_, rfl, fin_int hS q⟩
  · cases e
def absF : List D → Sto → Option (D × Sto)
  | [.int i], S => some (.int (if i < 0 then -i else i), S)
  | _, _ => none
theorem absF_ok : FOkN K absF (fun xs H Q => ∃ i, xs = [.int i] ∧ Q (.int (if i < 0 then -i else i)) H) := by
  intro xs S d S' e H m vs Q hS hx q
  unfold absF at e
  split at e
  · cases e
    obtain ⟨v, rfl, h1⟩ := hx.one_iff
    rw [Rp] at h1; subst h1
    exact ⟨_, rfl, fin_int hS q⟩
  · cases e
def maxF : List D → Sto → Option (D × Sto)
  | [.int i, .int j], S => some (.int (if j > i then j else i), S)
  | _, _ => none
def minF : List D → Sto → Option (D × Sto)
  | [.int i, .int j], S => some (.int (if j < i then j else i), S)
  | _, _ => none
theorem maxF_ok : FOkN K maxF (fun xs H Q => ∃ i j, xs = [.int i, .int j] ∧ Q (.int (if j > i then j else i)) H) := by
  intro xs S d S' e H m vs Q hS hx q
  unfold maxF at e
  split at e
  · cases e
    obtain ⟨v, w, rfl, h1, h2⟩ := hx.two_iff
    simp only [Rp] at h1 h2; subst h1; subst h2
    exact ⟨_, _, rfl, fin_int hS q⟩
  · cases e
theorem minF_ok : FOkN K minF (fun xs H Q => ∃ i j, xs = [.int i, .int j] ∧ Q (.int (if j < i then j else i)) H) := by
  intro xs S d S' e H m vs Q hS hx q
  unfold minF at e
  split at e
  · cases e
    obtain ⟨v, w, rfl, h1, h2⟩ := hx.two_iff
    simp only [Rp] at h1 h2; subst h1; subst h2
    exact ⟨_, _, rfl, fin_int hS q⟩
  · cases e
def strF : List D → Sto → Option (D × Sto)
  | [.int i], S => if i.natAbs.log2 < 1920 then some (.str (toString i), S) else none
  | _, _ => none
theorem strF_ok : FOkN K strF (fun xs H Q => ∃ i, xs = [.int i] ∧ i.natAbs.log2 < 1920 ∧ Q (.str (toString i)) H) := by
  intro xs S d S' e H m vs Q hS hx q
  unfold strF at e
  split at e
  · split at e
    · rename_i i hz
      cases e
      obtain ⟨v, rfl, h1⟩ := hx.one_iff
      rw [Rp] at h1; subst h1
      exact ⟨_, rfl, hz, fin_str hS q⟩
    · cases e
  · cases e
def listF : List D → Sto → Option (D × Sto)
  | [.tup xs], S => some (.ref S.length, S ++ [.lst xs])
  | [.ref n], S => match S[n]? with
    | some (.lst xs) => some (.ref S.length, S ++ [.lst xs])
    | _ => none
  | _, _ => none
theorem listF_ok : FOkN K listF (fun xs H Q => ∃ p ys, xs = [.ref p] ∧ (SqL K.f H p ys ∨ SqT K.f H p ys) ∧ ∀ l, H l = none → Q (.ref l) (upd H l (.lst ys))) := by
  intro xs S d S' e H m vs Q hS hx q
  unfold listF at e
  split at e
  · cases e
    obtain ⟨v, rfl, h1⟩ := hx.one_iff
    rw [Rp] at h1
    obtain ⟨a, ws, rfl, ha, hv⟩ := h1
    exact ⟨a, ws, rfl, .inr ha, fin_lst hS hv q⟩
  · rename_i n
    split at e
    · rename_i xs h2
      cases e
      obtain ⟨v, rfl, h1⟩ := hx.one_iff
      rw [Rp] at h1
      obtain ⟨a, ea, rfl⟩ := h1
      obtain ⟨a', ws, m1, k1, r1⟩ := hS.lst h2
      rw [ea] at m1; cases m1
      exact ⟨a, ws, rfl, .inl (SqL.of k1), fin_lst hS r1 q⟩
    · cases e
  · cases e
def tupleF : List D → Sto → Option (D × Sto)
  | [.tup xs], S => some (.tup xs, S)
  | [.ref n], S => match S[n]? with
    | some (.lst xs) => some (.tup xs, S)
    | _ => none
  | _, _ => none
theorem tupleF_ok : FOkN K tupleF (fun xs H Q => ∃ p ys, xs = [.ref p] ∧ ((SqL K.f H p ys ∧ ∀ l, H l = none → Q (.ref l) (upd H l (.tup ys))) ∨ (SqT K.f H p ys ∧ Q (.ref p) H))) := by
  intro xs S d S' e H m vs Q hS hx q
  unfold tupleF at e
  split at e
  · cases e
    obtain ⟨v, rfl, h1⟩ := hx.one_iff
    rw [Rp] at h1
    obtain ⟨a, ws, rfl, ha, hv⟩ := h1
    exact ⟨a, ws, rfl, .inr ⟨ha, q _ H m .refl hS (by rw [Rp]; exact ⟨a, ws, rfl, ha, hv⟩)⟩⟩
  · rename_i n
    split at e
    · rename_i xs h2
      cases e
      obtain ⟨v, rfl, h1⟩ := hx.one_iff
      rw [Rp] at h1
      obtain ⟨a, ea, rfl⟩ := h1
      obtain ⟨a', ws, m1, k1, r1⟩ := hS.lst h2
      rw [ea] at m1; cases m1
      exact ⟨a, ws, rfl, .inl ⟨SqL.of k1, fin_tup hS r1 q⟩⟩
    · cases e
  · cases e
/-- the truths of a list of bools -/
def blsD : List D → Option (List Bool)
  | [] => some []
  | .bl b :: r => match blsD r with
    | some bs => some (b :: bs)
    | none => none
  | _ :: _ => none
theorem blsD_ok {H m} : ∀ {xs : List D} {vs : List V} {bs : List Bool}, Rps K H m xs vs → blsD xs = some bs → vs = bs.map V.bl
  | [], vs, bs, h, e => by rw [Rps] at h; cases e; subst h; rfl
  | x :: xs, vs, bs, h, e => by
    rw [Rps] at h
    obtain ⟨w, r, rfl, h1, h2⟩ := h
    cases x <;> simp only [blsD, reduceCtorEq] at e
    split at e
    · rename_i bs' h3
      cases e
      rw [Rp] at h1; subst h1
      rw [blsD_ok h2 h3]; rfl
    · cases e
def allF : List D → Sto → Option (D × Sto)
  | [.ref n], S => match S[n]? with
    | some (.lst xs) => match blsD xs with
      | some bs => some (.bl (bs.all id), S)
      | none => none
    | _ => none
  | _, _ => none
def anyF : List D → Sto → Option (D × Sto)
  | [.ref n], S => match S[n]? with
    | some (.lst xs) => match blsD xs with
      | some bs => some (.bl (bs.any id), S)
      | none => none
    | _ => none
  | _, _ => none
theorem allF_ok : FOkN K allF (rAll K.f) := by
  intro xs S d S' e H m vs Q hS hx q
  unfold allF at e
  split at e
  · rename_i n
    split at e
    · rename_i xs h2
      split at e
      · rename_i bs h3
        cases e
        obtain ⟨v, rfl, h1⟩ := hx.one_iff
        rw [Rp] at h1
        obtain ⟨a, ea, rfl⟩ := h1
        obtain ⟨a', ws, m1, k1, r1⟩ := hS.lst h2
        rw [ea] at m1; cases m1
        exact ⟨a, bs, rfl, by rw [← blsD_ok r1 h3]; exact SqL.of k1, fin_bl hS q⟩
      · cases e
    · cases e
  · cases e
theorem anyF_ok : FOkN K anyF (rAny K.f) := by
  intro xs S d S' e H m vs Q hS hx q
  unfold anyF at e
  split at e
  · rename_i n
    split at e
    · rename_i xs h2
      split at e
      · rename_i bs h3
        cases e
        obtain ⟨v, rfl, h1⟩ := hx.one_iff
        rw [Rp] at h1
        obtain ⟨a, ea, rfl⟩ := h1
        obtain ⟨a', ws, m1, k1, r1⟩ := hS.lst h2
        rw [ea] at m1; cases m1
        exact ⟨a, bs, rfl, by rw [← blsD_ok r1 h3]; exact SqL.of k1, fin_bl hS q⟩
      · cases e
    · cases e
  · cases e
/-! ### isinstance -/
/-- the name of a value's type -/
def tyN (S : Sto) : D → Option String
  | .non => some "NoneType"
  | .bl _ => some "bool"
  | .int _ => some "int"
  | .str _ => some "str"
  | .tup _ => some "tuple"
  | .rl _ => none
  | .gl _ => none
  | .ref n => match S[n]? with
    | some (O.lst _) => some "list"
    | some (.dk _) => some "dict"
    | _ => none
theorem tyN_ok {H m S d t v} (hS : SR K H m S) (h : Rp K H m d v) (e : tyN S d = some t) : TyX K.f H v (.type t) := by
  unfold tyN at e
  split at e
  · cases e; rw [Rp] at h; subst h; exact .base .non
  · cases e; rw [Rp] at h; subst h; exact .base (.bl _)
  · cases e; rw [Rp] at h; subst h; exact .base (.int _)
  · cases e; rw [Rp] at h; subst h; exact .base (.str _)
  · cases e
    rw [Rp] at h
    obtain ⟨a, vs, rfl, ha, _⟩ := h
    rcases ha with (ha | ⟨o, ha⟩) | ⟨o, its, n, h1, h2, _⟩
    · exact .base (.tup ha)
    · exact .fTuple ha
    · exact .kTuple h1 h2
  · cases e
  · cases e
  · rw [Rp] at h
    obtain ⟨a, ea, rfl⟩ := h
    split at e
    · rename_i xs h1
      cases e
      obtain ⟨a', vs, m1, k1, r1⟩ := hS.lst h1
      rw [ea] at m1; cases m1
      exact .base (.lst k1)
    · rename_i kvs h1
      cases e
      obtain ⟨a', m1, ws, k1, r1⟩ := hS.addr h1
      rw [ea] at m1; cases m1
      exact .base (.dK k1)
    · cases e
def isiM (T : String) (ea : EvM) : EvM := fun γ S => match ea γ S with
  | none => none
  | some (d, S') => match tyN S' d with
    | some t => match kitB t T with
      | some b => some (.bl b, S')
      | none => none
    | none => none
theorem me_isi {x : Str} {p p2 : Pos} {T : String} {y : Str} (hg : Gl X x) (hm : X.mg x = none) (hv : bootBuiltins x = some (.builtin "isinstance")) (ha : ME tb X a ea) (ht : PE X (.Name y p2) (tC (.ty T))) (hn : x ≠ "__name__" := by decide) (hdb : (x == ("__debug__" : Str)) = false := by decide)
    (hs : starEach [a, .Name y p2] X.env = (false, eval a X.env) :: starEach [.Name y p2] X.env := by rfl) (hpl : (backTo pos (starEach [.Name y p2] X.env)).any (·.1) = false := by rfl) (hs2 : starEach [.Name y p2] X.env = (false, eval (.Name y p2) X.env) :: starEach [] X.env := by rfl) :
    ME tb X (.Call (.Name x p) [a, .Name y p2] [] pos) (isiM T ea) := by
  refine PE.imp (pe_callB call_isi hg hm hv (pa_cons ha (pa_cons ht pa_nil hs2) hs) hn hdb hs hpl) fun σ H Q h => ?_
  obtain ⟨m, S, γ, d, S', hS, hγ, e1, q⟩ := h
  unfold isiM at e1
  split at e1
  · cases e1
  · rename_i d' S1 h1
    split at e1
    · rename_i t h2
      split at e1
      · rename_i b h3
        cases e1
        refine ⟨m, S, γ, d', _, hS, hγ, h1, fun w H1 m1 x1 hS1 hw => ?_⟩
        exact ⟨w, .ty T, .type t, .type T, b, rfl, .ty T, tyN_ok hS1 hw h2, kit_ty h3, q _ H1 m1 x1 hS1 (by rw [Rp])⟩
      · cases e1
    · cases e1
/-! ### methods -/
def FOkM (K : Kx) (F : D → List D → Sto → Option (D × Sto)) (r : V → List V → Hp → VK → Prop) : Prop :=
  ∀ x xs S d S', F x xs S = some (d, S') → ∀ H m vx vs Q, SR K H m S → Rp K H m x vx → Rps K H m xs vs → Fin K H m S' d Q → r vx vs H Q
def tyB (T : String) (S : Sto) : D → Bool
  | .str _ => T == "str"
  | .ref n => match S[n]? with
    | some (.lst _) => T == "list"
    | some (.dk _) => T == "dict"
    | _ => false
  | _ => false
theorem tyB_ok {H m S T d v} (hS : SR K H m S) (h : Rp K H m d v) (e : tyB T S d = true) : tyV K.f T v H := by
  unfold tyB at e
  split at e
  · rw [Rp] at h; subst h
    exact (beq_iff_eq.mp e)
  · rw [Rp] at h
    obtain ⟨a, ea, rfl⟩ := h
    split at e
    · rename_i xs h1
      obtain ⟨a', vs, m1, k1, r1⟩ := hS.lst h1
      rw [ea] at m1; cases m1
      exact .inl ⟨beq_iff_eq.mp e, vs, SqL.of k1⟩
    · rename_i kvs h1
      obtain ⟨a', m1, ws, k1, r1⟩ := hS.addr h1
      rw [ea] at m1; cases m1
      exact .inr (.inr (.inl ⟨beq_iff_eq.mp e, .inl ⟨ws, k1⟩⟩))
    · cases e
  · cases e
def metM (T : String) (F : D → List D → Sto → Option (D × Sto)) (eo : EvM) (ra : AvM) : EvM := fun γ S => match eo γ S with
  | none => none
  | some (x, S1) => if tyB T S1 x = true then match ra γ S1 with
      | none => none
      | some (xs, S2) => F x xs S2
    else none
variable {o : Expr} {eo : EvM} {ra : AvM} {F : D → List D → Sto → Option (D × Sto)} {r : V → List V → Hp → VK → Prop} {name : Str} {apos cpos : Pos} {T id : String}
theorem me_bm (pa : PlainAttrs T) (slot : Slot T name id) (hty : typeOf (.builtin id) = pure (.type "method_descriptor")) (hm : MtR X id r) (hF : FOkM (kx tb X) F r) (ho : ME tb X o eo) (ha : MA tb X (e :: es) ra)
    (hbase : attributeBase o name X.env (eval o X.env) = eval o X.env := by rfl) (hfew : ((backTo cpos (starEach (e :: es) X.env)).all (fun x => !x.1) && (backToKw cpos (keywordEach [] X.env)).all (fun x => x.1.isSome) && decide ((e :: es).length + ([] : List Keyword).length + (if ([] : List Keyword).isEmpty then 0 else 1) < 30)) = true := by rfl) (hline : (apos.endLine == cpos.line) = true := by rfl) (hs : starEach (e :: es) X.env = (false, eval e X.env) :: starEach es X.env := by rfl) (hplain : (backTo cpos (starEach es X.env)).any (·.1) = false := by rfl) :
    ME tb X (.Call (.Attribute o name apos) (e :: es) [] cpos) (metM T F eo ra) := by
  refine PE.imp (pe_bm pa slot hty hm ho ha hbase hfew hline hs hplain) fun σ H Q h => ?_
  obtain ⟨m, S, γ, d, S', hS, hγ, e1, q⟩ := h
  unfold metM at e1
  split at e1
  · cases e1
  · rename_i x S1 h1
    split at e1
    · rename_i ht
      split at e1
      · cases e1
      · rename_i xs S2 h2
        refine ⟨m, S, γ, x, S1, hS, hγ, h1, fun w H1 m1 x1 hS1 hw => ⟨tyB_ok hS1 hw ht, ?_⟩⟩
        refine ⟨m1, S1, γ, xs, S2, hS1, hγ.mono x1, h2, fun ws H2 m2 x2 hS2 hws => ?_⟩
        exact hF x xs S2 d S' e1 H2 m2 w ws Q hS2 (hw.mono x2) hws fun y H3 m3 x3 => q y H3 m3 (x1.trans (x2.trans x3))
    · cases e1
theorem me_bm0 (pa : PlainAttrs T) (slot : Slot T name id) (hty : typeOf (.builtin id) = pure (.type "method_descriptor")) (hm : MtR X id r) (hF : FOkM (kx tb X) F r) (ho : ME tb X o eo)
    (hbase : attributeBase o name X.env (eval o X.env) = eval o X.env := by rfl) (hline : (apos.endLine == cpos.line) = true := by rfl) : ME tb X (.Call (.Attribute o name apos) [] [] cpos) (metM T F eo nilA) := by
  refine PE.imp (pe_bm0 pa slot hty hm ho hbase hline) fun σ H Q h => ?_
  obtain ⟨m, S, γ, d, S', hS, hγ, e1, q⟩ := h
  unfold metM nilA at e1
  split at e1
  · cases e1
  · rename_i x S1 h1
    split at e1
    · rename_i ht
      dsimp only at e1
      refine ⟨m, S, γ, x, S1, hS, hγ, h1, fun w H1 m1 x1 hS1 hw => ⟨tyB_ok hS1 hw ht, ?_⟩⟩
      exact hF x [] S1 d S' e1 H1 m1 w [] Q hS1 hw Rps.nil fun y H3 m3 x3 => q y H3 m3 (x1.trans x3)
    · cases e1
def appendF : D → List D → Sto → Option (D × Sto)
  | .ref n, [y], S => match S[n]? with
    | some (.lst xs) => if xs.length < sizeLine then some (.non, S.set n (.lst (xs ++ [y]))) else none
    | _ => none
  | _, _, _ => none
theorem appendF_ok : FOkM K appendF rAppend := by
  intro x xs S d S' e H m vx vs Q hS hx hxs q
  unfold appendF at e
  split at e
  · rename_i n y
    split at e
    · rename_i zs h1
      split at e
      · rename_i hz
        cases e
        simp only [Rp] at hx
        obtain ⟨a, ea, rfl⟩ := hx
        obtain ⟨v, rfl, hy⟩ := hxs.one_iff
        obtain ⟨a', ws, m1, k1, r1⟩ := hS.lst h1
        rw [ea] at m1; cases m1
        exact ⟨a, ws, v, rfl, rfl, k1, by rw [r1.length]; exact hz, fin_set hS ea k1 (lt_of h1) (r1.append (Rps.one hy)) (by rw [Rp]) q⟩
      · cases e
    · cases e
  · cases e
def popF : D → List D → Sto → Option (D × Sto)
  | .ref n, [], S => match S[n]? with
    | some (.lst xs) => match xs[xs.length - 1]? with
      | some y => some (y, S.set n (.lst xs.dropLast))
      | none => none
    | _ => none
  | _, _, _ => none
theorem Rps.dropLast {H m} {xs : List D} {vs : List V} (h : Rps K H m xs vs) : Rps K H m xs.dropLast vs.dropLast := by
  rw [List.dropLast_eq_take, List.dropLast_eq_take, h.length]
  exact h.take _
theorem popF_ok : FOkM K popF rPop := by
  intro x xs S d S' e H m vx vs Q hS hx hxs q
  unfold popF at e
  split at e
  · rename_i n
    split at e
    · rename_i zs h1
      split at e
      · rename_i y hy
        cases e
        simp only [Rp] at hx
        obtain ⟨a, ea, rfl⟩ := hx
        rw [Rps] at hxs; subst hxs
        obtain ⟨a', ws, m1, k1, r1⟩ := hS.lst h1
        rw [ea] at m1; cases m1
        obtain ⟨v, h2, h3⟩ := r1.get hy
        exact ⟨a, ws, v, rfl, rfl, k1, by rw [r1.length]; exact h2, fin_set hS ea k1 (lt_of h1) r1.dropLast h3 q⟩
      · cases e
    · cases e
  · cases e
def reverseF : D → List D → Sto → Option (D × Sto)
  | .ref n, [], S => match S[n]? with
    | some (.lst xs) => some (.non, S.set n (.lst xs.reverse))
    | _ => none
  | _, _, _ => none
theorem reverseF_ok : FOkM K reverseF rReverse := by
  intro x xs S d S' e H m vx vs Q hS hx hxs q
  unfold reverseF at e
  split at e
  · rename_i n
    split at e
    · rename_i zs h1
      cases e
      simp only [Rp] at hx
      obtain ⟨a, ea, rfl⟩ := hx
      rw [Rps] at hxs; subst hxs
      obtain ⟨a', ws, m1, k1, r1⟩ := hS.lst h1
      rw [ea] at m1; cases m1
      exact ⟨a, ws, rfl, rfl, k1, fin_set hS ea k1 (lt_of h1) r1.reverse (by rw [Rp]) q⟩
    · cases e
  · cases e
def extendF : D → List D → Sto → Option (D × Sto)
  | .ref n, [.ref k], S => match S[n]?, S[k]? with
    | some (.lst xs), some (.lst ys) => if xs.length + ys.length ≤ sizeLine then some (.non, S.set n (.lst (xs ++ ys))) else none
    | _, _ => none
  | .ref n, [.tup ys], S => match S[n]? with
    | some (.lst xs) => if xs.length + ys.length ≤ sizeLine then some (.non, S.set n (.lst (xs ++ ys))) else none
    | _ => none
  | _, _, _ => none
def rExtendT (K : PySem.W.Frag) : V → List V → Hp → VK → Prop := fun x vs H Q => ∃ l b xs zs, x = .ref l ∧ vs = [.ref b] ∧ H l = some (.lst xs) ∧ SqT K H b zs ∧ xs.length + zs.length ≤ sizeLine ∧ Q .non (upd H l (.lst (xs ++ zs)))
open AutoSeq1 in
/-- xs.extend(t) by objects -/
theorem ext_tup (l b : Addr) (xs ys : Array Value) (n k : Nat) (dd : Option Addr) (sl : Array (Option Value))
    (h0 : ¬(!xs.isEmpty && Builtin.List.listTooLong (xs.size + ys.size)) = true) (h1 : xs.size ≤ sizeLine) (h2 : xs.size + ys.size ≤ sizeLine + 1) :
    Meets (Builtin.«list.extend» ⟨[.ref l, .ref b], []⟩) (fun _ R s => s.heap.get? l = some { cls := .type "list", dict := none, data := .seq xs n, slots := #[] } ∧
      s.heap.get? b = some { cls := .type "tuple", dict := dd, data := .seq ys k, slots := sl } ∧ R (.ok (.ret Value.none)) { s with heap := s.heap.update l (Obj.mapSeq fun x => x ++ ys), toks := s.toks }) :=
  .of_wp fun prog w A R s hq => by
    obtain ⟨hp, g, d, tk, os0⟩ := s
    obtain ⟨hl, hb, h⟩ := hq
    have f1 := AutoSeq1.sub_tuple_tuple
    have f2 := AutoSeq1.sub_list_list
    have f3 := AutoSeq1.sub_tuple_list
    have f4 := AutoSeq1.sub_list_tuple
    have hz : (xs ++ ys).size ≤ sizeLine + 1 := by rw [Array.size_append]; exact h2
    wp_walk using (wpAny_updateSeq hl rfl (hz := h1) (_hz' := hz)), AutoSeq1.wpAny_loadPart' hl, AutoSeq1.wpAny_loadPart' hb
    exact ⟨_, rfl, h⟩
theorem mt_extendT : MtR X "list.extend" (rExtendT X.K) := by
  intro pins s σ H x vs v us Q I rx rv hq
  obtain ⟨l, b, xs, zs, rfl, rfl, hH, hB, hz, q⟩ := hq
  cases rx
  obtain ⟨u, rfl, ru⟩ := Vals.one rv
  cases ru
  obtain ⟨z1, its, n, r, hl, e⟩ := I.lstM hH
  obtain ⟨its2, r2, ⟨ob, e2, c2, n2, d2⟩, z2⟩ := I.tuple hB
  have hl2 := r2.length
  have hs0 : its.toArray.size + its2.toArray.size ≤ sizeLine := by rw [List.size_toArray, List.size_toArray]; omega
  have hlong : ¬ (!its.toArray.isEmpty && Builtin.List.listTooLong (its.toArray.size + its2.toArray.size)) = true := by rw [notLongL hs0, Bool.and_false]; exact Bool.false_ne_true
  obtain ⟨cb, db, dtb, slb⟩ := ob
  dsimp only at c2 d2
  subst c2 d2
  refine call_meets F.slot_list_extend ⟨_, e, rfl⟩ F.entry_list_extend (F.args_list_extend_2 _ _) (ext_tup l b its.toArray its2.toArray n n2 db slb hlong (by rw [List.size_toArray]; omega) (by omega)) ⟨e, e2, ?_⟩
  refine ⟨.non, _, I.lset (its' := its ++ its2) hH e (by simp) (Vals.append r r2) ?_, rfl, q⟩
  rw [List.length_append]
  omega
theorem mt_extendA : MtR X "list.extend" (fun x vs H Q => rExtend x vs H Q ∨ rExtendT X.K x vs H Q) := MtR.or mt_extend mt_extendT
theorem extendF_ok : FOkM K extendF (fun x vs H Q => rExtend x vs H Q ∨ rExtendT K.f x vs H Q) := by
  intro x xs S d S' e H m vx vs Q hS hx hxs q
  unfold extendF at e
  split at e
  · rename_i n k
    split at e
    · rename_i zs ys h1 h2
      split at e
      · rename_i hz
        cases e
        simp only [Rp] at hx
        obtain ⟨a, ea, rfl⟩ := hx
        obtain ⟨v, rfl, hy⟩ := hxs.one_iff
        simp only [Rp] at hy
        obtain ⟨b, eb, rfl⟩ := hy
        obtain ⟨a', ws, m1, k1, r1⟩ := hS.lst h1
        rw [ea] at m1; cases m1
        obtain ⟨b', us, m2, k2, r2⟩ := hS.lst h2
        rw [eb] at m2; cases m2
        exact .inl ⟨a, b, ws, us, rfl, rfl, k1, k2, by rw [r1.length, r2.length]; exact hz, fin_set hS ea k1 (lt_of h1) (r1.append r2) (by rw [Rp]) q⟩
      · cases e
    · cases e
  · rename_i n ys
    split at e
    · rename_i zs h1
      split at e
      · rename_i hz
        cases e
        simp only [Rp] at hx
        obtain ⟨a, ea, rfl⟩ := hx
        obtain ⟨v, rfl, hy⟩ := hxs.one_iff
        simp only [Rp] at hy
        obtain ⟨b, us, rfl, hb, r2⟩ := hy
        obtain ⟨a', ws, m1, k1, r1⟩ := hS.lst h1
        rw [ea] at m1; cases m1
        exact .inr ⟨a, b, ws, us, rfl, rfl, k1, hb, by rw [r1.length, r2.length]; exact hz, fin_set hS ea k1 (lt_of h1) (r1.append r2) (by rw [Rp]) q⟩
      · cases e
    · cases e
  · cases e
/-! ### calls of own defs -/
/-- a def's promise: what F tells of its n arguments -/
def spM (K : Kx) (n : Nat) (F : List D → Sto → Option (D × Sto)) : Sp := fun vs H Q _ => ∃ m S xs d S', xs.length = n ∧ SR K H m S ∧ Rps K H m xs vs ∧ F xs S = some (d, S') ∧ Fin K H m S' d Q
def callM (n : Nat) (F : List D → Sto → Option (D × Sto)) (ra : AvM) : EvM := fun γ S => match ra γ S with
  | some (xs, S') => if xs.length = n then F xs S' else none
  | none => none
section
variable {k : Nat} {f : Addr} {fd : FuncData} {ps : List Str} {n : Nat} {G : List D → Sto → Option (D × Sto)} {x : Str} {p : Pos}
theorem call_core {σ : L2.St} {H : Hp} {Q : VK} {E : XK} (h : tM K (callM n G ra) σ H Q) : tCall (spM K n G) [] E (tAM K ra) σ H Q := by
  obtain ⟨m, S, γ, d, S', hS, hγ, e1, q⟩ := h
  unfold callM at e1
  split at e1
  · rename_i xs S1 h1
    split at e1
    · rename_i hn
      refine ⟨m, S, γ, xs, S1, hS, hγ, h1, fun vs H1 m1 x1 hS1 hv => ?_⟩
      show spM K n G (vs ++ []) H1 Q E
      rw [List.append_nil]
      exact ⟨m1, S1, xs, d, S', hn, hS1, hv, e1, fun w H2 m2 x2 => q w H2 m2 (x1.trans x2)⟩
    · cases e1
  · cases e1
theorem me_call (F : FnOk X.prog X.w X.K X.mg X.base CX0 k f fd ps (spM (kx tb X) n G)) (hr : Room k X.A) (hg : Gl X x) (hm : X.mg x = some (.ref f)) (hk : PySem.W.keepIn X.K (.ref f) = true) (hb : Binds X.K fd ps [])
    (ha : MA tb X (e :: es) ra) (hdb : (x == ("__debug__" : Str)) = false := by decide) (he : starEach (e :: es) X.env = (false, eval e X.env) :: starEach es X.env := by rfl) (hpl : (backTo pos (starEach es X.env)).any (·.1) = false := by rfl) :
    ME tb X (.Call (.Name x p) (e :: es) [] pos) (callM n G ra) :=
  PE.imp (pe_call F hr hg hm hk hb .nil pass0 ha hdb he hpl) fun _ _ _ h => call_core h
theorem me_call0 (F : FnOk X.prog X.w X.K X.mg X.base CX0 k f fd ps (spM (kx tb X) n G)) (hr : Room k X.A) (hg : Gl X x) (hm : X.mg x = some (.ref f)) (hk : PySem.W.keepIn X.K (.ref f) = true) (hb : Binds X.K fd ps [])
    (hdb : (x == ("__debug__" : Str)) = false := by decide) : ME tb X (.Call (.Name x p) [] [] pos) (callM n G nilA) :=
  PE.imp (pe_call0 F hr hg hm hk hb .nil pass0 hdb) fun σ H Q h => by
    obtain ⟨m, S, γ, ds, S', hS, hγ, h1, q⟩ := call_core (K := kx tb X) (E := E0) h
    cases h1
    exact q [] H m .refl hS Rps.nil
end
end
end Ml
namespace Ml
open L2 PyProof.Rows PySem PySem.Spec
open Classical in
/-- how a piece of code ends -/
inductive Fl where
  | nx | rt (d : D) | bk | ct
abbrev SvM := Sl → Sto → Option (Fl × Sl × Sto)
/-- what is wanted behind -/
def EndM (K : Kx) (H : Hp) (m : List Addr) (S' : Sto) (γ' : Sl) (Dn : Ends) : Fl → Prop
  | .nx => ∀ σ' H' m', Ext K H m H' m' → SR K H' m' S' → SLR K H' m' γ' σ' → Dn.nx σ' H'
  | .bk => ∀ σ' H' m', Ext K H m H' m' → SR K H' m' S' → SLR K H' m' γ' σ' → Dn.bk σ' H'
  | .ct => ∀ σ' H' m', Ext K H m H' m' → SR K H' m' S' → SLR K H' m' γ' σ' → Dn.ct σ' H'
  | .rt d => Fin K H m S' d Dn.rt
theorem EndM.mono {K H m H1 m1 S' γ' Dn f} (e : Ext K H m H1 m1) (h : EndM K H m S' γ' Dn f) : EndM K H1 m1 S' γ' Dn f := by
  cases f with
  | nx => exact fun σ' H' m' x => h σ' H' m' (e.trans x)
  | bk => exact fun σ' H' m' x => h σ' H' m' (e.trans x)
  | ct => exact fun σ' H' m' x => h σ' H' m' (e.trans x)
  | rt d => exact fun w H' m' x => h w H' m' (e.trans x)
def tSM (K : Kx) (s : SvM) : TS := fun Dn σ H => ∃ m S γ f γ' S', SR K H m S ∧ SLR K H m γ σ ∧ s γ S = some (f, γ', S') ∧ EndM K H m S' γ' Dn f
abbrev MS (tb : List NdefX.NTab) (X : Cx) (e : Stmt) (s : SvM) : Prop := PS X e (tSM (kx tb X) s)
abbrev MSs (tb : List NdefX.NTab) (X : Cx) (e : List Stmt) (s : SvM) : Prop := PSs X e (tSM (kx tb X) s)
section
variable {tb : List NdefX.NTab} {X : Cx} {K : Kx} {a b c e : Expr} {es : List Expr} {ea eb ec : EvM} {pos : Pos} {st : Stmt} {rest : List Stmt} {s t : SvM} {ca : CvM}
def nxM : SvM := fun γ S => some (.nx, γ, S)
def seqM (s t : SvM) : SvM := fun γ S => match s γ S with
  | some (.nx, γ', S') => t γ' S'
  | r => r
theorem mss_nil : MSs tb X [] nxM := PSs.imp pss_nil fun Dn σ H h => by
  obtain ⟨m, S, γ, f, γ', S', hS, hγ, e, q⟩ := h
  cases e
  exact q σ H m .refl hS hγ
theorem mss_one (h : MS tb X st s) : MSs tb X [st] s := pss_one h
theorem mss_cons (h1 : MS tb X st s) (h2 : MSs tb X rest t) : MSs tb X (st :: rest) (seqM s t) := PSs.imp (pss_cons h1 h2) fun Dn σ H h => by
  obtain ⟨m, S, γ, f, γ', S', hS, hγ, e, q⟩ := h
  unfold seqM at e
  split at e
  · rename_i γ1 S1 h1
    refine ⟨m, S, γ, .nx, γ1, S1, hS, hγ, h1, fun σ1 H1 m1 x1 hS1 hγ1 => ?_⟩
    exact ⟨m1, S1, γ1, f, γ', S', hS1, hγ1, e, q.mono x1⟩
  · rename_i hn
    refine ⟨m, S, γ, f, γ', S', hS, hγ, e, ?_⟩
    cases f with
    | nx => exact (hn γ' S' e).elim
    | bk => exact q
    | ct => exact q
    | rt d => exact q
theorem ms_pass : MS tb X (.Pass pos) nxM := PS.imp ps_pass fun Dn σ H h => by
  obtain ⟨m, S, γ, f, γ', S', hS, hγ, e, q⟩ := h
  cases e
  exact q σ H m .refl hS hγ
def bkM : SvM := fun γ S => some (.bk, γ, S)
def ctM : SvM := fun γ S => some (.ct, γ, S)
theorem ms_break : MS tb X (.Break pos) bkM := PS.imp ps_break fun Dn σ H h => by
  obtain ⟨m, S, γ, f, γ', S', hS, hγ, e, q⟩ := h
  cases e
  exact q σ H m .refl hS hγ
theorem ms_continue : MS tb X (.Continue pos) ctM := PS.imp ps_continue fun Dn σ H h => by
  obtain ⟨m, S, γ, f, γ', S', hS, hγ, e, q⟩ := h
  cases e
  exact q σ H m .refl hS hγ
def exM (e : EvM) : SvM := fun γ S => match e γ S with
  | some (_, S') => some (.nx, γ, S')
  | none => none
theorem ms_expr (he : ME tb X e ea) (hs : swapsWith e none pos.line X.env = pure false := by rfl) : MS tb X (.Expr e pos) (exM ea) := PS.imp (ps_expr he hs) fun Dn σ H h => by
  obtain ⟨m, S, γ, f, γ', S', hS, hγ, e, q⟩ := h
  unfold exM at e
  split at e
  · rename_i d S1 h1
    cases e
    exact ⟨m, S, γ, d, _, hS, hγ, h1, fun w H1 m1 x1 hS1 _ => q σ H1 m1 x1 hS1 (hγ.mono x1)⟩
  · cases e
def rtM (e : EvM) : SvM := fun γ S => match e γ S with
  | some (d, S') => some (.rt d, γ, S')
  | none => none
theorem ms_ret (he : ME tb X e ea) : MS tb X (.Return (some e) pos) (rtM ea) := PS.imp (ps_ret he) fun Dn σ H h => by
  obtain ⟨m, S, γ, f, γ', S', hS, hγ, e, q⟩ := h
  unfold rtM at e
  split at e
  · rename_i d S1 h1
    cases e
    exact ⟨m, S, γ, d, _, hS, hγ, h1, q⟩
  · cases e
def rtN : SvM := fun γ S => some (.rt .non, γ, S)
theorem ms_retN : MS tb X (.Return none pos) rtN := PS.imp ps_retN fun Dn σ H h => by
  obtain ⟨m, S, γ, f, γ', S', hS, hγ, e, q⟩ := h
  cases e
  exact q _ H m .refl hS (by rw [Rp])
def ifS (c : CvM) (s t : SvM) : SvM := fun γ S => match c γ S with
  | some (true, S') => s γ S'
  | some (false, S') => t γ S'
  | none => none
theorem ms_if {x y : List Stmt} (hc : MT tb X c ca) (ha : MSs tb X x s) (hb : MSs tb X y t) : MS tb X (.If c x y pos) (ifS ca s t) := PS.imp (ps_if hc ha hb) fun Dn σ H h => by
  obtain ⟨m, S, γ, f, γ', S', hS, hγ, e, q⟩ := h
  unfold ifS at e
  split at e
  · rename_i S1 h1
    exact ⟨m, S, γ, true, S1, hS, hγ, h1, fun H1 m1 x1 hS1 => iteT ⟨m1, S1, γ, f, γ', S', hS1, hγ.mono x1, e, q.mono x1⟩⟩
  · rename_i S1 h1
    exact ⟨m, S, γ, false, S1, hS, hγ, h1, fun H1 m1 x1 hS1 => iteF ⟨m1, S1, γ, f, γ', S', hS1, hγ.mono x1, e, q.mono x1⟩⟩
  · cases e
/-! ### targets -/
abbrev TvM := D → Sl → Sto → Option (Sl × Sto)
def tGM (K : Kx) (g : TvM) : TG := fun v σ H Q => ∃ m S γ d γ' S', SR K H m S ∧ SLR K H m γ σ ∧ Rp K H m d v ∧ g d γ S = some (γ', S') ∧ ∀ σ' H' m', Ext K H m H' m' → SR K H' m' S' → SLR K H' m' γ' σ' → Q σ' H'
theorem PG.imp {e : Expr} {t t' : TG} (h : PG X e t) (hi : ∀ v σ H Q, t' v σ H Q → t v σ H Q) : PG X e t' := ⟨fun pins s σ H v u Q I r q => h.run pins s σ H v u Q I r (hi v σ H Q q)⟩
abbrev MG (tb : List NdefX.NTab) (X : Cx) (e : Expr) (g : TvM) : Prop := PG X e (tGM (kx tb X) g)
def nameG (i : Nat) : TvM := fun d γ S => some (γ.set i (some d), S)
theorem mg_name (i : Nat) {x : Str} (hN : X.N.Nodup) (hi : X.N[i]? = some x) (hx : Loc X.env.scope x) (hf : X.fn x = true ∨ X.env.scope.names.lookup x = some .local := by first | exact .inl rfl | exact .inr rfl | assumption) : MG tb X (.Name x pos) (nameG i) :=
  PG.imp (pg_name hN hi hx hf) fun v σ H Q h => by
    obtain ⟨m, S, γ, d, γ', S', hS, hγ, hd, e, q⟩ := h
    cases e
    exact q _ H m .refl hS (hγ.set hd)
/-- several targets -/
def tGsM (K : Kx) (g : List D → Sl → Sto → Option (Sl × Sto)) : TGs := fun v σ H Q => ∃ m S γ d γ' S', SR K H m S ∧ SLR K H m γ σ ∧ Rps K H m d v ∧ g d γ S = some (γ', S') ∧ ∀ σ' H' m', Ext K H m H' m' → SR K H' m' S' → SLR K H' m' γ' σ' → Q σ' H'
theorem PGs.imp {e : List Expr} {t t' : TGs} (h : PGs X e t) (hi : ∀ v σ H Q, t' v σ H Q → t v σ H Q) : PGs X e t' := ⟨fun pins s σ H v u Q I r q => h.run pins s σ H v u Q I r (hi v σ H Q q)⟩
abbrev MGs (tb : List NdefX.NTab) (X : Cx) (e : List Expr) (g : List D → Sl → Sto → Option (Sl × Sto)) : Prop := PGs X e (tGsM (kx tb X) g)
def nilG : List D → Sl → Sto → Option (Sl × Sto)
  | [], γ, S => some (γ, S)
  | _ :: _, _, _ => none
def consG (g : TvM) (r : List D → Sl → Sto → Option (Sl × Sto)) : List D → Sl → Sto → Option (Sl × Sto)
  | [], _, _ => none
  | d :: ds, γ, S => match g d γ S with
    | some (γ', S') => r ds γ' S'
    | none => none
theorem mgs_nil : MGs tb X [] nilG := PGs.imp pgs_nil fun v σ H Q h => by
  obtain ⟨m, S, γ, d, γ', S', hS, hγ, hd, e, q⟩ := h
  cases d with
  | nil => cases e; rw [Rps] at hd; exact ⟨hd, q σ H m .refl hS hγ⟩
  | cons x xs => cases e
theorem mgs_cons {g : TvM} {r : List D → Sl → Sto → Option (Sl × Sto)} (h1 : MG tb X e g) (h2 : MGs tb X es r) (hs : (assignEach (e :: es) X.env).map (·.2) = assign e X.env :: (assignEach es X.env).map (·.2) := by rfl) : MGs tb X (e :: es) (consG g r) :=
  PGs.imp (pgs_cons h1 h2 hs) fun v σ H Q h => by
    obtain ⟨m, S, γ, d, γ', S', hS, hγ, hd, e, q⟩ := h
    cases d with
    | nil => cases e
    | cons x xs =>
      rw [Rps] at hd
      obtain ⟨w, vs, rfl, h3, h4⟩ := hd
      replace e : (match g x γ S with | some (γ', S') => r xs γ' S' | none => none) = some (γ', S') := e
      split at e
      · rename_i γ1 S1 h5
        refine ⟨w, vs, rfl, m, S, γ, x, γ1, S1, hS, hγ, h3, h5, fun σ1 H1 m1 x1 hS1 hγ1 => ?_⟩
        exact ⟨m1, S1, γ1, xs, γ', S', hS1, hγ1, h4.mono x1, e, fun σ2 H2 m2 x2 => q σ2 H2 m2 (x1.trans x2)⟩
      · cases e
def tupG (n : Nat) (g : List D → Sl → Sto → Option (Sl × Sto)) : TvM := fun d γ S => match d with
  | .tup xs => if xs.length = n then g xs γ S else none
  | _ => none
theorem mg_tup {k n : Nat} {g : List D → Sl → Sto → Option (Sl × Sto)} (hc : X.calm = true) (h : MGs tb X es g) (hn : (assignEach es X.env).length = n := by rfl) (hst : (assignEach es X.env).findIdx? (·.1) = none := by rfl) : MG tb X (.Tuple es k pos) (tupG n g) :=
  PG.imp (pg_tup hc h hn hst) fun v σ H Q hw => by
    obtain ⟨m, S, γ, d, γ', S', hS, hγ, hd, e, q⟩ := hw
    unfold tupG at e
    split at e
    · rename_i xs
      split at e
      · rename_i hl
        rw [Rp] at hd
        obtain ⟨a, vs, rfl, ha, hv⟩ := hd
        exact ⟨a, vs, rfl, ha, by rw [hv.length]; exact hl, m, S, γ, xs, γ', S', hS, hγ, hv, e, q⟩
      · cases e
    · cases e
/-- xs[i] = .. of a list -/
def subL (eo ei : EvM) : TvM := fun d γ S => match eo γ S with
  | none => none
  | some (x, S1) => match ei γ S1 with
    | none => none
    | some (y, S2) => match x, y with
      | .ref n, .int k => match S2[n]? with
        | some (.lst xs) => match ixN xs.length k with
          | some j => some (γ, S2.set n (.lst (xs.set j d)))
          | none => none
        | _ => none
      | _, _ => none
theorem mg_subL {o i : Expr} {eo ei : EvM} (ho : ME tb X o eo) (hi : ME tb X i ei) (ha : ∀ v, assign (.Subscript o i pos) X.env v = (do
      let ow ← holding [v] (eval o X.env); let iw ← holding [v, ow] (eval i X.env); standAt pos; holding [v, ow, iw] (setItem ow iw v); release [v, ow, iw] []) := by intro _; rfl) : MG tb X (.Subscript o i pos) (subL eo ei) :=
  PG.imp (pg_sub ho hi set_list ha) fun v σ H Q h => by
    obtain ⟨m, S, γ, d, γ', S', hS, hγ, hd, e, q⟩ := h
    unfold subL at e
    split at e
    · cases e
    · rename_i x S1 h1
      split at e
      · cases e
      · rename_i y S2 h2
        split at e
        · rename_i n k
          split at e
          · rename_i xs h3
            split at e
            · rename_i j h4
              cases e
              refine ⟨m, S, γ, _, S1, hS, hγ, h1, fun w H1 m1 x1 hS1 hw => ?_⟩
              refine ⟨m1, S1, γ, _, S2, hS1, hγ.mono x1, h2, fun u H2 m2 x2 hS2 hu => ?_⟩
              have hw2 := hw.mono x2
              simp only [Rp] at hw2 hu
              obtain ⟨a, ea, rfl⟩ := hw2
              subst hu
              obtain ⟨a', ws, m3, k1, r1⟩ := hS2.lst h3
              rw [ea] at m3; cases m3
              have x3 : Ext (kx tb X) H2 m2 (upd H2 a (.lst (ws.set j v))) m2 := .upd k1 trivial
              refine ⟨a, ws, k, j, rfl, rfl, k1, by rw [r1.length]; exact h4, q σ _ m2 (x1.trans (x2.trans x3)) ?_ (hγ.mono (x1.trans (x2.trans x3)))⟩
              exact hS2.upd ea (lt_of h3) ⟨_, upd_same, (Rps.set ((hd.mono x1).mono x2) j r1).mono x3⟩
            · cases e
          · cases e
        · cases e
def asgM (ea : EvM) (g : TvM) : SvM := fun γ S => match ea γ S with
  | none => none
  | some (d, S1) => match g d γ S1 with
    | some (γ', S2) => some (.nx, γ', S2)
    | none => none
theorem asg_core {g : TvM} {Dn : Ends} {σ : L2.St} {H : Hp} (h : tSM K (asgM ea g) Dn σ H) : tAsg (tM K ea) (tGM K g) Dn σ H := by
  obtain ⟨m, S, γ, f, γ', S', hS, hγ, e, q⟩ := h
  unfold asgM at e
  split at e
  · cases e
  · rename_i d S1 h1
    split at e
    · rename_i γ1 S2 h2
      cases e
      refine ⟨m, S, γ, d, S1, hS, hγ, h1, fun w H1 m1 x1 hS1 hw => ?_⟩
      exact ⟨m1, S1, γ, d, _, _, hS1, hγ.mono x1, hw, h2, fun σ2 H2 m2 x2 => q σ2 H2 m2 (x1.trans x2)⟩
    · cases e
theorem ms_asg {tg : Expr} {g : TvM} (he : ME tb X e ea) (hg : MG tb X tg g) (hs : swapsWithSole [tg] e pos.line X.env = pure false := by rfl) (hw : swappedStores [tg] e X.env = pure none := by rfl)
    (h1 : (assignEach [tg] X.env).map (·.2) = [assign tg X.env] := by rfl) : MS tb X (.Assign [tg] e pos) (asgM ea g) := PS.imp (ps_asg he hg hs hw h1) fun _ _ _ h => asg_core h
theorem ms_set (i : Nat) {x : Str} {p : Pos} (hN : X.N.Nodup) (hi : X.N[i]? = some x) (hx : Loc X.env.scope x) (he : ME tb X e ea) (hs : swapsWith e (some (.Name x p)) pos.line X.env = pure false := by rfl) (hf : X.fn x = true ∨ X.env.scope.names.lookup x = some .local := by first | exact .inl rfl | exact .inr rfl | assumption) :
    MS tb X (.Assign [.Name x p] e pos) (asgM ea (nameG i)) := PS.imp (ps_set hN hi hx he hs hf) fun Dn σ H h => by
  obtain ⟨m, S, γ, f, γ', S', hS, hγ, e, q⟩ := h
  unfold asgM nameG at e
  split at e
  · cases e
  · rename_i d S1 h1
    cases e
    exact ⟨m, S, γ, d, _, hS, hγ, h1, fun w H1 m1 x1 hS1 hw => q _ H1 m1 x1 hS1 ((hγ.mono x1).set hw)⟩
/-- x += e, by a rule for two values -/
def augM (i : Nat) (F : D → D → Sto → Option (D × Sto)) (ea : EvM) : SvM := fun γ S => match γ[i]? with
  | some (some x) => match ea γ S with
    | some (y, S1) => match F x y S1 with
      | some (d, S2) => some (.nx, γ.set i (some d), S2)
      | none => none
    | none => none
  | _ => none
theorem ms_aug (i : Nat) {x : Str} {p : Pos} {op : Operator} {ti : TIp} {F : D → D → Sto → Option (D × Sto)} (hN : X.N.Nodup) (hi : X.N[i]? = some x) (hx : Loc X.env.scope x) (he : ME tb X e ea) (ho : PIp X op ti) (hF : FOk2 (kx tb X) F ti) (hf : X.fn x = true ∨ X.env.scope.names.lookup x = some .local := by first | exact .inl rfl | exact .inr rfl | assumption) :
    MS tb X (.AugAssign (.Name x p) op e pos) (augM i F ea) := PS.imp (ps_aug hN hi hx he ho hf) fun Dn σ H h => by
  obtain ⟨m, S, γ, f, γ', S', hS, hγ, e, q⟩ := h
  unfold augM at e
  split at e
  · rename_i x h1
    split at e
    · rename_i y S1 h2
      split at e
      · rename_i d S2 h3
        cases e
        obtain ⟨v, e1, r1⟩ := hγ.at_ i x h1
        refine ⟨v, e1, m, S, γ, y, S1, hS, hγ, h2, fun w H1 m1 x1 hS1 hw => ?_⟩
        exact hF x y S1 d _ h3 H1 m1 v w _ hS1 (r1.mono x1) hw fun u H2 m2 x2 hS2 hu => q _ H2 m2 (x1.trans x2) hS2 ((hγ.mono (x1.trans x2)).set hu)
      · cases e
    · cases e
  · cases e
def iaddF : D → D → Sto → Option (D × Sto) := opI (fun _ _ => true) (fun i j => .int (i + j))
theorem iaddF_ok : FOk2 K iaddF (ipI fun i j => i + j) := opI0_ok (gV := fun i j => .int (i + j)) fun _ _ _ _ => by rw [Rp]
def isubF : D → D → Sto → Option (D × Sto) := opI (fun _ _ => true) (fun i j => .int (i - j))
theorem isubF_ok : FOk2 K isubF (ipI fun i j => i - j) := opI0_ok (gV := fun i j => .int (i - j)) fun _ _ _ _ => by rw [Rp]
/-! ### while -/
def whileN (c : CvM) (b : SvM) : Nat → Sl → Sto → Option (Fl × Sl × Sto)
  | 0, _, _ => none
  | n + 1, γ, S => match c γ S with
    | none => none
    | some (false, S1) => some (.nx, γ, S1)
    | some (true, S1) => match b γ S1 with
      | none => none
      | some (.nx, γ2, S2) => whileN c b n γ2 S2
      | some (.ct, γ2, S2) => whileN c b n γ2 S2
      | some (.bk, γ2, S2) => some (.nx, γ2, S2)
      | some (.rt d, γ2, S2) => some (.rt d, γ2, S2)
/-- how many turns a while has at most -/
def turns : Nat := 100000000
def whileM (c : CvM) (b : SvM) : SvM := whileN c b turns
theorem ms_while {body : List Stmt} {cb : SvM} (hp : PassesOwn (model X.prog X.w) X.A X.env X.xe) (hc : MT tb X c ca) (hb : MSs tb X body cb) : MS tb X (.While c body [] pos) (whileM ca cb) := PS.imp (ps_while hp hc hb) fun Dn σ H h => by
  obtain ⟨m, S, γ, f, γ', S', hS, hγ, e, q⟩ := h
  refine ⟨fun n σ H => ∃ m S γ f γ' S', SR (kx tb X) H m S ∧ SLR (kx tb X) H m γ σ ∧ whileN ca cb n γ S = some (f, γ', S') ∧ EndM (kx tb X) H m S' γ' Dn f, ⟨turns, m, S, γ, f, γ', S', hS, hγ, e, q⟩, ?_⟩
  rintro n σ H ⟨m, S, γ, f, γ', S', hS, hγ, e, q⟩
  cases n with
  | zero => cases e
  | succ n =>
    unfold whileN at e
    split at e
    · cases e
    · rename_i S1 h1
      cases e
      refine ⟨m, S, γ, false, _, hS, hγ, h1, fun H1 m1 x1 hS1 => iteF ?_⟩
      exact q σ H1 m1 x1 hS1 (hγ.mono x1)
    · rename_i S1 h1
      refine ⟨m, S, γ, true, S1, hS, hγ, h1, fun H1 m1 x1 hS1 => iteT ?_⟩
      refine ⟨fun σ H => ∃ m S γ f γ' S', SR (kx tb X) H m S ∧ SLR (kx tb X) H m γ σ ∧ whileN ca cb n γ S = some (f, γ', S') ∧ EndM (kx tb X) H m S' γ' Dn f, fun σ' H' w => ⟨n, Nat.lt_succ_self n, w⟩, ?_⟩
      split at e
      · cases e
      · rename_i γ2 S2 h2
        refine ⟨m1, S1, γ, .nx, γ2, S2, hS1, hγ.mono x1, h2, fun σ2 H2 m2 x2 hS2 hγ2 => ?_⟩
        exact ⟨m2, S2, γ2, f, γ', S', hS2, hγ2, e, q.mono (x1.trans x2)⟩
      · rename_i γ2 S2 h2
        refine ⟨m1, S1, γ, .ct, γ2, S2, hS1, hγ.mono x1, h2, fun σ2 H2 m2 x2 hS2 hγ2 => ?_⟩
        exact ⟨m2, S2, γ2, f, γ', S', hS2, hγ2, e, q.mono (x1.trans x2)⟩
      · rename_i γ2 S2 h2
        cases e
        exact ⟨m1, S1, γ, .bk, _, _, hS1, hγ.mono x1, h2, fun σ2 H2 m2 x2 hS2 hγ2 => q σ2 H2 m2 (x1.trans x2) hS2 hγ2⟩
      · rename_i d γ2 S2 h2
        cases e
        exact ⟨m1, S1, γ, .rt d, _, _, hS1, hγ.mono x1, h2, fun w H2 m2 x2 hS2 hw => q w H2 m2 (x1.trans x2) hS2 hw⟩
end
end Ml
namespace Ml
open L2 PyProof.Rows PySem PySem.Spec
open Classical
/-- what is walked still stands: nothing is asked (a tuple, a range), or the list with that number is the same -/
def Chk : Option (Nat × O) → Sto → Prop
  | none, _ => True
  | some (n, o), S => S[n]? = some o
abbrev IvM := Sl → Sto → Option (Option (Nat × O) × List D × Sto)
structure Walks (K : Kx) (J : It) (H0 : Hp) (m0 : List Addr) (ck : Option (Nat × O)) (xs : List D) : Prop where
  go : ∀ H m S i, Ext K H0 m0 H m → SR K H m S → Chk ck S → i < xs.length → J.go i H ∧ ∀ x H', J.yld i H x H' → ∃ d, xs[i]? = some d ∧ Ext K H m H' m ∧ SR K H' m S ∧ Rp K H' m d x
  stop : ∀ H m S, Ext K H0 m0 H m → SR K H m S → Chk ck S → J.stop xs.length H
def tIM (K : Kx) (iv : IvM) : TI := fun σ H R => ∃ m S γ ck xs S', SR K H m S ∧ SLR K H m γ σ ∧ iv γ S = some (ck, xs, S') ∧
  ∀ J H' m', Ext K H m H' m' → SR K H' m' S' → Walks K J H' m' ck xs → R J H'
abbrev MI (tb : List NdefX.NTab) (X : Cx) (tg iter : Expr) (iv : IvM) : Prop := PI X tg iter (tIM (kx tb X) iv)
section
variable {tb : List NdefX.NTab} {X : Cx} {K : Kx} {a b c e tg iter : Expr} {es : List Expr} {ea eb ec : EvM} {pos : Pos} {st : Stmt} {rest body : List Stmt} {s t : SvM} {ca : CvM}
theorem walks_list {H0 m0 S0 n xs a} (hS : SR K H0 m0 S0) (hm : m0[n]? = some a) : Walks K (Itl K.f a) H0 m0 (some (n, .lst xs)) xs where
  go := fun H m S i x hS hc hi => by
    obtain ⟨a', vs, m1, k1, r1⟩ := hS.lst hc
    rw [x.get hm] at m1; cases m1
    obtain ⟨v, h1, h2⟩ := r1.get (List.getElem?_eq_getElem hi)
    refine ⟨⟨vs, v, SqL.of k1, h1⟩, fun y H' q => ?_⟩
    obtain ⟨rfl, q⟩ := q
    have e := q vs (SqL.of k1)
    rw [h1] at e; cases e
    exact ⟨_, List.getElem?_eq_getElem hi, .refl, hS, h2⟩
  stop := fun H m S x hS hc => by
    obtain ⟨a', vs, m1, k1, r1⟩ := hS.lst hc
    rw [x.get hm] at m1; cases m1
    exact ⟨vs, SqL.of k1, by rw [r1.length]; exact Nat.le_refl _⟩
theorem walks_tup {H0 m0 xs a vs} (ha : SqT K.f H0 a vs) (hv : Rps K H0 m0 xs vs) : Walks K (Itt K.f a) H0 m0 none xs where
  go := fun H m S i x hS _ hi => by
    obtain ⟨v, h1, h2⟩ := hv.get (List.getElem?_eq_getElem hi)
    refine ⟨⟨vs, v, x.tup _ _ ha, h1⟩, fun y H' q => ?_⟩
    obtain ⟨rfl, q⟩ := q
    have e := q vs (x.tup _ _ ha)
    rw [h1] at e; cases e
    exact ⟨_, List.getElem?_eq_getElem hi, .refl, hS, h2.mono x⟩
  stop := fun H m S x hS _ => ⟨vs, x.tup _ _ ha, by rw [hv.length]; exact Nat.le_refl _⟩
/-- the numbers lo, lo + 1, .. -/
def rngD (lo : Int) (n : Nat) : List D := (List.range n).map fun (i : Nat) => D.int (lo + i)
theorem rngD_length {lo n} : (rngD lo n).length = n := by simp [rngD]
theorem rngD_get {lo : Int} {n i : Nat} (h : i < n) : (rngD lo n)[i]? = some (.int (lo + i)) := by simp [rngD, h]
theorem walks_rng {H0 m0 lo n} : Walks K (Itr lo n) H0 m0 none (rngD lo n) where
  go := fun H m S i x hS _ hi => by
    rw [rngD_length] at hi
    refine ⟨hi, fun y H' q => ?_⟩
    obtain ⟨rfl, rfl⟩ := q
    exact ⟨_, rngD_get hi, .refl, hS, by rw [Rp]⟩
  stop := fun H m S x hS _ => by rw [rngD_length]; exact Nat.le_refl _
/-- a list or a tuple -/
def seqI (e : EvM) : IvM := fun γ S => match e γ S with
  | some (.tup xs, S') => some (none, xs, S')
  | some (.ref n, S') => match S'[n]? with
    | some (.lst xs) => some (some (n, .lst xs), xs, S')
    | _ => none
  | _ => none
theorem mi_seq (he : ME tb X iter ea) : MI tb X tg iter (seqI ea) := by
  refine ⟨fun pins s σ H R I hq => ?_⟩
  obtain ⟨m, S, γ, ck, xs, S', hS, hγ, e1, q⟩ := hq
  unfold seqI at e1
  split at e1
  · rename_i ys S1 h1
    cases e1
    refine (pi_tup he).run pins s σ H R I ⟨m, S, γ, _, _, hS, hγ, h1, fun w H1 m1 x1 hS1 hw => ?_⟩
    rw [Rp] at hw
    obtain ⟨a, vs, rfl, ha, hv⟩ := hw
    exact ⟨a, rfl, ⟨vs, ha⟩, q _ H1 m1 x1 hS1 (walks_tup ha hv)⟩
  · rename_i n S1 h1
    split at e1
    · rename_i ys h2
      cases e1
      refine (pi_list he).run pins s σ H R I ⟨m, S, γ, _, _, hS, hγ, h1, fun w H1 m1 x1 hS1 hw => ?_⟩
      rw [Rp] at hw
      obtain ⟨a, ea, rfl⟩ := hw
      obtain ⟨a', vs, m2, k1, r1⟩ := hS1.lst h2
      rw [ea] at m2; cases m2
      exact ⟨a, rfl, ⟨vs, SqL.of k1⟩, q _ H1 m1 x1 hS1 (walks_list hS1 ea)⟩
    · cases e1
  · cases e1
def rng1I (ra : AvM) : IvM := fun γ S => match ra γ S with
  | some ([.int j], S') => if -(2 ^ 62) ≤ j ∧ j < 2 ^ 62 then some (none, rngD 0 j.toNat, S') else none
  | _ => none
def rng2I (ra : AvM) : IvM := fun γ S => match ra γ S with
  | some ([.int i, .int j], S') => if -(2 ^ 62) ≤ i ∧ i < 2 ^ 62 ∧ -(2 ^ 62) ≤ j ∧ j < 2 ^ 62 then some (none, rngD i (j - i).toNat, S') else none
  | _ => none
theorem PI.imp {t t' : TI} (h : PI X tg iter t) (hi : ∀ σ H R, t' σ H R → t σ H R) : PI X tg iter t' := ⟨fun pins s σ H R I q => h.run pins s σ H R I (hi σ H R q)⟩
theorem mi_rng1 {p : Pos} {ra : AvM} (hg : Gl X "range") (hm : X.mg "range" = none) (ha : MA tb X [a] ra) (hs : starEach [a] X.env = [(false, eval a X.env)] := by rfl) : MI tb X tg (.Call (.Name "range" p) [a] [] pos) (rng1I ra) :=
  PI.imp (pi_range1 hg hm ha hs) fun σ H R h => by
    obtain ⟨m, S, γ, ck, xs, S', hS, hγ, e1, q⟩ := h
    unfold rng1I at e1
    split at e1
    · rename_i j S1 h1
      split at e1
      · rename_i hj
        cases e1
        refine ⟨m, S, γ, _, _, hS, hγ, h1, fun vs H1 m1 x1 hS1 hv => ?_⟩
        obtain ⟨v, rfl, hv1⟩ := hv.one_iff
        simp only [Rp] at hv1; subst hv1
        exact ⟨_, rfl, hj.1, hj.2, q _ H1 m1 x1 hS1 walks_rng⟩
      · cases e1
    · cases e1
theorem mi_rng2 {p : Pos} {ra : AvM} (hg : Gl X "range") (hm : X.mg "range" = none) (ha : MA tb X [a, b] ra) (hs : starEach [a, b] X.env = [(false, eval a X.env), (false, eval b X.env)] := by rfl) (hs2 : starEach [b] X.env = [(false, eval b X.env)] := by rfl) :
    MI tb X tg (.Call (.Name "range" p) [a, b] [] pos) (rng2I ra) :=
  PI.imp (pi_range2 hg hm ha hs hs2) fun σ H R h => by
    obtain ⟨m, S, γ, ck, xs, S', hS, hγ, e1, q⟩ := h
    unfold rng2I at e1
    split at e1
    · rename_i i j S1 h1
      split at e1
      · rename_i hj
        cases e1
        refine ⟨m, S, γ, _, _, hS, hγ, h1, fun vs H1 m1 x1 hS1 hv => ?_⟩
        obtain ⟨v, w, rfl, hv1, hw1⟩ := hv.two_iff
        simp only [Rp] at hv1 hw1; subst hv1; subst hw1
        exact ⟨_, _, rfl, hj, q _ H1 m1 x1 hS1 walks_rng⟩
      · cases e1
    · cases e1
/-! ### for -/
noncomputable def forI (ck : Option (Nat × O)) (g : TvM) (b : SvM) : List D → Sl → Sto → Option (Fl × Sl × Sto)
  | [], γ, S => if Chk ck S then some (.nx, γ, S) else none
  | x :: r, γ, S => if Chk ck S then match g x γ S with
      | none => none
      | some (γ1, S1) => match b γ1 S1 with
        | none => none
        | some (.nx, γ2, S2) => forI ck g b r γ2 S2
        | some (.ct, γ2, S2) => forI ck g b r γ2 S2
        | some (.bk, γ2, S2) => some (.nx, γ2, S2)
        | some (.rt d, γ2, S2) => some (.rt d, γ2, S2)
    else none
noncomputable def forM (iv : IvM) (g : TvM) (b : SvM) : SvM := fun γ S => match iv γ S with
  | none => none
  | some (ck, xs, S1) => forI ck g b xs γ S1
theorem drop_cons {α : Type} {xs : List α} {i : Nat} {d : α} (h : xs[i]? = some d) : xs.drop i = d :: xs.drop (i + 1) := by
  obtain ⟨hl, e0⟩ := List.getElem?_eq_some_iff.mp h
  rw [List.drop_eq_getElem_cons hl]; rw [e0]
theorem ms_for {iv : IvM} {g : TvM} {cb : SvM} (hp : PassesOwn (model X.prog X.w) X.A X.env X.xe) (hc : X.calm = true) (hi : MI tb X tg iter iv) (hg : MG tb X tg g) (hb : MSs tb X body cb)
    (hs : ∀ x, foldedSetIterable iter X.env x = pure x := by intro _; rfl) : MS tb X (.For tg iter body [] pos) (forM iv g cb) := PS.imp (ps_for hp hc hi hg hb hs) fun Dn σ H h => by
  obtain ⟨m, S, γ, f, γ', S', hS, hγ, e, q⟩ := h
  unfold forM at e
  split at e
  · cases e
  · rename_i ck xs S1 h1
    refine ⟨m, S, γ, ck, xs, S1, hS, hγ, h1, fun J H1 m1 x1 hS1 wk => ?_⟩
    refine ⟨fun i k σ H => i ≤ xs.length ∧ k = xs.length - i ∧ ∃ m S γ f γ' S', Ext (kx tb X) H1 m1 H m ∧ SR (kx tb X) H m S ∧ SLR (kx tb X) H m γ σ ∧ forI ck g cb (xs.drop i) γ S = some (f, γ', S') ∧ EndM (kx tb X) H m S' γ' Dn f,
      ⟨xs.length, Nat.zero_le _, rfl, m1, S1, γ, f, γ', S', .refl, hS1, hγ.mono x1, e, q.mono x1⟩, ?_⟩
    rintro i k σ H ⟨hi, rfl, m, S, γ, f, γ', S', x2, hS, hγ, e, q⟩
    by_cases hlt : i < xs.length
    · rw [drop_cons (List.getElem?_eq_getElem hlt)] at e
      unfold forI at e
      split at e
      · rename_i hk
        obtain ⟨hgo, hy⟩ := wk.go H m S i x2 hS hk hlt
        refine .inr ⟨hgo, fun σ H => ∃ m S γ f γ' S', Ext (kx tb X) H1 m1 H m ∧ SR (kx tb X) H m S ∧ SLR (kx tb X) H m γ σ ∧ forI ck g cb (xs.drop (i + 1)) γ S = some (f, γ', S') ∧ EndM (kx tb X) H m S' γ' Dn f,
          fun σ' H' w => ⟨xs.length - (i + 1), by omega, hlt, rfl, w⟩, fun v H2 yl => ?_⟩
        obtain ⟨d, hd, x3, hS2, hv⟩ := hy v H2 yl
        rw [List.getElem?_eq_getElem hlt] at hd
        cases hd
        split at e
        · cases e
        · rename_i γ1 S2 h2
          refine ⟨m, S, γ, _, γ1, S2, hS2, hγ.mono x3, hv, h2, fun σ3 H3 m3 x4 hS3 hγ3 => ?_⟩
          have x5 := x2.trans (x3.trans x4)
          have x6 := x3.trans x4
          split at e
          · cases e
          · rename_i γ2 S4 h3
            refine ⟨m3, S2, γ1, .nx, γ2, S4, hS3, hγ3, h3, fun σ4 H4 m4 x7 hS4 hγ4 => ?_⟩
            exact ⟨m4, S4, γ2, f, γ', S', x5.trans x7, hS4, hγ4, e, q.mono (x6.trans x7)⟩
          · rename_i γ2 S4 h3
            refine ⟨m3, S2, γ1, .ct, γ2, S4, hS3, hγ3, h3, fun σ4 H4 m4 x7 hS4 hγ4 => ?_⟩
            exact ⟨m4, S4, γ2, f, γ', S', x5.trans x7, hS4, hγ4, e, q.mono (x6.trans x7)⟩
          · rename_i γ2 S4 h3
            cases e
            exact ⟨m3, S2, γ1, .bk, _, _, hS3, hγ3, h3, fun σ4 H4 m4 x7 hS4 hγ4 => q σ4 H4 m4 (x6.trans x7) hS4 hγ4⟩
          · rename_i d γ2 S4 h3
            cases e
            exact ⟨m3, S2, γ1, .rt d, _, _, hS3, hγ3, h3, fun w H4 m4 x7 hS4 hw => q w H4 m4 (x6.trans x7) hS4 hw⟩
      · cases e
    · have hi2 : i = xs.length := by omega
      subst hi2
      rw [List.drop_length] at e
      unfold forI at e
      split at e
      · rename_i hk
        cases e
        exact .inl ⟨wk.stop H m S x2 hS hk, q σ H m .refl hS hγ⟩
      · cases e
/-! ### comprehensions -/
/-- a comprehension's target: a name, or several in brackets -/
inductive Tgt where
  | one (i : Nat) | many (is : List Nat)
def setAll (γ : Sl) : List Nat → List D → Sl
  | i :: is, d :: ds => setAll (γ.set i (some d)) is ds
  | _, _ => γ
def bindT : Tgt → D → Sl → Option Sl
  | .one i, d, γ => some (γ.set i (some d))
  | .many is, .tup xs, γ => if xs.length = is.length then some (setAll γ is xs) else none
  | .many _, _, _ => none
def gNames : List Nat → TGs
  | [] => gNil
  | i :: is => gCons (gName i) (gNames is)
def gTgt (K : PySem.W.Frag) : Tgt → TG
  | .one i => gName i
  | .many is => gTup K is.length (gNames is)
def inTgt : Tgt → List Nat → Bool
  | .one i, vs => vs.contains i
  | .many is, vs => is.all vs.contains
def wipeD (γ : Sl) : List Nat → Sl
  | [] => γ
  | v :: vs => (wipeD γ vs).set v none
theorem SLR.wipe {H m γ σ} (h : SLR K H m γ σ) : ∀ vs : List Nat, SLR K H m (wipeD γ vs) (wipe σ vs)
  | [] => h
  | v :: vs => (SLR.wipe h vs).forget
theorem wipe_at {σ : L2.St} {j : Nat} : ∀ {vs : List Nat}, j ∈ vs → (wipe σ vs)[j]? = if j < σ.length then some none else none
  | v :: vs, h => by
    unfold wipe
    by_cases hv : v = j
    · subst hv
      by_cases hl : v < σ.length
      · rw [List.getElem?_set_self (by rw [wipe_length]; exact hl), if_pos hl]
      · rw [if_neg hl]
        exact List.getElem?_eq_none_iff.mpr (by simp [wipe_length]; omega)
    · rw [List.getElem?_set_ne hv]
      exact wipe_at ((List.mem_cons.mp h).resolve_left fun z => hv z.symm)
/-- σ with names of the block stored: forgotten it is as before -/
theorem wipe_eq {σ σ2 : L2.St} {vs : List Nat} (hl : σ2.length = σ.length) (h : ∀ j, j ∉ vs → σ2[j]? = σ[j]?) : wipe σ2 vs = wipe σ vs := by
  apply List.ext_getElem?
  intro j
  by_cases hj : j ∈ vs
  · rw [wipe_at hj, wipe_at hj, hl]
  · rw [wipe_out hj, wipe_out hj]
    exact h j hj
theorem wipe_wipe {σ : L2.St} {vs : List Nat} : wipe (wipe σ vs) vs = wipe σ vs := wipe_eq (wipe_length σ vs) fun j hj => wipe_out hj
def setAllV (σ : L2.St) : List Nat → List V → L2.St
  | i :: is, d :: ds => setAllV (σ.set i (some d)) is ds
  | _, _ => σ
theorem setAllV_length : ∀ {is : List Nat} {vs : List V} {σ : L2.St}, (setAllV σ is vs).length = σ.length
  | [], _, _ => by simp [setAllV]
  | i :: is, [], σ => by simp [setAllV]
  | i :: is, v :: vs, σ => by simp [setAllV, setAllV_length]
theorem setAllV_out {j : Nat} : ∀ {is : List Nat} {vs : List V} {σ : L2.St}, j ∉ is → (setAllV σ is vs)[j]? = σ[j]?
  | [], _, _, _ => by simp [setAllV]
  | i :: is, [], σ, _ => by simp [setAllV]
  | i :: is, v :: vs, σ, h => by
    simp only [List.mem_cons, not_or] at h
    rw [setAllV, setAllV_out h.2, List.getElem?_set_ne (Ne.symm h.1)]
theorem SLR.setAll {H m} : ∀ {is : List Nat} {xs : List D} {vs : List V} {γ σ}, SLR K H m γ σ → Rps K H m xs vs → SLR K H m (setAll γ is xs) (setAllV σ is vs)
  | [], _, _, _, _, h, _ => by simpa [Ml.setAll, setAllV] using h
  | i :: is, [], vs, _, _, h, r => by rw [Rps] at r; subst r; simpa [Ml.setAll, setAllV] using h
  | i :: is, x :: xs, vs, γ, σ, h, r => by
    rw [Rps] at r
    obtain ⟨v, r', rfl, h1, h2⟩ := r
    simp only [Ml.setAll, setAllV]
    exact SLR.setAll (h.set h1) h2
theorem gNames_ok {H : Hp} {Q : L2.St → Hp → Prop} : ∀ {is : List Nat} {vs : List V} {σ : L2.St}, vs.length = is.length → Q (setAllV σ is vs) H → gNames is vs σ H Q
  | [], [], σ, _, q => ⟨rfl, by simpa [setAllV] using q⟩
  | i :: is, v :: vs, σ, h, q => ⟨v, vs, rfl, gNames_ok (by simpa using h) (by simpa [setAllV] using q)⟩
theorem gTgt_ok {H m γ γ1 σ vs d v} {tgt : Tgt} {Q : L2.St → Hp → Prop} (hγ : SLR K H m γ σ) (hd : Rp K H m d v) (e : bindT tgt d γ = some γ1) (hv : inTgt tgt vs = true) (q : ∀ σ1, SLR K H m γ1 σ1 → wipe σ1 vs = wipe σ vs → Q σ1 H) : gTgt K.f tgt v σ H Q := by
  cases tgt with
  | one i =>
    simp only [bindT, Option.some.injEq] at e
    subst e
    have hi : i ∈ vs := by simpa [inTgt] using hv
    refine q _ (hγ.set hd) (wipe_eq (by simp) fun j hj => ?_)
    exact List.getElem?_set_ne (fun (z : i = j) => hj (by rw [← z]; exact hi))
  | many is =>
    cases d <;> simp only [bindT, reduceCtorEq] at e
    rename_i xs
    split at e
    · rename_i hl
      cases e
      rw [Rp] at hd
      obtain ⟨a, ws, rfl, ha, hw⟩ := hd
      have hin : ∀ i ∈ is, i ∈ vs := by simpa [inTgt] using hv
      refine ⟨a, ws, rfl, ha, by rw [hw.length]; exact hl, gNames_ok (by rw [hw.length]; exact hl) (q _ (hγ.setAll hw) (wipe_eq setAllV_length fun j hj => ?_))⟩
      exact setAllV_out fun z => hj (hin j z)
    · cases e
/-- n: the new list; γ: the slots, without the block's names -/
noncomputable def compI (ck : Option (Nat × O)) (tgt : Tgt) (t : CvM) (e : EvM) (γ : Sl) (n : Nat) : List D → Sto → Option Sto
  | [], S => if Chk ck S then some S else none
  | x :: r, S => if Chk ck S then match bindT tgt x γ with
      | none => none
      | some γ1 => match t γ1 S with
        | none => none
        | some (false, S1) => compI ck tgt t e γ n r S1
        | some (true, S1) => match e γ1 S1 with
          | none => none
          | some (y, S2) => match S2[n]? with
            | some (.lst acc) => if acc.length < sizeLine then compI ck tgt t e γ n r (S2.set n (.lst (acc ++ [y]))) else none
            | _ => none
    else none
noncomputable def compM (iv : IvM) (tgt : Tgt) (t : CvM) (e : EvM) (vs : List Nat) : EvM := fun γ S => match iv γ S with
  | none => none
  | some (ck, xs, S1) => match compI ck tgt t e (wipeD γ vs) S1.length xs (S1 ++ [.lst []]) with
    | some S' => some (.ref S1.length, S')
    | none => none
def yesC : CvM := fun _ S => some (true, S)
theorem lcm_core {iv : IvM} {tgt : Tgt} {vs : List Nat} {σ : L2.St} {H : Hp} {Q : VK} (hv : inTgt tgt vs = true) (h : tM K (compM iv tgt ca ea vs) σ H Q) :
    tLc (tIM K iv) (gTgt K.f tgt) (tTM K ca) (tM K ea) vs σ H Q := by
  obtain ⟨m, S, γ, d, S', hS, hγ, e, q⟩ := h
  unfold compM at e
  split at e
  · cases e
  · rename_i ck xs S1 h1
    split at e
    · rename_i Sf h2
      cases e
      refine ⟨m, S, γ, ck, xs, S1, hS, hγ, h1, fun J H1 m1 x1 hS1 wk D hD => ?_⟩
      have hS2 : SR K (upd H1 D (.lst [])) (m1 ++ [D]) (S1 ++ [.lst []]) := hS1.newM hD ⟨[], upd_same, by rw [Rps]⟩
      have x2 : Ext K H1 m1 (upd H1 D (.lst [])) (m1 ++ [D]) := .newM hD
      have hDm : (m1 ++ [D])[S1.length]? = some D := by rw [← hS1.len]; simp
      refine ⟨fun i k H => i ≤ xs.length ∧ k = xs.length - i ∧ ∃ m S, Ext K (upd H1 D (.lst [])) (m1 ++ [D]) H m ∧ SR K H m S ∧ compI ck tgt ca ea (wipeD γ vs) S1.length (xs.drop i) S = some S',
        ⟨xs.length, Nat.zero_le _, rfl, m1 ++ [D], _, .refl, hS2, h2⟩, ?_⟩
      rintro i k H ⟨hi, rfl, m, S, x3, hS3, e⟩
      by_cases hlt : i < xs.length
      · rw [drop_cons (List.getElem?_eq_getElem hlt)] at e
        unfold compI at e
        split at e
        · rename_i hk
          obtain ⟨hgo, hy⟩ := wk.go H m S i (x2.trans x3) hS3 hk hlt
          refine .inr ⟨hgo, fun H => ∃ m S, Ext K (upd H1 D (.lst [])) (m1 ++ [D]) H m ∧ SR K H m S ∧ compI ck tgt ca ea (wipeD γ vs) S1.length (xs.drop (i + 1)) S = some S',
            fun H' w => ⟨xs.length - (i + 1), by omega, hlt, rfl, w⟩, fun v H2 yl => ?_⟩
          obtain ⟨d, hd, x4, hS4, hv2⟩ := hy v H2 yl
          rw [List.getElem?_eq_getElem hlt] at hd
          cases hd
          split at e
          · cases e
          · rename_i γ1 h3
            have hγ2 : SLR K H2 m (wipeD γ vs) (wipe σ vs) := (hγ.mono (x1.trans (x2.trans (x3.trans x4)))).wipe vs
            refine gTgt_ok hγ2 hv2 h3 hv fun σ1 hγ3 hw => ⟨by rw [hw, wipe_wipe], ?_⟩
            split at e
            · cases e
            · rename_i S5 h4
              refine ⟨m, S, γ1, false, S5, hS4, hγ3, h4, fun H5 m5 x5 hS5 => iteF ?_⟩
              exact ⟨m5, S5, x3.trans (x4.trans x5), hS5, e⟩
            · rename_i S5 h4
              refine ⟨m, S, γ1, true, S5, hS4, hγ3, h4, fun H5 m5 x5 hS5 => iteT ?_⟩
              split at e
              · cases e
              · rename_i y S6 h5
                refine ⟨m5, S5, γ1, y, S6, hS5, hγ3.mono x5, h5, fun w H6 m6 x6 hS6 hw6 => ?_⟩
                split at e
                · rename_i acc h6
                  split at e
                  · rename_i hz
                    have x7 := x3.trans (x4.trans (x5.trans x6))
                    obtain ⟨a', ws, m7, k7, r7⟩ := hS6.lst h6
                    rw [x7.get hDm] at m7; cases m7
                    refine ⟨ws, k7, by rw [r7.length]; exact hz, m6, _, x7.trans (.upd k7 trivial), hS6.upd (u := .lst (acc ++ [y])) (x7.get hDm) (lt_of h6) ⟨_, upd_same, (r7.append (Rps.one hw6)).mono (.upd k7 trivial)⟩, e⟩
                  · cases e
                · cases e
        · cases e
      · have hi2 : i = xs.length := by omega
        subst hi2
        rw [List.drop_length] at e
        unfold compI at e
        split at e
        · rename_i hk
          cases e
          refine .inl ⟨wk.stop H m _ (x2.trans x3) hS3 hk, q _ H m (x1.trans (x2.trans x3)) hS3 ?_⟩
          rw [Rp]
          exact ⟨D, x3.get hDm, rfl⟩
        · cases e
    · cases e
/-- tests of a comprehension -/
abbrev MTs (tb : List NdefX.NTab) (X : Cx) (ifs : List Expr) (c : CvM) : Prop := PTs X ifs (tTM (kx tb X) c)
theorem PTs.imp {ifs : List Expr} {t t' : TT} (h : PTs X ifs t) (hi : ∀ σ H Q, t' σ H Q → t σ H Q) : PTs X ifs t' := ⟨fun pins s σ H Q I q => h.run pins s σ H Q I (hi σ H Q q)⟩
theorem mts_nil : MTs tb X [] yesC := PTs.imp pts_nil fun σ H Q h => by
  obtain ⟨m, S, γ, b, S', hS, hγ, e, q⟩ := h
  cases e
  exact q H m .refl hS
theorem mts_one (h : MT tb X c ca) : MTs tb X [c] ca := pts_one h
/-- a comprehension's names, as a target -/
theorem mgn_nil : PGs X [] (gNames []) := pgs_nil
theorem mgn_cons {i : Nat} {is : List Nat} (h1 : PG X e (gName i)) (h2 : PGs X es (gNames is)) (hs : (assignEach (e :: es) X.env).map (·.2) = assign e X.env :: (assignEach es X.env).map (·.2) := by rfl) : PGs X (e :: es) (gNames (i :: is)) := pgs_cons h1 h2 hs
variable {elt : Expr} {ifs : List Expr} {scope : Scope} {own : List (Str × Nat)} {iv : IvM} {tgt : Tgt}
theorem me_lc (hc : X.calm = true) (hN : X.N.Nodup) (hi : MI tb X tg iter iv) (ok : BlkOk X.N X.env.scope scope own) (hv : inTgt tgt (own.map (·.2)) = true)
    (hg : ∀ (s : Shared) (H : Hp) (C : Addr) (cl : List (Str × Addr)) (fp : List Addr), PG (X.blk s H scope (compEnvC scope cl C X.env) fp) tg (gTgt X.K tgt)) (ht : ∀ (s : Shared) (H : Hp) (C : Addr) (cl : List (Str × Addr)) (fp : List Addr), MTs tb (X.blk s H scope (compEnvC scope cl C X.env) fp) ifs ca)
    (he : ∀ (s : Shared) (H : Hp) (C : Addr) (cl : List (Str × Addr)) (fp : List Addr), ME tb (X.blk s H scope (compEnvC scope cl C X.env) fp) elt ea) (hs : ∀ x, foldedSetIterable iter X.env x = pure x := by intro _; rfl) :
    ME tb X (.ListComp elt [⟨tg, iter, ifs, 0⟩] scope pos) (compM iv tgt ca ea (own.map (·.2))) :=
  PE.imp (pe_lc hc hN hi ok hg ht he hs) fun σ H Q h => lcm_core hv h
theorem ms_setLc (i : Nat) {y : Str} {py : Pos} {spos : Pos} (hc : X.calm = true) (hN : X.N.Nodup) (hy : X.N[i]? = some y) (hyl : X.env.scope.names.lookup y = some .local)
    (hsw : swapsWith (.ListComp elt [⟨tg, iter, ifs, 0⟩] scope pos) (some (.Name y py)) spos.line X.env = pure true) (hi : MI tb X tg iter iv) (ok : BlkOk X.N X.env.scope scope own) (hv : inTgt tgt (own.map (·.2)) = true)
    (hg : ∀ (s : Shared) (H : Hp) (C : Addr) (cl : List (Str × Addr)) (fp : List Addr), PG (X.blk s H scope (compEnvC scope cl C X.env) fp) tg (gTgt X.K tgt)) (ht : ∀ (s : Shared) (H : Hp) (C : Addr) (cl : List (Str × Addr)) (fp : List Addr), MTs tb (X.blk s H scope (compEnvC scope cl C X.env) fp) ifs ca)
    (he : ∀ (s : Shared) (H : Hp) (C : Addr) (cl : List (Str × Addr)) (fp : List Addr), ME tb (X.blk s H scope (compEnvC scope cl C X.env) fp) elt ea) (hs : ∀ x, foldedSetIterable iter X.env x = pure x := by intro _; rfl) :
    MS tb X (.Assign [.Name y py] (.ListComp elt [⟨tg, iter, ifs, 0⟩] scope pos) spos) (asgM (compM iv tgt ca ea (own.map (·.2))) (nameG i)) :=
  PS.imp (ps_setLc hc hN hy hyl hsw hi ok hg ht he hs) fun Dn σ H h => by
    obtain ⟨m, S, γ, f, γ', S', hS, hγ, e, q⟩ := h
    unfold asgM nameG at e
    split at e
    · cases e
    · rename_i d S1 h1
      cases e
      refine lcm_core hv (Q := fun x H1 => gName i x σ H1 Dn.nx) ⟨m, S, γ, d, _, hS, hγ, h1, fun w H1 m1 x1 hS1 hw => ?_⟩
      exact q _ H1 m1 x1 hS1 ((hγ.mono x1).set hw)
end
end Ml
namespace Ml
open L2 PyProof.Rows PySem PySem.Spec
/-- a def's body over n slots, called with xs -/
def bodyM (n : Nat) (s : SvM) : List D → Sto → Option (D × Sto) := fun xs S => match s (xs.map some ++ List.replicate (n - xs.length) none) S with
  | some (.rt d, _, S') => some (d, S')
  | some (.nx, _, S') => some (.non, S')
  | _ => none
theorem slr_start {K H m} {N : List Str} {xs : List D} {vs : List V} (h : Rps K H m xs vs) (hn : xs.length ≤ N.length) : SLR K H m (xs.map some ++ List.replicate (N.length - xs.length) none) (L2.start N vs) := by
  have hl := h.length
  refine ⟨by simp [L2.start, hl], fun i d e => ?_⟩
  unfold L2.start
  by_cases hi : i < xs.length
  · rw [List.getElem?_append_left (by simpa using hi)] at e
    rw [List.getElem?_map] at e
    cases hx : xs[i]? with
    | none => rw [hx] at e; cases e
    | some y =>
      rw [hx] at e
      cases e
      obtain ⟨v, h1, h2⟩ := h.get hx
      refine ⟨v, ?_, h2⟩
      rw [List.getElem?_append_left (by rw [List.length_map, hl]; exact hi), List.getElem?_map, h1]
      rfl
  · rw [List.getElem?_append_right (by simpa using hi)] at e
    have := List.mem_of_getElem? e
    simp at this
section
variable {P : Program} {w : World} {K : PySem.W.Frag} {tb : List NdefX.NTab}
variable {mg : Str → Option Value} {base : Heap}
/-- THE RULE for a def -/
theorem ok_def {x qual : Str} {st : Stmt} {f : Addr} {fd : FuncData} {N ps : List Str} {k : Nat} {s : SvM} (F : Fun K x qual st f fd) (S : FnScope N ps (defScope st)) (hn : ps.length ≤ N.length)
    (hb : ∀ (cdv : Value) (A : Around) (outer : List Env) (s0 : Shared) (H : Hp) (E : XK), Room k (cxOf CX0 P w K mg base N qual (defScope st) f cdv A outer s0 H E).A → MSs tb (cxOf CX0 P w K mg base N qual (defScope st) f cdv A outer s0 H E).nox (defBody st) s) :
    FnOk P w K mg base CX0 (k + 1) f fd ps (spM ⟨K, P, w, base, tb⟩ ps.length (bodyM N.length s)) := by
  refine F.ok S (fun vs H Q E h => ?_) fun cdv A outer s0 H vs Q E hr h => ?_
  · obtain ⟨m, S, xs, d, S', h1, _, h2, _⟩ := h
    rw [h2.length, h1]
  · obtain ⟨m, S, xs, d, S', h1, hS, h2, h3, q⟩ := h
    refine ⟨_, hb cdv A outer s0 H E hr, ?_⟩
    unfold bodyM at h3
    split at h3
    · rename_i d' γ' S1 h4
      cases h3
      exact ⟨m, S, _, .rt d, γ', _, hS, slr_start h2 (by rw [h1]; exact hn), h4, q⟩
    · rename_i γ' S1 h4
      cases h3
      exact ⟨m, S, _, .nx, γ', _, hS, slr_start h2 (by rw [h1]; exact hn), h4, fun σ' H' m' x hS' _ => q _ H' m' x hS' (by rw [Rp])⟩
    · cases h3
theorem ok_zero {f : Addr} {fd : FuncData} {ps : List Str} {k : Nat} : FnOk P w K mg base CX0 k f fd ps (spM ⟨K, P, w, base, tb⟩ ps.length fun _ _ => none) := by
  have no : ∀ vs H Q E, ¬ spM ⟨K, P, w, base, tb⟩ ps.length (fun _ _ => none) vs H Q E := fun vs H Q E h => by
    obtain ⟨m, S, xs, d, S', h1, _, h2, h3, _⟩ := h
    cases h3
  exact ⟨fun vs H Q E h => (no _ _ _ _ h).elim, fun A outer s H args us vs Q E _ _ _ _ h => (no _ _ _ _ h).elim⟩
end
/-! ### keywords -/
def permL {α : Type} (is : List Nat) (xs : List α) : List α := is.filterMap fun i => xs[i]?
theorem Rps.perm {K H m} {xs : List D} {vs : List V} (h : Rps K H m xs vs) : ∀ is : List Nat, Rps K H m (permL is xs) (permL is vs)
  | [] => Rps.nil
  | i :: is => by
    unfold permL
    rw [List.filterMap_cons, List.filterMap_cons]
    cases hx : xs[i]? with
    | none =>
      have : vs[i]? = none := by
        rw [List.getElem?_eq_none_iff] at hx ⊢
        rw [h.length]; exact hx
      rw [this]
      exact Rps.perm h is
    | some y =>
      obtain ⟨v, h1, h2⟩ := h.get hx
      rw [h1]
      exact Rps.cons h2 (Rps.perm h is)
theorem Vals.perm {vs : List V} {us : List Value} (h : Vals vs us) : ∀ is : List Nat, Vals (permL is vs) (permL is us)
  | [] => .nil
  | i :: is => by
    unfold permL
    rw [List.filterMap_cons, List.filterMap_cons]
    cases hx : vs[i]? with
    | none =>
      have : us[i]? = none := Vals.none_of h hx
      rw [this]
      exact Vals.perm h is
    | some y =>
      obtain ⟨v, h1, h2⟩ := Vals.get h hx
      rw [h1]
      exact .cons h2 (Vals.perm h is)
/-- na positional arguments, then keywords that stand in the places is tell -/
def callKM (na nk n : Nat) (is : List Nat) (F : List D → Sto → Option (D × Sto)) (ra rk : AvM) : EvM := fun γ S => match ra γ S with
  | none => none
  | some (xs, S1) => match rk γ S1 with
    | none => none
    | some (ys, S2) => if xs.length = na ∧ ys.length = nk ∧ (xs ++ permL is ys).length = n then F (xs ++ permL is ys) S2 else none
/-- how such a call binds -/
def KBind (fd : FuncData) (ps ks : List Str) (na : Nat) (is : List Nat) : Prop := ∀ us ws : List Value, us.length = na → ws.length = ks.length → bindArgs fd ⟨us, ks.zip ws⟩ = pure (ps.zip (us ++ permL is ws))
section
variable {tb : List NdefX.NTab} {X : Cx} {k : Nat} {f : Addr} {fd : FuncData} {ps ks : List Str} {n na : Nat} {is : List Nat} {G : List D → Sto → Option (D × Sto)} {x : Str} {p pos : Pos} {kws : List Keyword} {ra rk : AvM} {e : Expr} {es : List Expr}
theorem run_kw {pins : List (Addr × Obj)} {σ : L2.St} {H : Hp} {s : Shared} {Q : VK} {us ws : List Value} {vs zs : List V} (F : FnOk X.prog X.w X.K X.mg X.base CX0 k f fd ps (spM (kx tb X) n G)) (hr : Room k X.A) (hb : KBind fd ps ks na is)
    (I : Inv X pins σ H s) (r : Vals vs us) (rz : Vals zs ws) (hu : us.length = na) (hw : ws.length = ks.length) (h : spM (kx tb X) n G (vs ++ permL is zs) H Q E0) : wpAny (model X.prog X.w) X.A (call (.ref f) us (ks.zip ws)) (EP X pins σ Q) X.xe s := by
  have r2 : Vals (vs ++ permL is zs) (us ++ permL is ws) := Vals.append r (Vals.perm rz is)
  refine wpAny_call (codeAny_mono (F.run X.A X.stack s H ⟨us, ks.zip ws⟩ (us ++ permL is ws) (vs ++ permL is zs) Q E0 hr I.env0 (.of_eq (hb us ws hu hw)) r2 h) fun r s' hq => ?_)
  cases r with
  | error e => exact (False.elim hq)
  | ok fl =>
    cases fl with
    | ret u => exact I.after hq
    | next => exact (False.elim hq)
    | brk => exact (False.elim hq)
    | cont => exact (False.elim hq)
theorem me_callK (F : FnOk X.prog X.w X.K X.mg X.base CX0 k f fd ps (spM (kx tb X) n G)) (hr : Room k X.A) (hg : Gl X x) (hm : X.mg x = some (.ref f)) (hk : PySem.W.keepIn X.K (.ref f) = true) (hb : KBind fd ps ks na is)
    (ha : MA tb X (e :: es) ra) (hkw : MK tb X kws rk) (hall : (backToKw pos (keywordEach kws X.env)).all (·.1.isSome) = true := by rfl)
    (hks : (backToKw pos (keywordEach kws X.env)).filterMap (·.1) = ks := by rfl) (hdb : (x == ("__debug__" : Str)) = false := by decide)
    (he : starEach (e :: es) X.env = (false, eval e X.env) :: starEach es X.env := by rfl)
    (hpl : ((backTo pos (starEach (e :: es) X.env)).any (·.1) || (backToKw pos (keywordEach kws X.env)).any (·.1.isNone)) = false := by rfl) : ME tb X (.Call (.Name x p) (e :: es) kws pos) (callKM na ks.length n is G ra rk) := by
  refine .mk fun pins s σ H Q I h => ?_
  obtain ⟨m, S, γ, d, S', hS, hγ, e1, q⟩ := h
  unfold callKM at e1
  split at e1
  · cases e1
  · rename_i xs S1 h1
    split at e1
    · cases e1
    · rename_i ys S2 h2
      split at e1
      · rename_i hl
        refine (wpAny_Call_Name_kw (ld_glob I hg hm ?_ hdb))
        refine PySem.W.callWith_KW (h₀ := X.base) I.ok.mod.kin hk hall (thn (ha.run pos pins s σ H (fun vs H1 => ∃ m1, Ext (kx tb X) H m H1 m1 ∧ SR (kx tb X) H1 m1 S1 ∧ Rps (kx tb X) H1 m1 xs vs) I ⟨m, S, γ, xs, S1, hS, hγ, h1, fun vs H1 m1 x1 hS1 hv => ⟨m1, x1, hS1, hv⟩⟩) fun us s1 hq => ?_) hpl he
        obtain ⟨vs, H1, I1, r, m1, x1, hS1, hv⟩ := hq
        refine thn (hkw.run pos pins s1 σ H1 (fun zs H2 => ∃ m2, Ext (kx tb X) H1 m1 H2 m2 ∧ SR (kx tb X) H2 m2 S2 ∧ Rps (kx tb X) H2 m2 ys zs) I1 ⟨m1, S1, γ, ys, S2, hS1, hγ.mono x1, h2, fun vs H2 m2 x2 hS2 hz => ⟨m2, x2, hS2, hz⟩⟩) fun ws s2 hq => ?_
        obtain ⟨zs, H2, I2, rz, m2, x2, hS2, hz⟩ := hq
        refine ⟨I2.kIn, ?_⟩
        rw [hks]
        refine run_kw (us := us) F hr hb I2 r rz (by rw [← r.length, hv.length]; exact hl.1) (by rw [← rz.length, hz.length]; exact hl.2.1) ?_
        exact ⟨m2, S2, _, d, S', hl.2.2, hS2, (hv.mono x2).append (hz.perm is), e1, fun y H3 m3 x3 => q y H3 m3 (x1.trans (x2.trans x3))⟩
      · cases e1
theorem me_callK0 (F : FnOk X.prog X.w X.K X.mg X.base CX0 k f fd ps (spM (kx tb X) n G)) (hr : Room k X.A) (hg : Gl X x) (hm : X.mg x = some (.ref f)) (hk : PySem.W.keepIn X.K (.ref f) = true) (hb : KBind fd ps ks 0 is)
    (hkw : MK tb X kws rk) (hall : (backToKw pos (keywordEach kws X.env)).all (·.1.isSome) = true := by rfl)
    (hks : (backToKw pos (keywordEach kws X.env)).filterMap (·.1) = ks := by rfl) (hdb : (x == ("__debug__" : Str)) = false := by decide)
    (hpl : ((backTo pos (starEach [] X.env)).any (·.1) || (backToKw pos (keywordEach kws X.env)).any (·.1.isNone)) = false := by rfl) : ME tb X (.Call (.Name x p) [] kws pos) (callKM 0 ks.length n is G nilA rk) := by
  refine .mk fun pins s σ H Q I h => ?_
  obtain ⟨m, S, γ, d, S', hS, hγ, e1, q⟩ := h
  unfold callKM nilA at e1
  dsimp only at e1
  split at e1
  · cases e1
  · rename_i ys S2 h2
    split at e1
    · rename_i hl
      refine (wpAny_Call_Name_kw (ld_glob I hg hm ?_ hdb))
      refine PySem.W.callWith_KW0 (h₀ := X.base) I.ok.mod.kin hk hall ?_ hpl
      refine thn (hkw.run pos pins s σ H (fun zs H2 => ∃ m2, Ext (kx tb X) H m H2 m2 ∧ SR (kx tb X) H2 m2 S2 ∧ Rps (kx tb X) H2 m2 ys zs) I ⟨m, S, γ, ys, S2, hS, hγ, h2, fun vs H2 m2 x2 hS2 hz => ⟨m2, x2, hS2, hz⟩⟩) fun ws s2 hq => ?_
      obtain ⟨zs, H2, I2, rz, m2, x2, hS2, hz⟩ := hq
      refine ⟨I2.kIn, ?_⟩
      rw [hks]
      refine run_kw (us := []) (vs := []) F hr hb I2 .nil rz rfl (by rw [← rz.length, hz.length]; exact hl.2.1) ?_
      exact ⟨m2, S2, _, d, S', hl.2.2, hS2, hz.perm is, e1, fun y H3 m3 x3 => q y H3 m3 (x2.trans x3)⟩
    · cases e1
end
end Ml
/-! dicts whose keys are tuples of any make -/
namespace Ml
open L2 PyProof.Rows PySem PySem.Spec
section
variable {tb : List NdefX.NTab} {X : Cx} {pins : List (Addr × Obj)} {σ : L2.St} {H : Hp} {m : List Addr} {s : Shared}
mutual
theorem nk_is (I : Inv X pins σ H s) : ∀ (d : D) (v : V) (u : Value) (k : NestedKey), Rp (kx tb X) H m d v → RelV v u → nk d = some k → NestedIs s.heap k u
  | .non, v, u, k, h, r, e => by rw [Rp] at h; rw [nk] at e; cases e; subst h; cases r; exact .none
  | .bl b, v, u, k, h, r, e => by rw [Rp] at h; rw [nk] at e; cases e; subst h; cases r; exact .bool rfl
  | .int i, v, u, k, h, r, e => by rw [Rp] at h; rw [nk] at e; cases e; subst h; obtain ⟨t, rfl⟩ := r; exact .int _ _
  | .str i, v, u, k, h, r, e => by rw [Rp] at h; rw [nk] at e; cases e; subst h; obtain ⟨t, rfl⟩ := r; exact .text _ _
  | .tup xs, v, u, k, h, r, e => by
    rw [Rp] at h
    obtain ⟨a, vs, rfl, ha, hv⟩ := h
    rw [nk] at e
    cases hk : nks xs with
    | none => rw [hk] at e; cases e
    | some ks =>
      rw [hk] at e
      cases e
      cases r
      obtain ⟨its, rv, ⟨o, ho, hc, n, hd⟩, _⟩ := I.tuple ha
      exact .tup ho hc hd (by simpa using nks_is I xs vs its ks hv rv hk)
  | .rl n, v, u, k, h, r, e => by rw [nk] at e; cases e
  | .ref n, v, u, k, h, r, e => by rw [nk] at e; cases e
theorem nks_is (I : Inv X pins σ H s) : ∀ (d : List D) (v : List V) (u : List Value) (k : List NestedKey), Rps (kx tb X) H m d v → Vals v u → nks d = some k → NestedAll s.heap k u
  | [], v, u, k, h, r, e => by rw [Rps] at h; rw [nks] at e; cases e; subst h; cases r; exact .nil
  | x :: xs, v, u, k, h, r, e => by
    rw [Rps] at h
    obtain ⟨w, vs, rfl, h1, h2⟩ := h
    rw [nks] at e
    cases hk : nk x with
    | none => rw [hk] at e; cases e
    | some k1 =>
      cases hks : nks xs with
      | none => rw [hk, hks] at e; cases e
      | some ks =>
        rw [hk, hks] at e
        cases e
        cases r with
        | cons r1 r2 => exact .cons (nk_is I x w _ k1 h1 r1 hk) (nks_is I xs vs _ ks h2 r2 hks)
end
abbrev nkd (X : Cx) := nestedKind X.prog X.w
/-- what a dict of the store is in the heap -/
structure DnAt (X : Cx) (s : Shared) (a : Addr) (xs : List (NestedKey × Addr × V)) (ys : List (NestedKey × Addr × Value)) : Prop where
  low : (a == sysModules) = false
  len : ys.length ≤ sizeLine
  rel : Paired (fun (p : NestedKey × Addr × V) (q : NestedKey × Addr × Value) => p.1 = q.1 ∧ p.2.1 = q.2.1 ∧ RelV p.2.2 q.2.2) xs ys
  dict : s.heap.DictOfH (nkd X) a ys
theorem rel_ref {a : Addr} : RelV (V.ref a) (Value.ref a) := rfl
theorem keys_is (I : Inv X pins σ H s) : ∀ {kvs : List (D × D)} {xs : List (NestedKey × Addr × V)} {ys : List (NestedKey × Addr × Value)}, Rdn (kx tb X) H m kvs xs →
    Paired (fun (p : NestedKey × Addr × V) (q : NestedKey × Addr × Value) => p.1 = q.1 ∧ p.2.1 = q.2.1 ∧ RelV p.2.2 q.2.2) xs ys → ∀ y ∈ ys, (nkd X).is s.heap y.1 y.2.1
  | _, _, _, .nil, .nil, _, hy => nomatch hy
  | _, _, _, .cons p t, .cons q u, y, hy => by
    rcases (List.mem_cons.mp hy) with rfl | hy
    · obtain ⟨h1, h2, h3, _⟩ := p
      obtain ⟨e1, e2, _⟩ := q
      exact ⟨by rw [← e1, ← e2]; exact nk_is I _ _ _ _ h3 rel_ref h1, by rw [← e1]; exact h2⟩
    · exact keys_is I t u y hy
theorem dn_at (I : Inv X pins σ H s) {a : Addr} {kvs : List (D × D)} {xs : List (NestedKey × Addr × V)} (h : dnF X.prog X.w a xs s.heap) (r : Rdn (kx tb X) H m kvs xs) : ∃ ys, DnAt X s a xs ys := by
  obtain ⟨h1, h2, ys, h3, o, es, ep, h4, h5, h6, h7, h8⟩ := h
  exact ⟨ys, h1, by rw [← Paired.length h3]; exact h2, h3, o, es, ep, h4, h5, h6, h7, keys_is I r h3, h8⟩
/-- a dict of the store, read -/
theorem dn_read {S : Sto} {n : Nat} {lk : Bool} {kvs : List (D × D)} (I : Inv X pins σ H s) (hS : SR (kx tb X) H m S) (e : S[n]? = some (.dn lk kvs)) :
    ∃ a xs ys, m[n]? = some a ∧ Rdn (kx tb X) H m kvs xs ∧ DnAt X s a xs ys := by
  obtain ⟨a, h1, h2⟩ := hS.addr e
  cases lk with
  | false =>
    obtain ⟨xs, h3, h4⟩ := h2
    obtain ⟨h5, _⟩ := I.hok a _ h3
    obtain ⟨ys, h6⟩ := dn_at I h5 h4
    exact ⟨a, xs, ys, h1, h4, h6⟩
  | true =>
    obtain ⟨od, xs, h3, h4⟩ := h2
    obtain ⟨_, h5, _⟩ := I.hok a _ h3
    obtain ⟨ys, h6⟩ := dn_at I h5 h4
    exact ⟨a, xs, ys, h1, h4, h6⟩
/-- the value at a key -/
def lookN (kvs : List (D × D)) (k : NestedKey) : Option D := (kvs.find? fun p => decide (nk p.1 = some k)).map (·.2)
theorem look_rel {k : NestedKey} : ∀ {kvs : List (D × D)} {xs : List (NestedKey × Addr × V)} {ys : List (NestedKey × Addr × Value)}, Rdn (kx tb X) H m kvs xs →
    Paired (fun (p : NestedKey × Addr × V) (q : NestedKey × Addr × Value) => p.1 = q.1 ∧ p.2.1 = q.2.1 ∧ RelV p.2.2 q.2.2) xs ys →
    (lookN kvs k = none ∧ atKey ys k = none) ∨ ∃ d v p, lookN kvs k = some d ∧ atKey ys k = some p ∧ Rp (kx tb X) H m d v ∧ RelV v p.2
  | _, _, _, .nil, .nil => .inl ⟨rfl, rfl⟩
  | _, _, _, .cons (a := p) (b := q) h t, .cons (b := y) g u => by
    obtain ⟨h1, h2, h3, h4⟩ := h
    obtain ⟨e1, e2, e3⟩ := g
    by_cases hk : q.1 = k
    · refine .inr ⟨p.2, q.2.2, y.2, ?_, ?_, h4, e3⟩
      · unfold lookN
        rw [List.find?_cons_of_pos (by rw [h1, hk]; exact decide_eq_true rfl)]
        rfl
      · unfold atKey
        rw [List.find?_cons_of_pos (by rw [← e1, hk]; exact decide_eq_true rfl)]
        rfl
    · have n1 : ¬ (decide (nk p.1 = some k) = true) := by rw [h1]; simpa using hk
      have n2 : ¬ (decide (y.1 = k) = true) := by rw [← e1]; simpa using hk
      rcases look_rel (k := k) t u with ⟨i1, i2⟩ | ⟨d, v, z, i1, i2, i3, i4⟩
      · refine .inl ⟨?_, ?_⟩
        · unfold lookN at i1 ⊢; rw [List.find?_cons_of_neg (p := fun (p : D × D) => decide (nk p.1 = some k)) n1]; exact i1
        · unfold atKey at i2 ⊢; rw [List.find?_cons_of_neg (p := fun (x : NestedKey × Addr × Value) => decide (x.1 = k)) n2]; exact i2
      · refine .inr ⟨d, v, z, ?_, ?_, i3, i4⟩
        · unfold lookN at i1 ⊢; rw [List.find?_cons_of_neg (p := fun (p : D × D) => decide (nk p.1 = some k)) n1]; exact i1
        · unfold atKey at i2 ⊢; rw [List.find?_cons_of_neg (p := fun (x : NestedKey × Addr × Value) => decide (x.1 = k)) n2]; exact i2
end
/-- a rule by what F tells -/
def rOf (K : Kx) (F : D → D → Sto → Option (D × Sto)) : R2 := fun x y H Q => ∃ m S dx dy d S', SR K H m S ∧ Rp K H m dx x ∧ Rp K H m dy y ∧ F dx dy S = some (d, S') ∧ Fin K H m S' d Q
theorem rOf_ok {K : Kx} {F : D → D → Sto → Option (D × Sto)} : FOk2 K F (rOf K F) := fun x y S d S' e H m vx vy Q hS hx hy q => ⟨m, S, x, y, d, S', hS, hx, hy, e, q⟩
def keyN (ks : List D) : Option NestedKey := match nk (.tup ks) with
  | some k => if k.depth ≤ 8 then some k else none
  | none => none
theorem keyN_ok {ks : List D} {k : NestedKey} (h : keyN ks = some k) : nk (.tup ks) = some k ∧ k.depth ≤ 8 := by
  unfold keyN at h
  split at h
  · rename_i k' hk
    split at h
    · rename_i hd
      cases h
      exact ⟨hk, hd⟩
    · cases h
  · cases h
def getF : D → D → Sto → Option (D × Sto)
  | .ref n, .tup ks, S => match S[n]?, keyN ks with
    | some (.dn _ kvs), some k => match lookN kvs k with
      | some d => some (d, S)
      | none => none
    | _, _ => none
  | _, _, _ => none
def inD (neg : Bool) : D → D → Sto → Option (D × Sto)
  | .tup ks, .ref n, S => match S[n]?, keyN ks with
    | some (.dn _ kvs), some k => some (.bl (if neg then !(lookN kvs k).isSome else (lookN kvs k).isSome), S)
    | _, _ => none
  | _, _, _ => none
section
variable {tb : List NdefX.NTab} {X : Cx} {pins : List (Addr × Obj)} {σ : L2.St} {H : Hp} {m : List Addr} {s : Shared} {a b c e : Expr} {ea eb ec : EvM} {pos : Pos}
theorem hu1_room (hu : X.A.units + 9 < cLine) : (nkd X).room X.A.in1 := by show X.A.units + 1 + 8 < cLine; omega
theorem key_is {ks : List D} {k : NestedKey} {v : V} {u : Value} (I : Inv X pins σ H s) (h : Rp (kx tb X) H m (.tup ks) v) (r : RelV v u) (hk : keyN ks = some k) : ∃ q, u = .ref q ∧ (nkd X).is s.heap k q := by
  obtain ⟨h1, h2⟩ := keyN_ok hk
  have q := nk_is I _ _ _ _ h r h1
  rw [Rp] at h
  obtain ⟨a, vs, rfl, _⟩ := h
  cases r
  exact ⟨a, rfl, q, h2⟩
theorem ix_dn (hu : X.A.units + 9 < cLine) : IxR X (rOf (kx tb X) getF) := by
  intro value slice pins s σ; intro H x y v u Q I rx ry h hs
  obtain ⟨m, S, dx, dy, d, S', hS, hx, hy, e, q⟩ := h
  unfold getF at e
  split at e
  · rename_i n ks
    split at e
    · rename_i lk kvs k h1 h2
      split at e
      · rename_i d' h3
        cases e
        obtain ⟨a, xs, ys, h4, h5, h6⟩ := dn_read I hS h1
        obtain ⟨p, rfl, hk⟩ := key_is I hy ry h2
        rw [Rp] at hx
        obtain ⟨a', h7, rfl⟩ := hx
        rw [h4] at h7; cases h7
        cases rx
        rcases look_rel (k := k) h5 h6.rel with ⟨i1, _⟩ | ⟨d2, w, z, i1, i2, i3, i4⟩
        · rw [h3] at i1; cases i1
        · rw [h3] at i1; cases i1
          exact tail_any h6.dict.typeIs slot_dict_getitem.lookup (wpAny_getItem_heap (hu1_room hu) hk h6.dict i2 ⟨w, H, I.tok _, i4, q w H m .refl hS i3⟩) hs
      · cases e
    · cases e
  · cases e
theorem me_get (hu : X.A.units + 9 < cLine) (ha : ME tb X a ea) (hb : ME tb X b eb) (hs : PlainIx b := by exact fun _ _ => rfl) : ME tb X (.Subscript a b pos) (binM getF ea eb) :=
  PE.imp (pe_ix (ix_dn hu) ha hb hs) fun _ _ _ h => bin_core rOf_ok h
theorem or_inD (hu : X.A.units + 9 < cLine) : OpR X (compareOp .In) (rOf (kx tb X) (inD false)) := by
  intro pins s σ; intro H x y v u Q I rx ry h
  obtain ⟨m, S, dx, dy, d, S', hS, hx, hy, e, q⟩ := h
  unfold inD at e
  split at e
  · rename_i ks n
    split at e
    · rename_i lk kvs k h1 h2
      cases e
      obtain ⟨a, xs, ys, h4, h5, h6⟩ := dn_read I hS h1
      obtain ⟨p, rfl, hk⟩ := key_is I hx rx h2
      rw [Rp] at hy
      obtain ⟨a', h7, rfl⟩ := hy
      rw [h4] at h7; cases h7
      cases ry
      refine wpAny_in_heap (hu1_room hu) hk h6.low h6.dict ⟨.bl (lookN kvs k).isSome, H, I.tok _, ?_, fin_bl hS q⟩
      rcases look_rel (k := k) h5 h6.rel with ⟨i1, i2⟩ | ⟨d2, w, z, i1, i2, i3, i4⟩
      · rw [i1, i2]; rfl
      · rw [i1, i2]; rfl
    · cases e
  · cases e
theorem or_notInD (hu : X.A.units + 9 < cLine) : OpR X (compareOp .NotIn) (rOf (kx tb X) (inD true)) := by
  intro pins s σ; intro H x y v u Q I rx ry h
  obtain ⟨m, S, dx, dy, d, S', hS, hx, hy, e, q⟩ := h
  unfold inD at e
  split at e
  · rename_i ks n
    split at e
    · rename_i lk kvs k h1 h2
      cases e
      obtain ⟨a, xs, ys, h4, h5, h6⟩ := dn_read I hS h1
      obtain ⟨p, rfl, hk⟩ := key_is I hx rx h2
      rw [Rp] at hy
      obtain ⟨a', h7, rfl⟩ := hy
      rw [h4] at h7; cases h7
      cases ry
      refine wpAny_notIn_heap (hu1_room hu) hk h6.low h6.dict ⟨.bl (!(lookN kvs k).isSome), H, I.tok _, ?_, fin_bl hS q⟩
      rcases look_rel (k := k) h5 h6.rel with ⟨i1, i2⟩ | ⟨d2, w, z, i1, i2, i3, i4⟩
      · rw [i1, i2]; rfl
      · rw [i1, i2]; rfl
    · cases e
  · cases e
theorem inD_ok : FOk2 (kx tb X) (inD false) (rOf (kx tb X) (inD false)) := rOf_ok
theorem inD_okN : FOk2 (kx tb X) (inD true) (rOf (kx tb X) (inD true)) := rOf_ok
/-! ### made, stored -/
theorem dnF_stay {P : Program} {w : World} {a : Addr} {xs : List (NestedKey × Addr × V)} (h1 h2 : Heap) (h : dnF P w a xs h1) (k : ∀ o, h1.get? a = some o → h2.get? a = some o) : dnF P w a xs h2 := by
  obtain ⟨l, z, ys, r, o, es, ep, e, q⟩ := h
  exact ⟨l, z, ys, r, o, es, ep, k _ e, q⟩
theorem dn_obj {P : Program} {w : World} {H : Hp} {h : Heap} {a : Addr} {xs : List (NestedKey × Addr × V)} (q : dnF P w a xs h) : ObjOk P w H h a (.ext (dnF P w a xs)) := by
  refine ⟨q, ?_, dnF_stay⟩
  obtain ⟨_, _, ys, _, o, es, ep, e, _⟩ := q
  exact ⟨o, e⟩
def newD : EvM := fun _ S => some (.ref S.length, S ++ [.dn false []])
theorem me_newD : ME tb X (.Dict [] [] pos) newD := by
  refine .mk fun pins s σ H Q I h => ?_
  obtain ⟨m, S, γ, d, S', hS, hγ, e, q⟩ := h
  cases e
  have hp := I.hok.fresh (Nat.le_refl s.heap.objs.size)
  have new : dnF X.prog X.w s.heap.objs.size [] (s.heap.push { cls := .type "dict", data := .dict #[] }) :=
    ⟨beq_eq_false_iff_ne.mpr (Ne.symm (Nat.ne_of_lt I.big)), Nat.zero_le _, [], .nil, _, #[], 0, Heap.get?_push_size _ rfl, ⟨rfl, rfl, rfl⟩, rfl, rfl, List.nodup_nil⟩
  refine wpAny_Dict_empty ⟨.ref s.heap.objs.size, _, I.laid (a := s.heap.objs.size) (o := .ext (dnF X.prog X.w s.heap.objs.size [])) (t' := s.toks) (fun _ _ q => Heap.get?_push_of_some _ q) (Nat.le_refl _) (dn_obj new), rfl, ?_⟩
  refine q _ _ (m ++ [s.heap.objs.size]) (.newM hp) (hS.newM hp ⟨[], upd_same, .nil⟩) ?_
  rw [Rp]
  exact ⟨_, by rw [← hS.len]; simp, rfl⟩
/-- d[kd] = x -/
def setN (kvs : List (D × D)) (kd : D) (k : NestedKey) (x : D) : List (D × D) :=
  if (lookN kvs k).isSome then kvs.map (fun p => if nk p.1 = some k then (p.1, x) else p) else kvs ++ [(kd, x)]
/-- .. as the heap's entries -/
def setV (xs : List (NestedKey × Addr × V)) (k : NestedKey) (q : Addr) (v : V) (has : Bool) : List (NestedKey × Addr × V) :=
  if has then xs.map (fun p => if p.1 = k then (p.1, p.2.1, v) else p) else xs ++ [(k, q, v)]
theorem paired_map {α β α' β' : Type} {F : α → β → Prop} {G : α' → β' → Prop} {f : α → α'} {g : β → β'} (h : ∀ x y, F x y → G (f x) (g y)) : ∀ {xs : List α} {ys : List β}, Paired F xs ys → Paired G (xs.map f) (ys.map g)
  | _, _, .nil => .nil
  | _, _, .cons r t => .cons (h _ _ r) (paired_map h t)
theorem paired_snoc {α β : Type} {F : α → β → Prop} {x : α} {y : β} (r : F x y) : ∀ {xs : List α} {ys : List β}, Paired F xs ys → Paired F (xs ++ [x]) (ys ++ [y])
  | _, _, .nil => .cons r .nil
  | _, _, .cons q t => .cons q (paired_snoc r t)
theorem setV_dn {kvs : List (D × D)} {xs : List (NestedKey × Addr × V)} {kd x : D} {k : NestedKey} {q : Addr} {v : V} (h : Rdn (kx tb X) H m kvs xs) (hk : nk kd = some k) (h8 : k.depth ≤ 8) (hq : Rp (kx tb X) H m kd (.ref q)) (hv : Rp (kx tb X) H m x v) :
    Rdn (kx tb X) H m (setN kvs kd k x) (setV xs k q v (lookN kvs k).isSome) := by
  unfold setN setV
  split
  · refine paired_map (fun p z r => ?_) h
    obtain ⟨r1, r2, r3, r4⟩ := r
    by_cases e : z.1 = k
    · rw [if_pos e, if_pos (by rw [r1, e])]
      exact ⟨r1, r2, r3, hv⟩
    · rw [if_neg e, if_neg (by rw [r1]; exact fun z => e (Option.some.inj z))]
      exact ⟨r1, r2, r3, r4⟩
  · exact paired_snoc ⟨hk, h8, hq, hv⟩ h
theorem setV_rel {xs : List (NestedKey × Addr × V)} {ys : List (NestedKey × Addr × Value)} {k : NestedKey} {q : Addr} {v : V} {u : Value}
    (h : Paired (fun (p : NestedKey × Addr × V) (q : NestedKey × Addr × Value) => p.1 = q.1 ∧ p.2.1 = q.2.1 ∧ RelV p.2.2 q.2.2) xs ys) (r : RelV v u) :
    Paired (fun (p : NestedKey × Addr × V) (q : NestedKey × Addr × Value) => p.1 = q.1 ∧ p.2.1 = q.2.1 ∧ RelV p.2.2 q.2.2) (setV xs k q v (atKey ys k).isSome) (storedH ys k q u) := by
  unfold setV storedH
  split
  · refine paired_map (fun p z w => ?_) h
    obtain ⟨w1, w2, w3⟩ := w
    unfold putAt
    by_cases e : p.1 = k
    · rw [if_pos e, if_pos (by rw [← w1, e])]
      exact ⟨w1, w2, r⟩
    · rw [if_neg e, if_neg (by rw [← w1]; exact e)]
      exact ⟨w1, w2, w3⟩
  · exact paired_snoc ⟨rfl, rfl, r⟩ h
def subD (eo ei : EvM) : TvM := fun d γ S => match eo γ S with
  | none => none
  | some (x, S1) => match ei γ S1 with
    | none => none
    | some (y, S2) => match x, y with
      | .ref n, .tup ks => match S2[n]?, keyN ks with
        | some (.dn false kvs), some k => if kvs.length < sizeLine then some (γ, S2.set n (.dn false (setN kvs (.tup ks) k d))) else none
        | _, _ => none
      | _, _ => none
def rSetD (K : Kx) : TSet := fun o i v H Q => ∃ m S n ks kvs k d, SR K H m S ∧ Rp K H m (.ref n) o ∧ Rp K H m (.tup ks) i ∧ Rp K H m d v ∧ S[n]? = some (.dn false kvs) ∧ keyN ks = some k ∧ kvs.length < sizeLine ∧
  ∀ H', Ext K H m H' m → SR K H' m (S.set n (.dn false (setN kvs (.tup ks) k d))) → Q H'
theorem set_dn (hu : X.A.units + 9 < cLine) : PSet X (rSetD (kx tb X)) := by
  intro pins s σ; intro H o i v ov iv u Q I ro ri rv h
  obtain ⟨m, S, n, ks, kvs, k, d, hS, hx, hy, hd, h1, h2, hz, q⟩ := h
  obtain ⟨a, h3, xs, h4, h5⟩ := hS.addr h1
  obtain ⟨h6, _⟩ := I.hok a _ h4
  obtain ⟨ys, h7⟩ := dn_at I h6 h5
  obtain ⟨p, e1, hk⟩ := key_is I hy ri h2
  subst e1
  rw [Rp] at hx
  obtain ⟨a', h8, rfl⟩ := hx
  rw [h3] at h8; cases h8
  cases ro
  have hl1 : ys.length = kvs.length := by rw [← Paired.length h7.rel, ← Paired.length h5]
  have hy2 := hy
  rw [Rp] at hy2
  obtain ⟨p', _, e2, _⟩ := hy2
  subst e2
  cases ri
  refine wpAny_setItem_heap (hsz := h7.len) (hu1_room hu) hk h7.dict fun h' dd hs => ?_
  have hsome : (atKey ys k).isSome = (lookN kvs k).isSome := by
    rcases look_rel (k := k) h5 h7.rel with ⟨i1, i2⟩ | ⟨d2, w, z, i1, i2, i3, i4⟩
    · rw [i1, i2]; rfl
    · rw [i1, i2]; rfl
  have hlen : (setV xs k p v (lookN kvs k).isSome).length ≤ sizeLine := by
    have := Paired.length h5
    unfold setV
    split
    · rw [List.length_map]; omega
    · (rw [List.length_append, List.length_singleton]; omega)
  obtain ⟨ob, es, ep, g1, g2, g3, g4, _, g6⟩ := dd
  have new : dnF X.prog X.w a (setV xs k p v (lookN kvs k).isSome) h' := by
    refine ⟨h7.low, hlen, storedH ys k p u, ?_, ob, es, ep, g1, g2, g3, g4, g6⟩
    rw [← hsome]
    exact setV_rel h7.rel rv
  refine ⟨upd H a (.ext (dnF X.prog X.w a (setV xs k p v (lookN kvs k).isSome))), d_write I (by rw [h4]; exact True.intro) hs ⟨ob, g1⟩ (dn_obj new), ?_⟩
  have x1 : Ext (kx tb X) H m (upd H a (.ext (dnF X.prog X.w a (setV xs k p v (lookN kvs k).isSome)))) m := .upd h4 trivial
  refine q _ x1 (hS.upd h3 (lt_of h1) ⟨_, upd_same, ?_⟩)
  exact (setV_dn h5 (keyN_ok h2).1 (keyN_ok h2).2 hy hd).mono x1
theorem mg_subD {o i : Expr} {eo ei : EvM} (hu : X.A.units + 9 < cLine) (ho : ME tb X o eo) (hi : ME tb X i ei) (ha : ∀ v, assign (.Subscript o i pos) X.env v = (do
      let ow ← holding [v] (eval o X.env); let iw ← holding [v, ow] (eval i X.env); standAt pos; holding [v, ow, iw] (setItem ow iw v); release [v, ow, iw] []) := by intro _; rfl) : MG tb X (.Subscript o i pos) (subD eo ei) :=
  PG.imp (pg_sub ho hi (set_dn hu) ha) fun v σ H Q h => by
    obtain ⟨m, S, γ, d, γ', S', hS, hγ, hd, e, q⟩ := h
    unfold subD at e
    split at e
    · cases e
    · rename_i x S1 h1
      split at e
      · cases e
      · rename_i y S2 h2
        split at e
        · rename_i n ks
          split at e
          · rename_i kvs k h3 h4
            split at e
            · rename_i hz
              cases e
              refine ⟨m, S, γ, _, S1, hS, hγ, h1, fun w H1 m1 x1 hS1 hw => ?_⟩
              refine ⟨m1, S1, γ, _, S2, hS1, hγ.mono x1, h2, fun u H2 m2 x2 hS2 hu => ?_⟩
              exact ⟨m2, S2, n, ks, kvs, k, d, hS2, hw.mono x2, hu, (hd.mono x1).mono x2, h3, h4, hz, fun H' x3 hS3 => q σ H' m2 (x1.trans (x2.trans x3)) hS3 (hγ.mono (x1.trans (x2.trans x3)))⟩
            · cases e
          · cases e
        · cases e
end
end Ml
namespace Ml
open L2 PyProof.Rows PySem PySem.Spec
section
variable {tb : List NdefX.NTab} {X : Cx} {K : Kx} {a b c e f o tg iter : Expr} {ea eb ec eo ee ef : EvM} {pos apos cpos p : Pos}
theorem hu1 {k : Nat} {A : Around} (hr : Room k A) : A.units + 9 < cLine := by have := hr.un; omega
theorem hu65 {k : Nat} {A : Around} (hr : Room k A) : A.units + 65 < cLine := by have := hr.un; omega
/-! ### d.get(k, x) -/
def getOrM (eo ee ef : EvM) : EvM := fun γ S => match eo γ S with
  | some (.ref n, S1) => match S1[n]? with
    | some (.dn _ _) => match ee γ S1 with
      | some (.tup ks, S2) => match ef γ S2 with
        | some (x, S3) => match S3[n]?, keyN ks with
          | some (.dn _ kvs), some k => some ((lookN kvs k).getD x, S3)
          | _, _ => none
        | none => none
      | _ => none
    | _ => none
  | _ => none
theorem me_getOr (hu : X.A.units + 9 < cLine) (ho : ME tb X o eo) (he : ME tb X e ee) (hf : ME tb X f ef) (hm : M2 X o "get" apos e f cpos := by exact ⟨rfl, rfl, rfl, rfl⟩) : ME tb X (.Call (.Attribute o "get" apos) [e, f] [] cpos) (getOrM eo ee ef) := by
  refine .mk fun pins s σ H Q I h => ?_
  obtain ⟨m, S, γ, d, S', hS, hγ, e1, q⟩ := h
  unfold getOrM at e1
  split at e1
  · rename_i n S1 h1
    split at e1
    · rename_i lk kvs h2
      split at e1
      · rename_i ks S2 h3
        split at e1
        · rename_i x S3 h4
          split at e1
          · rename_i lk2 kvs2 k h5 h6
            cases e1
            refine wpAny_Call_method hm.base hm.few hm.line PySem.F.plainAttrs_dict PySem.F.slot_dict_get PySem.F.type_dict_get (thn (ho.run pins s σ H (fun v H1 => ∃ m1, Ext (kx tb X) H m H1 m1 ∧ SR (kx tb X) H1 m1 S1 ∧ Rp (kx tb X) H1 m1 (.ref n) v) I ⟨m, S, γ, _, S1, hS, hγ, h1, fun v H1 m1 x1 hS1 hv => ⟨m1, x1, hS1, hv⟩⟩) fun u s1 hq => ?_)
            obtain ⟨v, H1, I1, rv, m1, x1, hS1, hv⟩ := hq
            obtain ⟨ad, xs, ys, g1, g2, g3⟩ := dn_read I1 hS1 h2
            have hv2 := hv
            rw [Rp] at hv2
            obtain ⟨ad', g4, rfl⟩ := hv2
            rw [g1] at g4; cases g4
            cases rv
            obtain ⟨ob, es, ep, g5, g6, _⟩ := id g3.dict
            refine ⟨g3.dict.typeIs, fun b eb => by cases eb; exact ⟨ob, g5, g6.2.1⟩, ?_⟩
            rw [hm.trees]
            refine Calls.callWith_builtin rfl (Calls.evalArgs_plain (Calls.spliced_cons (thn (he.run pins s1 σ H1 (fun v H2 => ∃ m2, Ext (kx tb X) H1 m1 H2 m2 ∧ SR (kx tb X) H2 m2 S2 ∧ Rp (kx tb X) H2 m2 (.tup ks) v) I1 ⟨m1, S1, γ, _, S2, hS1, hγ.mono x1, h3, fun v H1 m1 x1 hS1 hv => ⟨m1, x1, hS1, hv⟩⟩) fun iv s2 hq => ?_)))
            obtain ⟨y, H2, I2, ry, m2, x2, hS2, hy⟩ := hq
            refine Calls.spliced_cons (thn (hf.run pins s2 σ H2 (fun v H3 => ∃ m3, Ext (kx tb X) H2 m2 H3 m3 ∧ SR (kx tb X) H3 m3 _ ∧ Rp (kx tb X) H3 m3 x v) I2 ⟨m2, S2, γ, _, _, hS2, hγ.mono (x1.trans x2), h4, fun v H1 m1 x1 hS1 hv => ⟨m1, x1, hS1, hv⟩⟩) fun fv s3 hq => Calls.spliced_nil ?_)
            obtain ⟨z, H3, I3, rz, m3, x3, hS3, hz⟩ := hq
            obtain ⟨ad2, xs2, ys2, k1, k2, k3⟩ := dn_read I3 hS3 h5
            have ge := (x2.trans x3).get g1
            rw [k1] at ge; cases ge
            obtain ⟨pq, rfl, hk⟩ := key_is I3 (hy.mono x3) ry h6
            refine call_meetsIn PySem.F.slot_dict_get k3.dict.typeIs PySem.F.entry_dict_get (PySem.F.args_dict_get_3 _ _ _) (meetsH_dict_get_default (nkd X) _ pq k3.low fv) ⟨hu1_room hu, k, ys2, hk, k3.dict, ?_⟩
            have x4 := x1.trans (x2.trans x3)
            rcases look_rel (k := k) k2 k3.rel with ⟨i1, i2⟩ | ⟨d2, w, zz, i1, i2, i3, i4⟩
            · rw [i1] at q
              refine ⟨z, H3, I3.tok _, ?_, q z H3 m3 x4 hS3 hz⟩
              rw [i2]; exact rz
            · rw [i1] at q
              refine ⟨w, H3, I3.tok _, ?_, q w H3 m3 x4 hS3 i3⟩
              rw [i2]; exact i4
          · cases e1
        · cases e1
      · cases e1
    · cases e1
  · cases e1
/-! ### a dict of the module, keys texts: what it has at the keys that are asked -/
structure CDict (K : PySem.W.Frag) (w : World) (a : Addr) (tbl : List (Str × Option D)) : Prop where
  at_ : ∃ es n, K.lookup a = some ⟨.type "dict", none, .dict es n, #[]⟩ ∧ PySem.W.KeysLit w.params es.toList
  low : (a == sysModules) = false
  val : ∀ z r, (z, r) ∈ tbl → match r with
    | some d => ∃ u v, PySem.W.nsIn K a z = some (some u) ∧ L2.RelV v u ∧ ∀ P b t H m, Rp ⟨K, P, w, b, t⟩ H m d v
    | none => PySem.W.nsIn K a z = some none
def cgetM (tbl : List (Str × Option D)) (ee ef : EvM) : EvM := fun γ S => match ee γ S with
  | some (.str z, S1) => match ef γ S1 with
    | some (x, S2) => match tbl.lookup z with
      | some r => some (r.getD x, S2)
      | none => none
    | none => none
  | _ => none
theorem mem_of_lookup {α β : Type} [BEq α] [LawfulBEq α] {k : α} {v : β} : ∀ {l : List (α × β)}, l.lookup k = some v → (k, v) ∈ l
  | (k', v') :: l, h => by
    rw [List.lookup_cons] at h
    split at h
    · rename_i hk
      have : k = k' := by simpa using hk
      cases h; subst this; exact List.mem_cons_self
    · exact List.mem_cons_of_mem _ (mem_of_lookup h)
theorem me_cget {x : Str} {ad : Addr} {tbl : List (Str × Option D)} (D : CDict X.K X.w ad tbl) (hg : Gl X x) (hmg : X.mg x = some (.ref ad)) (he : ME tb X e ee) (hf : ME tb X f ef) (hdb : (x == ("__debug__" : Str)) = false := by decide)
    (hm : M2 X (.Name x p) "get" apos e f cpos := by exact ⟨rfl, rfl, rfl, rfl⟩) : ME tb X (.Call (.Attribute (.Name x p) "get" apos) [e, f] [] cpos) (cgetM tbl ee ef) := by
  refine .mk fun pins s σ H Q I h => ?_
  obtain ⟨m, S, γ, d, S', hS, hγ, e1, q⟩ := h
  unfold cgetM at e1
  split at e1
  · rename_i z S1 h1
    split at e1
    · rename_i y S2 h2
      split at e1
      · rename_i r h3
        cases e1
        obtain ⟨es, n, l1, l2⟩ := D.at_
        have mo : ∀ {s' : Shared} {H' : Hp}, Inv X pins σ H' s' → s'.heap.MapOf (strKind X.prog X.w) ad (fun k => findBy Value.isStrOf es k) := fun J => PySem.W.mapOf_K (prog := X.prog) (w := X.w) J.kIn l1 l2
        refine wpAny_Call_method hm.base hm.few hm.line PySem.F.plainAttrs_dict PySem.F.slot_dict_get PySem.F.type_dict_get (ld_glob I hg hmg ?_ hdb)
        refine ⟨(mo I).typeIs, fun b eb => by cases eb; exact ⟨_, I.kIn _ _ l1, rfl⟩, ?_⟩
        rw [hm.trees]
        refine Calls.callWith_builtin rfl (Calls.evalArgs_plain (Calls.spliced_cons (thn (he.run pins s σ H (fun v H2 => ∃ m2, Ext (kx tb X) H m H2 m2 ∧ SR (kx tb X) H2 m2 S1 ∧ Rp (kx tb X) H2 m2 (.str z) v) I ⟨m, S, γ, _, S1, hS, hγ, h1, fun v H1 m1 x1 hS1 hv => ⟨m1, x1, hS1, hv⟩⟩) fun iv s2 hq => ?_)))
        obtain ⟨yv, H2, I2, ry, m2, x2, hS2, hy⟩ := hq
        refine Calls.spliced_cons (thn (hf.run pins s2 σ H2 (fun v H3 => ∃ m3, Ext (kx tb X) H2 m2 H3 m3 ∧ SR (kx tb X) H3 m3 _ ∧ Rp (kx tb X) H3 m3 y v) I2 ⟨m2, S1, γ, _, _, hS2, hγ.mono x2, h2, fun v H1 m1 x1 hS1 hv => ⟨m1, x1, hS1, hv⟩⟩) fun fv s3 hq => Calls.spliced_nil ?_)
        obtain ⟨zv, H3, I3, rz, m3, x3, hS3, hz⟩ := hq
        rw [Rp] at hy; subst hy
        obtain ⟨t, rfl⟩ := ry
        refine call_meetsIn PySem.F.slot_dict_get (mo I3).typeIs PySem.F.entry_dict_get (PySem.F.args_dict_get_3 _ _ _) (meets_dict_get_default (strKind X.prog X.w) ad (strKind_is X.prog X.w z t) D.low fv) ⟨_, mo I3, ?_⟩
        have hv := D.val z r (mem_of_lookup h3)
        cases r with
        | none =>
          refine ⟨zv, H3, I3.tok _, ?_, q zv H3 m3 (x2.trans x3) hS3 hz⟩
          rw [PySem.W.find_K l1 hv]; exact rz
        | some d =>
          obtain ⟨u, v, v1, v2, v3⟩ := hv
          refine ⟨v, H3, I3.tok _, ?_, q v H3 m3 (x2.trans x3) hS3 (v3 _ _ _ _ _)⟩
          rw [PySem.W.find_K l1 v1]; exact v2
      · cases e1
    · cases e1
  · cases e1
/-! ### range(a, b, -1) -/
def rngDown (lo : Int) (n : Nat) : List D := (List.range n).map fun (i : Nat) => D.int (lo - i)
theorem walks_rngC {H0 m0 lo n} : Walks K (Itc lo (-1) n) H0 m0 none (rngDown lo n) where
  go := fun H m S i x hS _ hi => by
    have hi : i < n := by simpa [rngDown] using hi
    refine ⟨hi, fun y H' q => ?_⟩
    obtain ⟨rfl, rfl⟩ := q
    exact ⟨.int (lo - i), by simp [rngDown, hi], .refl, hS, by rw [Rp]; congr 1; omega⟩
  stop := fun H m S x hS _ => by show n ≤ _; simp [rngDown]
def rngDI (ra : AvM) : IvM := fun γ S => match ra γ S with
  | some ([.int i, .int j, .int k], S') => if k = -1 ∧ -(2 ^ 62) ≤ i ∧ i < 2 ^ 62 ∧ -(2 ^ 62) ≤ j ∧ j < 2 ^ 62 then some (none, rngDown i (i - j).toNat, S') else none
  | _ => none
theorem mi_rngD {ra : AvM} (hg : Gl X "range") (hm : X.mg "range" = none) (ha : MA tb X [a, b, c] ra) (hs : starEach [a, b, c] X.env = (false, eval a X.env) :: starEach [b, c] X.env := by rfl) (hpl : (backTo pos (starEach [b, c] X.env)).any (·.1) = false := by rfl) :
    MI tb X tg (.Call (.Name "range" p) [a, b, c] [] pos) (rngDI ra) :=
  PI.imp (pi_range3 hg hm ha hs hpl) fun σ H R h => by
    obtain ⟨m, S, γ, ck, xs, S', hS, hγ, e1, q⟩ := h
    unfold rngDI at e1
    split at e1
    · rename_i i j k S1 h1
      split at e1
      · rename_i hj
        cases e1
        refine ⟨m, S, γ, _, _, hS, hγ, h1, fun vs H1 m1 x1 hS1 hv => ?_⟩
        simp only [Rps, Rp] at hv
        obtain ⟨_, _, rfl, rfl, _, _, rfl, rfl, _, _, rfl, rfl, rfl⟩ := hv
        refine ⟨i, j, k, (i - j).toNat, rfl, ?_, ?_⟩
        · rw [hj.1]; exact .neg hj.2.1 hj.2.2.1 hj.2.2.2.1 hj.2.2.2.2
        · rw [hj.1]; exact q _ H1 m1 x1 hS1 walks_rngC
      · cases e1
    · cases e1
end
end Ml
/-! a dict's keys gone through, the dict locked meanwhile -/
namespace Ml
open L2 PyProof.Rows PySem PySem.Spec
open Classical
section
variable {tb : List NdefX.NTab} {X : Cx} {K : Kx} {e tg iter : Expr} {ed ee : EvM} {pins : List (Addr × Obj)} {σ : L2.St} {H : Hp} {m : List Addr} {s : Shared}
def Itdn (P : Program) (w : World) (d : Addr) (o : Obj) (xs : List (NestedKey × Addr × V)) : It :=
  ⟨fun i H => H d = some (.frz o (.ext (dnF P w d xs))) ∧ i < xs.length, fun i H x H' => H' = H ∧ ∃ z, xs[i]? = some z ∧ x = .ref z.2.1, fun i H => H d = some (.frz o (.ext (dnF P w d xs))) ∧ xs.length ≤ i⟩
theorem frz_dn {d : Addr} {o : Obj} {xs : List (NestedKey × Addr × V)} (I : Inv X pins σ H s) (h : H d = some (.frz o (.ext (dnF X.prog X.w d xs)))) :
    (d == sysModules) = false ∧ s.heap.get? d = some o ∧ o.ExactDict ∧ ∃ (es : Array DictEntry) (ep : Nat), o.data = .dict es ep ∧ es.size = xs.length ∧
      ∀ (i : Nat) (z : NestedKey × Addr × V), xs[i]? = some z → ∃ en : DictEntry, es[i]? = some en ∧ en.key = .ref z.2.1 := by
  obtain ⟨hd, ⟨hs, hz, ys, pr, o', es, ep, ho, hx, hdt, he, _⟩, _, _⟩ := I.hok d _ h
  rw [hd] at ho
  cases ho
  refine ⟨hs, hd, hx, es, ep, hdt, ?_, fun i z e => ?_⟩
  · have l1 : es.size = ys.length := size_of_entries he
    have l2 : xs.length = ys.length := Paired.length pr
    omega
  · obtain ⟨b, hb, e1, e2, _⟩ := paired_get pr e; have q := entry_at he i
    rw [hb] at q
    exact ⟨_, q, by rw [e2]; rfl⟩
theorem turn_dn {P : Program} {w : World} {Kf : PySem.W.Frag} {d : Addr} {o : Obj} {es : Array DictEntry} {ep : Nat} {xs : List (NestedKey × Addr × V)} (it : Addr) (hod : o.data = .dict es ep) :
    Turn P w Kf tg (Itdn P w d o xs) [it] it (fun i h => h.IsKeyIter it d i xs.length ep) where
  mem := by simp
  obj := fun i h st b hb => by
    obtain rfl : b = it := by simpa using hb
    obtain ⟨oi, e, c, dd⟩ := st
    refine ⟨oi, e, fun v z => ?_⟩
    rw [dd] at z; cases z
  keep := fun i h h' st k => st.at fun oi e => k it (List.mem_singleton.mpr rfl) oi e
  item := by
    intro X hP hw hK hc i pins s σ H E I hf st hg; subst hP hw hK
    obtain ⟨hd, hi⟩ := hg
    obtain ⟨f0, f1, f2, f3, f4, f5⟩ := hf it (List.mem_singleton.mpr rfl)
    obtain ⟨hs, hgd, hx, es', ep', hdt, hsz, ent⟩ := frz_dn I hd
    obtain ⟨rfl, rfl⟩ := dict_ep hod hdt; have hz : xs[i]? = some xs[i] := List.getElem?_eq_getElem hi
    obtain ⟨en, hen, hkey⟩ := ent i _ hz
    refine next_key_item st hgd hdt hsz hen fun h' st' sb => ?_; have I1 : Inv X pins σ H { s with heap := h' } := I.turned (t' := s.toks) (fun b ob hb e => by rw [sb.2 b hb]; exact e) f0 f1 f3 f4 f5
    obtain ⟨oi, e, c, dd⟩ := id st'; exact ⟨en.key, rfl, go_of (s := { s with heap := h' }) e c dd (by decide) ⟨.ref xs[i].2.1, H, I1, hkey, ⟨rfl, _, hz, rfl⟩, st', fun b hb => (hf b hb).1⟩⟩
  done := by
    intro X hP hw hK hc i pins s σ H E I hf st hg; subst hP hw hK
    obtain ⟨hd, hi⟩ := hg
    obtain ⟨f0, f1, f2, f3, f4, f5⟩ := hf it (List.mem_singleton.mpr rfl)
    obtain ⟨hs, hgd, hx, es', ep', hdt, hsz, ent⟩ := frz_dn I hd
    obtain ⟨rfl, rfl⟩ := dict_ep hod hdt; exact next_key_end (I.ok.hd hc) st hgd hdt hsz hi fun h' eb => ⟨rfl, I.turned (t' := s.toks) (fun b ob hb e => by rw [eb b ob hb e]) f0 f1 f3 f4 f5⟩
  self := (turn_keysT (P := P) (w := w) (K := Kf) (tg := tg) (d := d) (kvs := xs.map fun z => ([], z.2.2)) it hod).self |> fun q A i s Q E st h => q A i s Q E (by rw [List.length_map]; exact st) h
theorem walks_dn {H0 m0 n kvs a od} {xs : List (NestedKey × Addr × V)} (h1 : H0 a = some (.frz od (.ext (dnF K.p K.w a xs)))) (h2 : Rdn K H0 m0 kvs xs) : Walks K (Itdn K.p K.w a od xs) H0 m0 (some (n, .dn true kvs)) (kvs.map (·.1)) where
  go := fun H m S i x hS hc hi => by
    have hi : i < kvs.length := by simpa using hi
    have hl : kvs.length = xs.length := Paired.length h2
    refine ⟨⟨x.frz _ _ _ h1, by omega⟩, fun y H' q => ?_⟩
    obtain ⟨rfl, z, hz, rfl⟩ := q
    have hk : kvs[i]? = some kvs[i] := List.getElem?_eq_getElem hi
    obtain ⟨b, hb, _, _, e3, _⟩ := paired_get h2 hk
    rw [hb] at hz; cases hz
    exact ⟨kvs[i].1, by rw [List.getElem?_map, hk]; rfl, .refl, hS, e3.mono x⟩
  stop := fun H m S x hS hc => ⟨x.frz _ _ _ h1, by
    have hl : kvs.length = xs.length := Paired.length h2
    rw [List.length_map]; omega⟩
def keysI (ed : EvM) : IvM := fun γ S => match ed γ S with
  | some (.ref n, S') => match S'[n]? with
    | some (.dn true kvs) => some (some (n, .dn true kvs), kvs.map (·.1), S')
    | _ => none
  | _ => none
theorem mi_keys (he : ME tb X iter ed) : MI tb X tg iter (keysI ed) := by
  refine .mk fun pins s σ H R I hq => ?_
  obtain ⟨m, S, γ, ck, ds, S', hS, hγ, e1, q⟩ := hq
  unfold keysI at e1
  split at e1
  · rename_i n S1 h1
    split at e1
    · rename_i kvs h2
      cases e1
      refine thn (he.run pins s σ H (fun v H1 => ∃ m1, Ext (kx tb X) H m H1 m1 ∧ SR (kx tb X) H1 m1 _ ∧ Rp (kx tb X) H1 m1 (.ref n) v) I ⟨m, S, γ, _, _, hS, hγ, h1, fun v H1 m1 x1 hS1 hv => ⟨m1, x1, hS1, hv⟩⟩) fun u s1 hq => ?_
      obtain ⟨v, H1, I1, rv, m1, x1, hS1, hv⟩ := hq
      rw [Rp] at hv
      obtain ⟨a, ha, rfl⟩ := hv
      obtain rfl : u = Value.ref a := rv
      obtain ⟨a', h3, od, xs, h4, h5⟩ := hS1.addr h2
      rw [ha] at h3; cases h3
      obtain ⟨hs, hgd, hx, es, ep, hdt, hsz, ent⟩ := frz_dn I1 h4
      refine iter_keys hs hgd hx hdt (pi_one (tk := s1.toks) I1 _ (turn_dn _ hdt) ⟨_, Heap.get?_push_size _ rfl, rfl, ?_⟩ (q _ H1 m1 x1 hS1 (walks_dn h4 h5)))
      rw [hsz] <;> rfl
    · cases e1
  · cases e1
/-- the dict that stands in slot i is locked meanwhile -/
def lockM (i : Nat) (e : EvM) : EvM := fun γ S => match γ[i]? with
  | some (some (.ref n)) => match S[n]? with
    | some (.dn false kvs) => match e γ (S.set n (.dn true kvs)) with
      | some (d, S1) => match S1[n]? with
        | some (.dn true kvs') => some (d, S1.set n (.dn false kvs'))
        | _ => none
      | none => none
    | _ => none
  | _ => none
def lockS (i : Nat) (e : SvM) : SvM := fun γ S => match γ[i]? with
  | some (some (.ref n)) => match S[n]? with
    | some (.dn false kvs) => match e γ (S.set n (.dn true kvs)) with
      | some (d, γ1, S1) => match S1[n]? with
        | some (.dn true kvs') => some (d, γ1, S1.set n (.dn false kvs'))
        | _ => none
      | none => none
    | _ => none
  | _ => none
theorem Ext.unlock {H m a od u H1 m1} (h : H a = some u) (hf : Free u) (hn : NoTup (.frz od u)) (x : Ext K (L2.upd H a (.frz od u)) m H1 m1) : Ext K H m (L2.upd H1 a u) m1 := by
  have x0 : Ext K H m (L2.upd H a (.frz od u)) m := .upd h hf
  have h1 : H1 a = some (.frz od u) := x.frz _ _ _ L2.upd_same
  refine ⟨(x0.toExt0.trans x.toExt0).trans (Ext0.upd h1 hn), fun b o w hb => ?_⟩
  have ne : b ≠ a := fun z => by subst z; rw [hb] at h; cases h; exact hf
  rw [L2.upd_ne ne]
  exact x.frz _ _ _ (by rw [L2.upd_ne ne]; exact hb)
theorem sr_lock {H m S n kvs a od} {xs : List (NestedKey × Addr × V)} (hS : SR K H m S) (e : S[n]? = some (.dn false kvs)) (hm : m[n]? = some a) (h : H a = some (.ext (dnF K.p K.w a xs))) (r : Rdn K H m kvs xs) :
    SR K (upd H a (.frz od (.ext (dnF K.p K.w a xs)))) m (S.set n (.dn true kvs)) :=
  hS.upd hm (lt_of e) ⟨od, xs, upd_same, r.mono (.upd h trivial)⟩
theorem sr_unlock {H m S n kvs a od} {xs : List (NestedKey × Addr × V)} (hS : SR K H m S) (e : S[n]? = some (.dn true kvs)) (hm : m[n]? = some a) (h : H a = some (.frz od (.ext (dnF K.p K.w a xs)))) :
    SR K (upd H a (.ext (dnF K.p K.w a xs))) m (S.set n (.dn false kvs)) := by
  obtain ⟨a', h1, od2, xs2, h2, r⟩ := hS.addr e
  rw [hm] at h1; cases h1
  rw [h] at h2
  have e2 : HO.ext (dnF K.p K.w a xs) = .ext (dnF K.p K.w a xs2) := by
    have := Option.some.inj h2
    injection this
  exact hS.upd hm (lt_of e) ⟨xs2, by rw [upd_same, e2], r.mono0 (Ext0.upd h trivial)⟩
theorem me_lock (i : Nat) (h : ME tb X e ee) : ME tb X e (lockM i ee) := PE.imp (pe_lock h) fun σ H Q hq => by
  obtain ⟨m, S, γ, d, S', hS, hγ, e1, q⟩ := hq
  unfold lockM at e1
  split at e1
  · rename_i n h1
    split at e1
    · rename_i kvs h2
      split at e1
      · rename_i d1 S1 h3
        split at e1
        · rename_i kvs' h4
          cases e1
          obtain ⟨a, h5, xs, h6, h7⟩ := hS.addr h2
          refine ⟨a, _, h6, trivial, fun od => ?_⟩
          refine ⟨m, _, γ, _, _, sr_lock hS h2 h5 h6 h7, hγ.mono (.upd h6 trivial), h3, fun w H1 m1 x1 hS1 hw => ?_⟩
          have h8 := x1.frz _ _ _ upd_same
          exact ⟨h8, q w _ m1 (.unlock h6 trivial trivial x1) (sr_unlock hS1 h4 (x1.get h5) h8) (hw.mono0 (Ext0.upd h8 trivial))⟩
        · cases e1
      · cases e1
    · cases e1
  · cases e1
theorem ms_lock {st : Stmt} {ss : SvM} (i : Nat) (h : MS tb X st ss) : MS tb X st (lockS i ss) := PS.imp (ps_lock h) fun Dn σ H hq => by
  obtain ⟨m, S, γ, f, γ', S', hS, hγ, e1, q⟩ := hq
  unfold lockS at e1
  split at e1
  · rename_i n h1
    split at e1
    · rename_i kvs h2
      split at e1
      · rename_i f1 γ1 S1 h3
        split at e1
        · rename_i kvs' h4
          cases e1
          obtain ⟨a, h5, xs, h6, h7⟩ := hS.addr h2
          refine ⟨a, _, h6, trivial, fun od => ?_⟩
          refine ⟨m, _, γ, _, _, _, sr_lock hS h2 h5 h6 h7, hγ.mono (.upd h6 trivial), h3, ?_⟩
          have up : ∀ H1 m1, Ext (kx tb X) (upd H a (.frz od (.ext (dnF (kx tb X).p (kx tb X).w a xs)))) m H1 m1 → H1 a = some (.frz od (.ext (dnF (kx tb X).p (kx tb X).w a xs))) := fun H1 m1 x => x.frz _ _ _ upd_same
          have hz : ∀ {H1 m1 σ1}, SLR (kx tb X) H1 m1 γ' σ1 → H1 a = some (.frz od (.ext (dnF (kx tb X).p (kx tb X).w a xs))) → SLR (kx tb X) (upd H1 a (.ext (dnF (kx tb X).p (kx tb X).w a xs))) m1 γ' σ1 :=
            fun hg h8 => ⟨hg.len, fun i d q => let ⟨v, a, b⟩ := hg.at_ i d q; ⟨v, a, b.mono0 (Ext0.upd h8 trivial)⟩⟩
          cases f with
          | nx => exact fun σ1 H1 m1 x1 hS1 hγ1 => ⟨up _ _ x1, q σ1 _ m1 (.unlock h6 trivial trivial x1) (sr_unlock hS1 h4 (x1.get h5) (up _ _ x1)) (hz hγ1 (up _ _ x1))⟩
          | bk => exact fun σ1 H1 m1 x1 hS1 hγ1 => ⟨up _ _ x1, q σ1 _ m1 (.unlock h6 trivial trivial x1) (sr_unlock hS1 h4 (x1.get h5) (up _ _ x1)) (hz hγ1 (up _ _ x1))⟩
          | ct => exact fun σ1 H1 m1 x1 hS1 hγ1 => ⟨up _ _ x1, q σ1 _ m1 (.unlock h6 trivial trivial x1) (sr_unlock hS1 h4 (x1.get h5) (up _ _ x1)) (hz hγ1 (up _ _ x1))⟩
          | rt d => exact fun w H1 m1 x1 hS1 hw => ⟨up _ _ x1, q w _ m1 (.unlock h6 trivial trivial x1) (sr_unlock hS1 h4 (x1.get h5) (up _ _ x1)) (hw.mono0 (Ext0.upd (up _ _ x1) trivial))⟩
        · cases e1
      · cases e1
    · cases e1
  · cases e1
end
end Ml
/-! dict(a list of pairs), the keys tuples -/
namespace Ml
open L2 PyProof.Rows PySem PySem.Spec
open Classical
/-- a pair: its key, its value -/
def pairN : D → Option (D × D × NestedKey)
  | .tup [.tup ks, x] => match keyN ks with
    | some k => some (.tup ks, x, k)
    | none => none
  | _ => none
def pairsN : List D → Option (List (D × D × NestedKey))
  | [] => some []
  | p :: ps => match pairN p, pairsN ps with
    | some q, some r => some (q :: r)
    | _, _ => none
def putAll (l : List (D × D × NestedKey)) (kvs : List (D × D)) : List (D × D) := l.foldl (fun acc p => setN acc p.1 p.2.2 p.2.1) kvs
def dictF : List D → Sto → Option (D × Sto)
  | [.ref n], S => match S[n]? with
    | some (.lst ps) => match pairsN ps with
      | some l => some (.ref S.length, S ++ [.dn false (putAll l [])])
      | none => none
    | _ => none
  | _, _ => none
abbrev RelN : NestedKey × Addr × V → NestedKey × Addr × Value → Prop := fun p q => p.1 = q.1 ∧ p.2.1 = q.2.1 ∧ RelV p.2.2 q.2.2
section
variable {tb : List NdefX.NTab} {X : Cx} {pins : List (Addr × Obj)} {σ : L2.St} {H : Hp} {m : List Addr} {s : Shared}
def RelL (K : Kx) (H : Hp) (m : List Addr) : D × D × NestedKey → NestedKey × Addr × V → Prop := fun p z => p.2.2 = z.1 ∧ nk p.1 = some z.1 ∧ z.1.depth ≤ 8 ∧ Rp K H m p.1 (.ref z.2.1) ∧ Rp K H m p.2.1 z.2.2
theorem pairs_of (I : Inv X pins σ H s) : ∀ {ps : List D} {ws : List V} {its : List Value} {l : List (D × D × NestedKey)}, Rps (kx tb X) H m ps ws → Vals ws its → pairsN ps = some l →
    ∃ (ts : List Addr) (xs : List (NestedKey × Addr × V)) (ys : List (NestedKey × Addr × Value)), its = ts.map Value.ref ∧ Paired (fun t y => IsTup s.heap t #[.ref y.2.1, y.2.2]) ts ys ∧ Paired RelN xs ys ∧ Paired (RelL (kx tb X) H m) l xs ∧ ∀ y ∈ ys, (nkd X).is s.heap y.1 y.2.1
  | [], ws, its, l, h, r, e => by
    rw [Rps] at h; subst h; cases r; cases e
    exact ⟨[], [], [], rfl, .nil, .nil, .nil, fun y hy => nomatch hy⟩
  | p :: ps, ws, its, l, h, r, e => by
    rw [Rps] at h
    obtain ⟨v, vs, rfl, h1, h2⟩ := h
    unfold pairsN at e
    split at e
    · rename_i q r' hq hr
      cases e
      cases r with
      | cons r1 r2 =>
        obtain ⟨ts, xs, ys, rfl, g1, g2, g3, g4⟩ := pairs_of I h2 r2 hr
        unfold pairN at hq
        split at hq
        · rename_i ks x
          split at hq
          · rename_i k hk
            cases hq
            rw [Rp] at h1
            obtain ⟨a, us, rfl, ha, hu⟩ := h1
            obtain ⟨kv, xv, rfl, hkv, hxv⟩ := hu.two_iff
            cases r1
            obtain ⟨its2, rv, pl, hz⟩ := I.tuple ha
            cases rv with
            | cons s1 s2 =>
              cases s2 with
              | cons t1 t2 =>
                cases t2
                obtain ⟨b, e1, hb⟩ := key_is I hkv s1 hk
                subst e1
                have hkr := hkv
                rw [Rp] at hkr
                obtain ⟨b', _, rfl, _, _⟩ := hkr
                cases s1
                refine ⟨a :: ts, (k, b, xv) :: xs, (k, b, _) :: ys, rfl, .cons pl g1, .cons ⟨rfl, rfl, t1⟩ g2, .cons ⟨rfl, (keyN_ok hk).1, (keyN_ok hk).2, hkv, hxv⟩ g3, fun y hy => ?_⟩
                rcases (List.mem_cons.mp hy) with rfl | hy
                · exact hb
                · exact g4 y hy
          · cases hq
        · cases hq
    · cases e
theorem putAll_rel : ∀ {l : List (D × D × NestedKey)} {zs : List (NestedKey × Addr × V)} {ws : List (NestedKey × Addr × Value)}, Paired (RelL (kx tb X) H m) l zs → Paired RelN zs ws →
    ∀ {kvs : List (D × D)} {xs : List (NestedKey × Addr × V)} {ys : List (NestedKey × Addr × Value)}, Rdn (kx tb X) H m kvs xs → Paired RelN xs ys → ∃ xs', Rdn (kx tb X) H m (putAll l kvs) xs' ∧ Paired RelN xs' (storedAllH ys ws)
  | _, _, _, .nil, .nil, _, xs, _, h, r => ⟨xs, h, r⟩
  | p :: l, z :: zs, y :: ws, .cons a t, .cons b u, kvs, xs, ys, h, r => by
    obtain ⟨a1, a2, a3, a4, a5⟩ := a
    obtain ⟨b1, b2, b3⟩ := b
    have hsome : (atKey ys z.1).isSome = (lookN kvs z.1).isSome := by
      rcases look_rel (k := z.1) h r with ⟨i1, i2⟩ | ⟨d2, w, zz, i1, i2, i3, i4⟩
      · rw [i1, i2]; rfl
      · rw [i1, i2]; rfl
    have h1 := setV_dn h a2 a3 a4 a5
    have r1 := setV_rel (k := z.1) (q := z.2.1) (v := z.2.2) (u := y.2.2) r b3
    rw [hsome] at r1
    have fin := putAll_rel t u h1 r1
    rw [b1, b2] at fin
    have e : putAll (p :: l) kvs = putAll l (setN kvs p.1 z.1 p.2.1) := by show putAll l (setN kvs p.1 p.2.2 p.2.1) = _; rw [a1]
    rw [e, b1]
    exact fin
theorem storedAllH_length (ps : List (NestedKey × Addr × Value)) : ∀ xs : List (NestedKey × Addr × Value), (storedAllH xs ps).length ≤ xs.length + ps.length := by
  induction ps with
  | nil => intro xs; exact Nat.le_refl _
  | cons p ps ih =>
    intro xs
    have h1 := ih (storedH xs p.1 p.2.1 p.2.2); have h2 := storedH_length xs p.1 p.2.1 p.2.2
    show (storedAllH (storedH xs p.1 p.2.1 p.2.2) ps).length ≤ _; rw [List.length_cons]
    omega
def rDict (K : Kx) : List V → Hp → VK → Prop := fun vs H Q => ∃ m S n ps l v, SR K H m S ∧ vs = [v] ∧ Rp K H m (.ref n) v ∧ S[n]? = some (.lst ps) ∧ pairsN ps = some l ∧ Fin K H m (S ++ [.dn false (putAll l [])]) (.ref S.length) Q
theorem dictF_ok {K : Kx} : FOkN K dictF (rDict K) := by
  intro xs S d S' e H m vs Q hS hx q
  unfold dictF at e
  split at e
  · rename_i n
    split at e
    · rename_i ps h1
      split at e
      · rename_i l h2
        cases e
        obtain ⟨v, rfl, hv⟩ := hx.one_iff
        exact ⟨m, S, n, ps, l, v, hS, rfl, hv, h1, h2, q⟩
      · cases e
    · cases e
  · cases e
theorem call_dictN (hcalm : X.calm = true) (hu : X.A.units + 65 < cLine) : CallR X (.type "dict") (rDict (kx tb X)) := by
  intro pins s σ H xs us Q I r h; obtain ⟨m, S, n, ps, l, v, hS, rfl, hv, h1, h2, q⟩ := h
  obtain ⟨u, rfl, rx⟩ := vals1 r; rw [Rp] at hv
  obtain ⟨a, ha, rfl⟩ := hv
  cases rx
  obtain ⟨a', ws, m1, k1, r1⟩ := hS.lst h1
  rw [ha] at m1; cases m1
  obtain ⟨its, rv, pl, hz⟩ := I.list (SqL.of k1)
  obtain ⟨ts, zs, ys, ei, g1, g2, g3, g4⟩ := pairs_of I r1 rv h2
  subst ei
  have hl : ts.length = ys.length := Paired.length g1
  have hsz : ys.length ≤ sizeLine := by have := r1.length; have := rv.length; rw [List.length_map] at this; omega
  obtain ⟨xs', f1, f2⟩ := putAll_rel g3 g2 (kvs := []) (xs := []) (ys := []) .nil .nil
  have hp := I.hok.fresh (Nat.le_refl s.heap.objs.size)
  refine call_dict_pairsH (knd := nkd X) (ps := ys) (PairArg.list a (ts.map Value.ref).toArray (fun j => ts.getD j 0) (ys.map fun y => (Value.ref y.2.1, y.2.2))) (I.ok.hd hcalm) ?_ ?_ ?_ ?_ (by rw [List.length_map]; exact hsz) fun h' tk hd' hk => ?_
  · show X.A.units + 1 + 1 + 8 < cLine
    omega
  · refine ⟨pl, by simp [hl], fun j k v e => ?_⟩
    rw [List.getElem?_map] at e
    obtain ⟨y, hy, e2⟩ := Option.map_eq_some_iff.mp e
    cases e2
    obtain ⟨hj, _⟩ := List.getElem?_eq_some_iff.mp hy
    have ht : ts[j]? = some ts[j] := List.getElem?_eq_getElem (by omega)
    obtain ⟨y', hy', it⟩ := paired_get g1 ht
    rw [hy] at hy'; cases hy'
    have eg : ts.getD j 0 = ts[j] := by rw [List.getD_eq_getElem?_getD, ht]; rfl
    show (List.map Value.ref ts).toArray[j]? = some (Value.ref (ts.getD j 0)) ∧ PairAt s.heap (ts.getD j 0) (Value.ref y.2.1) y.2.2
    rw [eg]
    exact ⟨by simp [ht], .inl it⟩
  · refine ⟨by rw [List.length_map], fun i key v e => ?_⟩
    have e' : (ys.map fun y => (Value.ref y.2.1, y.2.2))[i]? = some (key, v) := e
    rw [List.getElem?_map] at e'
    obtain ⟨y, hy, e2⟩ := Option.map_eq_some_iff.mp e'
    cases e2
    exact ⟨y.1, y.2.1, hy, rfl⟩
  · exact fun h' k x hx => nestedKind_stays.stays (fun b o vs n e _ => k b o (Nat.ne_of_lt (Heap.lt_size e)) (fun z => nomatch z) e) (g4 x hx)
  · have k : ∀ b o, s.heap.get? b = some o → h'.get? b = some o := fun b o e => hk b o (fun z => nomatch z) e
    obtain ⟨ob, es, ep, d1, d2, d3, d4, _, d6⟩ := hd'
    have low : (s.heap.objs.size == sysModules) = false := beq_eq_false_iff_ne.mpr (Ne.symm (Nat.ne_of_lt I.big))
    have hlen : xs'.length ≤ sizeLine := by
      have e1 := Paired.length f2
      have e2 := storedAllH_length ys []
      simp only [List.length_nil, Nat.zero_add] at e2
      omega
    have new : dnF X.prog X.w s.heap.objs.size xs' h' := ⟨low, hlen, _, f2, ob, es, ep, d1, d2, d3, d4, d6⟩
    refine ⟨.ref s.heap.objs.size, _, I.laid (a := s.heap.objs.size) (o := .ext (dnF X.prog X.w s.heap.objs.size xs')) (t' := tk) k (Nat.le_refl _) (dn_obj new), rfl, ?_⟩
    refine q _ _ (m ++ [s.heap.objs.size]) (.newM hp) (hS.newM hp ⟨xs', upd_same, f1.mono (.newM hp)⟩) ?_
    rw [Rp]
    exact ⟨_, by rw [← hS.len]; simp, rfl⟩
end
end Ml
/-! a tuple the other way round -/
namespace Ml
open L2 HT PyProof.Rows PySem PySem.Spec
section
variable {prog : Program}
variable {w : World} {A : Around} {E : Value → Shared → Prop} {s : Shared}
theorem adjust_rev (n : Nat) : Builtin.Slice.sliceAdjust none none (-1) (n : Int) = ((n : Int) - 1, -1) := by
  unfold Builtin.Slice.sliceAdjust; have h1 : (-1 : Int) < 0 := by decide
  simp only [h1, if_true]
theorem places_rev (n : Nat) : Builtin.Slice.slicePlaces ((n : Int) - 1) (-1) (-1) = n := by
  unfold Builtin.Slice.slicePlaces; have h1 : ¬ ((-1 : Int) > 0) := by decide
  simp only [h1, if_false]
  split
  · rw [show (- -1 : Int) = 1 by decide, Int.ediv_one]; omega
  · omega
theorem applied_rev {sl : Addr} {vl vu vs : Value} {n : Nat} {Q : Int × Int × Nat → Shared → Prop} (hs : s.heap.IsSliceOf sl vl vu vs) (pl : IsPart vl none) (pu : IsPart vu none) (ps : IsPart vs (some (-1)))
    (h : Q ((n : Int) - 1, -1, n) s) : wpAny (model prog w) A (Builtin.Slice.sliceApplied (.ref sl) (pure (n : Int))) Q E s := by
  obtain ⟨os, hos, hcs, hds⟩ := id hs; unfold Builtin.Slice.sliceApplied Builtin.Slice.sliceFields
  refine wpAny_bind (wpAny_bind (wpAny_field hos hds (x := vl) rfl (wpAny_bind (wpAny_field hos hds (x := vu) rfl (wpAny_bind (wpAny_field hos hds (x := vs) rfl (wpAny_pure ?_)))))))
  refine wpAny_bind (slicePart_ ps ?_)
  show wpAny _ _ (if ((-1 : Int) == 0) = true then _ else _) _ _ s
  rw [if_neg (by decide)]
  refine wpAny_bind (slicePart_ pl (wpAny_bind (slicePart_ pu (wpAny_bind (wpAny_pure ?_))))); show wpAny _ _ (match Builtin.Slice.sliceAdjust none none (-1) (n : Int) with | (lo, hi) => pure (lo, (-1 : Int), Builtin.Slice.slicePlaces lo hi (-1))) _ _ s
  rw [adjust_rev n]
  show wpAny _ _ (pure ((n : Int) - 1, (-1 : Int), Builtin.Slice.slicePlaces ((n : Int) - 1) (-1) (-1))) _ _ s
  rw [places_rev]
  exact wpAny_pure h
theorem fm_congr {α β : Type} {f g : α → Option β} : ∀ {l : List α}, (∀ x ∈ l, f x = g x) → l.filterMap f = l.filterMap g
  | [], _ => rfl
  | x :: l, h => by
    rw [List.filterMap_cons, List.filterMap_cons, h x List.mem_cons_self, fm_congr fun y hy => h y (List.mem_cons_of_mem _ hy)]
theorem pick_rev (xs : Array Value) : ((List.range xs.size).filterMap fun (m : Nat) => xs[(((xs.size : Int) - 1) + (m : Int) * (-1)).toNat]?).toArray = xs.toList.reverse.toArray := by
  have e : (List.range xs.size).filterMap (fun (m : Nat) => xs[(((xs.size : Int) - 1) + (m : Int) * (-1)).toNat]?) = ((List.range xs.size).map fun k => xs.size - 1 - k).filterMap (xs[·]?) := by
    rw [List.filterMap_map]
    refine fm_congr fun k hk => ?_
    have := List.mem_range.mp hk
    show xs[_]? = xs[xs.size - 1 - k]?
    congr 1
    omega
  rw [e, PySem.W.krv_range, List.filterMap_reverse, PySem.W.krv_all]
theorem getItem_tuple_rev {t sl : Addr} {items : Array Value} {vl vu vs : Value} {Q : Value → Shared → Prop} (ht : IsTup s.heap t items) (hs : s.heap.IsSliceOf sl vl vu vs) (pl : IsPart vl none) (pu : IsPart vu none) (ps : IsPart vs (some (-1)))
    (h : Q (.ref s.heap.objs.size) { s with heap := s.heap.push { cls := .type "tuple", data := .seq items.toList.reverse.toArray } })
    (hz : items.size ≤ sizeLine) : wpAny (model prog w) A (getItem (.ref t) (.ref sl)) Q E s := by
  have htake : sizeOk (.seq items.toList.reverse.toArray) := by
    show items.toList.reverse.toArray.size ≤ sizeLine
    rw [List.size_toArray, List.length_reverse, Array.length_toList]; omega
  obtain ⟨os, hos, hcs, hds⟩ := id hs; have hTs : s.TypeIs (.ref sl) "slice" := ⟨os, hos, hcs⟩
  unfold getItem; try with_reducible refine wpAny_holding ?_
  first | refine wpAny_bind (wpAny_pure ?_) | skip; refine wpAny_bind (wpAny_sequenceKey ht.typeIs (by decide) ?_)
  refine wpAny_bind (wpAny_callSpecial?_slot (name := Str.ofString "__getitem__") ht.typeIs (PyProof.Rows.slot_tuple_getitem)
    (wpAny_call_entry (PyProof.Rows.slot_tuple_getitem) ht.typeIs entry_tuple_getitem ?_ (args_tuple_getitem _ _)))
  show wpAny _ _ (Builtin.Tuple.tupleItemsOf (.ref t) >>= _) _ _ s; refine wpAny_bind (tupleItemsOf_ ht (?_))
  refine wpAny_bind (wpAny_typeOf hTs ?_); rw [if_pos (by decide)]
  refine wpAny_bind (applied_rev hs pl pu ps ?_)
  show wpAny _ _ (if (((items.size : Int) - 1 == 0) && ((-1 : Int) == 1) && (items.size == items.size)) = true then _ else _) _ _ s
  rw [if_neg (by simp), pick_rev]
  first
    | exact wpAny_bind (m := Builtin.Tuple.tupleExact _) (wpAny_newObj_type (wpAny_pure ⟨_, rfl, (wpAny_pure h)⟩) htake)
    | exact wpAny_bind (m := Builtin.Tuple.tupleExact _) (wpAny_newObj_type (wpAny_bind (wpAny_pure (wpAny_pure ⟨_, rfl, (wpAny_pure h)⟩))) htake)
    | exact wpAny_bind (wpAny_bind (m := Builtin.Tuple.tupleExact _) (wpAny_newObj_type (wpAny_pure (wpAny_pure ⟨_, rfl, (wpAny_pure h)⟩)) htake))
    | exact wpAny_bind (wpAny_bind (m := Builtin.Tuple.tupleExact _) (wpAny_newObj_type (wpAny_pure ⟨_, rfl, (wpAny_pure h)⟩) htake))
end
def tRevT (K : PySem.W.Frag) (te : TE) : TE := fun σ H Q => te σ H fun x H1 => ∃ a xs, x = .ref a ∧ SqT K H1 a xs ∧ ∀ p, H1 p = none → Q (.ref p) (upd H1 p (.tup xs.reverse))
section
variable {tb : List NdefX.NTab} {X : Cx} {K : Kx} {a e : Expr} {ea : EvM} {pos : Pos}
theorem pe_revT {te : TE} {k : Nat} {p1 p2 p3 : Pos} (he : PE X e te) : PE X (.Subscript e (.Slice none none (some (.UnaryOp .USub (.Constant (.int 1) k p1) p2)) p3) pos) (tRevT X.K te) := by
  refine ⟨fun pins s σ H Q I h => Subscript_ (thn (he.run pins s σ H _ I h) fun v s1 ⟨x, H1, I1, r1, q1⟩ => ?_)⟩
  obtain ⟨a, xs, ex, hx, q⟩ := q1; subst ex; cases r1
  have hst : PO X (some (.UnaryOp .USub (.Constant (.int 1) k p1) p2)) (tPart (tUn (rU fun i => .int (-i)) (tC (.int 1)))) := po_some (pe_un un_neg pe_int); refine wpAny_Slice (thn (po_none.run pins s1 σ H1 (fun o H2 => o = none ∧ H2 = H1) I1 ⟨rfl, rfl⟩) fun vl s2 ⟨l, H2, I2, pl, el, e2⟩ => ?_); subst el e2
  refine thn (po_none.run pins s2 σ H2 (fun o H3 => o = none ∧ H3 = H2) I2 ⟨rfl, rfl⟩) fun vu s3 ⟨u, H3, I3, pu, eu, e3⟩ => ?_; subst eu e3
  refine thn (hst.run pins s3 σ H3 (fun o H4 => o = some (-1) ∧ H4 = H3) I3 ⟨1, rfl, -1, rfl, rfl, rfl⟩) fun vs s4 ⟨o, H4, I4, ps, eo, e4⟩ => ?_; subst eo e4
  have I5 : Inv X pins σ H4 { s4 with heap := s4.heap.push { cls := .type "slice", data := .fields #[vl, vu, vs] } } := I4.kept (t' := s4.toks) fun b ob q => Heap.get?_push_of_some _ q; obtain ⟨its, r, ht, hz⟩ := I5.tuple hx
  have hlen := r.length
  show wpAny (model X.prog X.w) X.A (subscriptTail e (.Slice none none (some (.UnaryOp .USub (.Constant (.int 1) k p1) p2)) p3) (.ref a) (.ref s4.heap.objs.size)) (EP X pins σ Q) X.xe { s4 with heap := s4.heap.push { cls := .type "slice", data := .fields #[vl, vu, vs] } }; refine tail_any (ops := [.ref a, .ref s4.heap.objs.size]) ht.typeIs (PyProof.Rows.slot_tuple_getitem.lookup) ?_ (by with_unfolding_all rfl)
  refine getItem_tuple_rev ht (Heap.IsSliceOf.new _ vl vu vs) pl pu ps ?_ (by rw [List.size_toArray]; omega)
  refine ⟨.ref _, _, I5.laid (t' := s4.toks) (o := .tup xs.reverse) (fun b ob q => Heap.get?_push_of_some _ q) (Nat.le_refl _) ?_, rfl, q _ (I5.hok.fresh (Nat.le_refl _))⟩
  exact ⟨by rw [List.length_reverse]; exact hz, _, r.reverse, IsTup.new _ _⟩
def revTM (ea : EvM) : EvM := fun γ S => match ea γ S with
  | some (.tup xs, S1) => some (.tup xs.reverse, S1)
  | _ => none
theorem me_revT {k : Nat} {p1 p2 p3 : Pos} (ha : ME tb X a ea) : ME tb X (.Subscript a (.Slice none none (some (.UnaryOp .USub (.Constant (.int 1) k p1) p2)) p3) pos) (revTM ea) := by
  refine PE.imp (pe_revT ha) fun σ H Q h => ?_
  obtain ⟨m, S, γ, d, S', hS, hγ, e1, q⟩ := h
  unfold revTM at e1
  split at e1
  · rename_i xs S1 h1
    cases e1
    refine ⟨m, S, γ, _, _, hS, hγ, h1, fun w H1 m1 x1 hS1 hw => ?_⟩
    rw [Rp] at hw
    obtain ⟨a, vs, rfl, k1, r1⟩ := hw
    refine ⟨a, vs, rfl, k1, fun p hp => ?_⟩
    refine q _ _ m1 (x1.trans (.new hp)) (hS1.new hp) ?_
    rw [Rp]
    exact ⟨p, _, rfl, .inl (.inl upd_same), (r1.mono (.new hp)).reverse⟩
  · cases e1
end
end Ml
/-! comprehensions of two clauses -/
namespace Ml
open L2 PyProof.Rows PySem PySem.Spec
open Classical
section
variable {tb : List NdefX.NTab} {X : Cx} {K : Kx} {elt tg iter tg1 iter1 : Expr} {ifs ifs1 : List Expr} {scope : Scope} {own : List (Str × Nat)} {pos : Pos} {iv iv1 : IvM} {tgt tgt1 : Tgt} {ca ca1 : CvM} {ea : EvM} {vs vs1 : List Nat}
noncomputable def comp2I (ck : Option (Nat × O)) (tgt : Tgt) (t : CvM) (iv1 : IvM) (tgt1 : Tgt) (t1 : CvM) (e : EvM) (γ : Sl) (vs1 : List Nat) (n : Nat) : List D → Sto → Option Sto
  | [], S => if Chk ck S then some S else none
  | x :: r, S => if Chk ck S then match bindT tgt x γ with
      | none => none
      | some γ1 => match t γ1 S with
        | none => none
        | some (false, S1) => comp2I ck tgt t iv1 tgt1 t1 e γ vs1 n r S1
        | some (true, S1) => match iv1 γ1 S1 with
          | none => none
          | some (ck1, xs1, S2) => match compI ck1 tgt1 t1 e (wipeD γ1 vs1) n xs1 S2 with
            | none => none
            | some S3 => comp2I ck tgt t iv1 tgt1 t1 e γ vs1 n r S3
    else none
noncomputable def comp2M (iv : IvM) (tgt : Tgt) (t : CvM) (iv1 : IvM) (tgt1 : Tgt) (t1 : CvM) (e : EvM) (vs vs1 : List Nat) : EvM := fun γ S => match iv γ S with
  | none => none
  | some (ck, xs, S1) => match comp2I ck tgt t iv1 tgt1 t1 e (wipeD γ vs) vs1 S1.length xs (S1 ++ [.lst []]) with
    | some S' => some (.ref S1.length, S')
    | none => none
theorem lcm2_core {σ : L2.St} {H : Hp} {Q : VK} (hv : inTgt tgt vs = true) (hv1 : inTgt tgt1 vs1 = true) (h : tM K (comp2M iv tgt ca iv1 tgt1 ca1 ea vs vs1) σ H Q) :
    tLc2 (tIM K iv) (gTgt K.f tgt) (tTM K ca) (tIM K iv1) (gTgt K.f tgt1) (tTM K ca1) (tM K ea) vs vs1 σ H Q := by
  obtain ⟨m, S, γ, d, S', hS, hγ, e, q⟩ := h
  unfold comp2M at e
  split at e
  · cases e
  · rename_i ck xs S1 h1
    split at e
    · rename_i Sf h2
      cases e
      refine ⟨m, S, γ, ck, xs, S1, hS, hγ, h1, fun J H1 m1 x1 hS1 wk D hD => ?_⟩
      have hS2 : SR K (upd H1 D (.lst [])) (m1 ++ [D]) (S1 ++ [.lst []]) := hS1.newM hD ⟨[], upd_same, by rw [Rps]⟩
      have x2 : Ext K H1 m1 (upd H1 D (.lst [])) (m1 ++ [D]) := .newM hD
      have hDm : (m1 ++ [D])[S1.length]? = some D := by rw [← hS1.len]; simp
      refine ⟨fun i k H => i ≤ xs.length ∧ k = xs.length - i ∧ ∃ m S, Ext K (upd H1 D (.lst [])) (m1 ++ [D]) H m ∧ SR K H m S ∧ comp2I ck tgt ca iv1 tgt1 ca1 ea (wipeD γ vs) vs1 S1.length (xs.drop i) S = some S',
        ⟨xs.length, Nat.zero_le _, rfl, m1 ++ [D], _, .refl, hS2, h2⟩, ?_⟩
      rintro i k H ⟨hi, rfl, m, S, x3, hS3, e⟩
      by_cases hlt : i < xs.length
      · rw [drop_cons (List.getElem?_eq_getElem hlt)] at e
        unfold comp2I at e
        split at e
        · rename_i hk
          obtain ⟨hgo, hy⟩ := wk.go H m S i (x2.trans x3) hS3 hk hlt
          refine .inr ⟨hgo, fun H => ∃ m S, Ext K (upd H1 D (.lst [])) (m1 ++ [D]) H m ∧ SR K H m S ∧ comp2I ck tgt ca iv1 tgt1 ca1 ea (wipeD γ vs) vs1 S1.length (xs.drop (i + 1)) S = some S',
            fun H' w => ⟨xs.length - (i + 1), by omega, hlt, rfl, w⟩, fun v H2 yl => ?_⟩
          obtain ⟨d, hd, x4, hS4, hv2⟩ := hy v H2 yl
          rw [List.getElem?_eq_getElem hlt] at hd
          cases hd
          split at e
          · cases e
          · rename_i γ1 h3
            have hγ2 : SLR K H2 m (wipeD γ vs) (wipe σ vs) := (hγ.mono (x1.trans (x2.trans (x3.trans x4)))).wipe vs
            refine gTgt_ok hγ2 hv2 h3 hv fun σ1 hγ3 hw => ⟨by rw [hw, wipe_wipe], ?_⟩
            split at e
            · cases e
            · rename_i S5 h4
              refine ⟨m, S, γ1, false, S5, hS4, hγ3, h4, fun H5 m5 x5 hS5 => iteF ?_⟩
              exact ⟨m5, S5, x3.trans (x4.trans x5), hS5, e⟩
            · rename_i S5 h4
              refine ⟨m, S, γ1, true, S5, hS4, hγ3, h4, fun H5 m5 x5 hS5 => iteT ?_⟩
              split at e
              · cases e
              · rename_i ck1 xs1 S6 h5
                split at e
                · cases e
                · rename_i S7 h6
                  refine ⟨m5, S5, γ1, ck1, xs1, S6, hS5, hγ3.mono x5, h5, fun J1 H6 m6 x6 hS6 wk1 => ?_⟩
                  have xb := x3.trans (x4.trans (x5.trans x6))
                  refine ⟨fun j k H => j ≤ xs1.length ∧ k = xs1.length - j ∧ ∃ m S, Ext K H6 m6 H m ∧ SR K H m S ∧ compI ck1 tgt1 ca1 ea (wipeD γ1 vs1) S1.length (xs1.drop j) S = some S7,
                    ⟨xs1.length, Nat.zero_le _, rfl, m6, _, .refl, hS6, h6⟩, ?_⟩
                  rintro j k H ⟨hj, rfl, m8, S8, x8, hS8, e8⟩
                  by_cases hl1 : j < xs1.length
                  · rw [drop_cons (List.getElem?_eq_getElem hl1)] at e8
                    unfold compI at e8
                    split at e8
                    · rename_i hk1
                      obtain ⟨hgo1, hy1⟩ := wk1.go H m8 S8 j x8 hS8 hk1 hl1
                      refine .inr ⟨hgo1, fun H => ∃ m S, Ext K H6 m6 H m ∧ SR K H m S ∧ compI ck1 tgt1 ca1 ea (wipeD γ1 vs1) S1.length (xs1.drop (j + 1)) S = some S7,
                        fun H' w => ⟨xs1.length - (j + 1), by omega, hl1, rfl, w⟩, fun v H9 yl => ?_⟩
                      obtain ⟨d1, hd1, x9, hS9, hv9⟩ := hy1 v H9 yl
                      rw [List.getElem?_eq_getElem hl1] at hd1
                      cases hd1
                      split at e8
                      · cases e8
                      · rename_i γ2 h9
                        have hγ9 : SLR K H9 m8 (wipeD γ1 vs1) (wipe σ1 vs1) := (hγ3.mono (x5.trans (x6.trans (x8.trans x9)))).wipe vs1
                        refine gTgt_ok hγ9 hv9 h9 hv1 fun σ3 hγ10 hw3 => ⟨by rw [hw3, wipe_wipe], ?_⟩
                        split at e8
                        · cases e8
                        · rename_i S10 h10
                          refine ⟨m8, S8, γ2, false, S10, hS9, hγ10, h10, fun H10 m10 x10 hS10 => iteF ?_⟩
                          exact ⟨m10, S10, x8.trans (x9.trans x10), hS10, e8⟩
                        · rename_i S10 h10
                          refine ⟨m8, S8, γ2, true, S10, hS9, hγ10, h10, fun H10 m10 x10 hS10 => iteT ?_⟩
                          split at e8
                          · cases e8
                          · rename_i y S11 h11
                            refine ⟨m10, S10, γ2, y, S11, hS10, hγ10.mono x10, h11, fun w H11 m11 x11 hS11 hw11 => ?_⟩
                            split at e8
                            · rename_i acc h12
                              split at e8
                              · rename_i hz
                                have x12 := x8.trans (x9.trans (x10.trans x11))
                                obtain ⟨a', ws, m7, k7, r7⟩ := hS11.lst h12
                                have hDa := (xb.trans x12).get hDm
                                rw [hDa] at m7; cases m7
                                exact ⟨ws, k7, by rw [r7.length]; exact hz, m11, _, x12.trans (.upd k7 trivial), hS11.upd (u := .lst (acc ++ [y])) hDa (lt_of h12) ⟨_, upd_same, (r7.append (Rps.one hw11)).mono (.upd k7 trivial)⟩, e8⟩
                              · cases e8
                            · cases e8
                    · cases e8
                  · have hj2 : j = xs1.length := by omega
                    subst hj2
                    rw [List.drop_length] at e8
                    unfold compI at e8
                    split at e8
                    · rename_i hk1
                      cases e8
                      exact .inl ⟨wk1.stop H m8 _ x8 hS8 hk1, m8, _, xb.trans x8, hS8, e⟩
                    · cases e8
        · cases e
      · have hi2 : i = xs.length := by omega
        subst hi2
        rw [List.drop_length] at e
        unfold comp2I at e
        split at e
        · rename_i hk
          cases e
          refine .inl ⟨wk.stop H m _ (x2.trans x3) hS3 hk, q _ H m (x1.trans (x2.trans x3)) hS3 ?_⟩
          rw [Rp]
          exact ⟨D, x3.get hDm, rfl⟩
        · cases e
    · cases e
theorem me_lc2 (hc : X.calm = true) (hN : X.N.Nodup) (hi : MI tb X tg iter iv) (ok : BlkOk X.N X.env.scope scope own) (hv : inTgt tgt (own.map (·.2)) = true) (hv1 : inTgt tgt1 vs1 = true) (hsub : ∀ i ∈ vs1, i ∈ own.map (·.2))
    (hg : ∀ (s : Shared) (H : Hp) (C : Addr) (cl : List (Str × Addr)) (fp : List Addr), PG (X.blk s H scope (compEnvC scope cl C X.env) fp) tg (gTgt X.K tgt)) (ht : ∀ (s : Shared) (H : Hp) (C : Addr) (cl : List (Str × Addr)) (fp : List Addr), MTs tb (X.blk s H scope (compEnvC scope cl C X.env) fp) ifs ca)
    (hi1 : ∀ (s : Shared) (H : Hp) (C : Addr) (cl : List (Str × Addr)) (fp : List Addr), MI tb (X.blk s H scope (compEnvC scope cl C X.env) fp) tg1 iter1 iv1)
    (hg1 : ∀ (s : Shared) (H : Hp) (C : Addr) (cl : List (Str × Addr)) (fp : List Addr), PG (X.blk s H scope (compEnvC scope cl C X.env) fp) tg1 (gTgt X.K tgt1)) (ht1 : ∀ (s : Shared) (H : Hp) (C : Addr) (cl : List (Str × Addr)) (fp : List Addr), MTs tb (X.blk s H scope (compEnvC scope cl C X.env) fp) ifs1 ca1)
    (he : ∀ (s : Shared) (H : Hp) (C : Addr) (cl : List (Str × Addr)) (fp : List Addr), ME tb (X.blk s H scope (compEnvC scope cl C X.env) fp) elt ea) (hs : ∀ x, foldedSetIterable iter X.env x = pure x := by intro _; rfl) (hs1 : ∀ env x, foldedSetIterable iter1 env x = pure x := by intro _ _; rfl) :
    ME tb X (.ListComp elt [⟨tg, iter, ifs, 0⟩, ⟨tg1, iter1, ifs1, 0⟩] scope pos) (comp2M iv tgt ca iv1 tgt1 ca1 ea (own.map (·.2)) vs1) :=
  PE.imp (pe_lc2 hc hN hi ok hsub hg ht hi1 hg1 ht1 he hs hs1) fun σ H Q h => lcm2_core hv hv1 h
theorem ms_setLc2 (i : Nat) {y : Str} {py : Pos} {spos : Pos} (hc : X.calm = true) (hN : X.N.Nodup) (hy : X.N[i]? = some y) (hyl : X.env.scope.names.lookup y = some .local)
    (hsw : swapsWith (.ListComp elt [⟨tg, iter, ifs, 0⟩, ⟨tg1, iter1, ifs1, 0⟩] scope pos) (some (.Name y py)) spos.line X.env = pure true) (hi : MI tb X tg iter iv) (ok : BlkOk X.N X.env.scope scope own) (hv : inTgt tgt (own.map (·.2)) = true) (hv1 : inTgt tgt1 vs1 = true) (hsub : ∀ i ∈ vs1, i ∈ own.map (·.2))
    (hg : ∀ (s : Shared) (H : Hp) (C : Addr) (cl : List (Str × Addr)) (fp : List Addr), PG (X.blk s H scope (compEnvC scope cl C X.env) fp) tg (gTgt X.K tgt)) (ht : ∀ (s : Shared) (H : Hp) (C : Addr) (cl : List (Str × Addr)) (fp : List Addr), MTs tb (X.blk s H scope (compEnvC scope cl C X.env) fp) ifs ca)
    (hi1 : ∀ (s : Shared) (H : Hp) (C : Addr) (cl : List (Str × Addr)) (fp : List Addr), MI tb (X.blk s H scope (compEnvC scope cl C X.env) fp) tg1 iter1 iv1)
    (hg1 : ∀ (s : Shared) (H : Hp) (C : Addr) (cl : List (Str × Addr)) (fp : List Addr), PG (X.blk s H scope (compEnvC scope cl C X.env) fp) tg1 (gTgt X.K tgt1)) (ht1 : ∀ (s : Shared) (H : Hp) (C : Addr) (cl : List (Str × Addr)) (fp : List Addr), MTs tb (X.blk s H scope (compEnvC scope cl C X.env) fp) ifs1 ca1)
    (he : ∀ (s : Shared) (H : Hp) (C : Addr) (cl : List (Str × Addr)) (fp : List Addr), ME tb (X.blk s H scope (compEnvC scope cl C X.env) fp) elt ea) (hs : ∀ x, foldedSetIterable iter X.env x = pure x := by intro _; rfl) (hs1 : ∀ env x, foldedSetIterable iter1 env x = pure x := by intro _ _; rfl) :
    MS tb X (.Assign [.Name y py] (.ListComp elt [⟨tg, iter, ifs, 0⟩, ⟨tg1, iter1, ifs1, 0⟩] scope pos) spos) (asgM (comp2M iv tgt ca iv1 tgt1 ca1 ea (own.map (·.2)) vs1) (nameG i)) :=
  PS.imp (ps_setLc2 hc hN hy hyl hsw hi ok hsub hg ht hi1 hg1 ht1 he hs hs1) fun Dn σ H h => by
    obtain ⟨m, S, γ, f, γ', S', hS, hγ, e, q⟩ := h
    unfold asgM nameG at e
    split at e
    · cases e
    · rename_i d S1 h1
      cases e
      refine lcm2_core hv hv1 (Q := fun x H1 => gName i x σ H1 Dn.nx) ⟨m, S, γ, d, _, hS, hγ, h1, fun w H1 m1 x1 hS1 hw => ?_⟩
      exact q _ H1 m1 x1 hS1 ((hγ.mono x1).set hw)
end
end Ml
/-! list(reversed(a list)) -/
namespace Ml
open L2 RT PyProof.Rows PySem PySem.Spec
section
variable {prog : Program}
variable {w : World} {A : Around} {E : Value → Shared → Prop} {s : Shared}
theorem extend_rev {it l S : Addr} {items : Array Value} {res : Value} {c₀ : Nat} {R : Result → Shared → Prop} (hh : A.handled = none) (hit : s.heap.IsRevIter it l ((items.size : Int) - 1)) (hl : s.heap.IsList l items) (hne : l ≠ it) (hn : items.size ≤ sizeLine)
    (hSi : S ≠ it) (hSl : S ≠ l) (hS : s.heap.get? S = some { cls := .type "list", data := .seq #[] c₀ })
    (hR : ∀ h' tk acc' c', (∀ b o, b ≠ S → b ≠ it → s.heap.get? b = some o → h'.get? b = some o) → h'.get? S = some { cls := .type "list", dict := none, data := .seq acc' c', slots := #[] } → ItemsOf (fun i v => items[items.size - 1 - i]? = some v) acc' items.size → R (.ok (.ret res)) { s with heap := h', toks := tk }) : wpAny (model prog w) A.in1 (Builtin.List.listExtendWith (.ref S) (.ref it) res) (fun fin s' => match fin with | .done f => R (.ok f) s' | .again c' => c'.quiet = true ∧ codeAny (model prog w) A c' R s') (fun e s' => R (.error e) s') s := by
  have W := (Walks.listRev (prog := prog) (w := w) (A := A.in1) hh it l hne items).toS; have hSf : S ∉ [it, l] := by simp only [List.mem_cons, List.not_mem_nil, or_false, not_or]; exact ⟨hSi, hSl⟩
  have hT : s.TypeIs (.ref it) "list_reverseiterator" := hit.typeIs
  have h1 : Builtin.List.listSameRef (.ref S) (.ref it) = false := by simp [Builtin.List.listSameRef, hSi]
  unfold Builtin.List.listExtendWith; refine wpAny_bind (wpAny_typeOf hT ?_)
  rw [if_neg (by rw [h1]; decide)]; refine wpAny_bind (wpAny_pyIter_revIter hit ?_)
  refine wpAny_bind (wpAny_holding (?_))
  unfold Builtin.List.listLengthHint; refine wpAny_bind (wpAny_specialOf hT (nolen_lri) ?_)
  show wpAny _ A.in1 (specialOf (Value.ref it) (Str.ofString "__length_hint__") >>= _) _ _ _; refine wpAny_bind (wpAny_specialOf hT (hint_lri) ?_)
  generalize hid : ("list_reverseiterator.__length_hint__" : String) = id0; wp_delta
  rw [show splitId id0 = some ("list_reverseiterator", "__length_hint__") from by subst hid; decide +kernel]; subst hid
  refine wpAny_bind (wpAny_isInstance (b := true) hT (by rw [isSubtype_type]; kernel_rfl) ?_); refine wpAny_pure ?_
  rw [if_neg (by decide)]
  have e0 : ((items.size : Nat) : Int) - 1 - ((0 : Nat) : Int) = (items.size : Int) - 1 := (by omega); refine wpAny_pure ⟨plainId_quiet F.plain_extend_loop _, codeAny_extend_loopS W hn _ hSf _ items.size 0 _ _ _ rfl (Nat.zero_le _) ⟨Nat.zero_le _, by rw [e0]; exact hit, hl⟩ hS (ItemsOf.nil _) fun s' acc' c' hm hS' hacc => ?_⟩
  rw [Moved.eq_with hm]
  refine hR s'.heap s'.toks acc' c' (fun b o hb hb2 e => hm.heap b o (fun hmem => ?_) e) hS' hacc
  rcases (List.mem_cons.mp hmem) with e' | hmem
  · exact hb e'
  · exact hb2 (List.mem_singleton.mp hmem)
theorem call_list_rev {it l : Addr} {items : Array Value} {Q : Value → Shared → Prop} (hh : A.handled = none) (hit : s.heap.IsRevIter it l ((items.size : Int) - 1)) (hl : s.heap.IsList l items) (hne : l ≠ it) (hn : items.size ≤ sizeLine)
    (hQ : ∀ (h' : Heap) (tk : Nat) (acc : Array Value) (c : Nat), (∀ b o, b ≠ it → s.heap.get? b = some o → h'.get? b = some o) → h'.get? s.heap.objs.size = some { cls := .type "list", dict := none, data := .seq acc c, slots := #[] } →
      ItemsOf (fun i v => items[items.size - 1 - i]? = some v) acc items.size → Q (.ref s.heap.objs.size) { s with heap := h', toks := tk }) : wpAny (model prog w) A (call (.type "list") [.ref it]) Q E s := by
  refine callType_codes (Q₁ := fun obj s₁ => obj = .ref s.heap.objs.size ∧ s₁ = { s with heap := s.heap.push { cls := .type "list", data := .seq #[] } }) F.called_list (F.typeCall_list_1 _) F.entry_list_init (code_list_new _ ⟨rfl, rfl⟩) fun obj s₁ h₁ => ?_
  obtain ⟨rfl, rfl⟩ := h₁
  have hS : (s.heap.push { cls := .type "list", data := .seq #[] }).get? s.heap.objs.size = some { cls := .type "list", data := .seq #[] } := Heap.get?_push_size _ rfl; obtain ⟨oi, hoi, _⟩ := id hit
  obtain ⟨ol, hol, _⟩ := id hl
  have hSi : s.heap.objs.size ≠ it := Nat.ne_of_gt (Heap.lt_size hoi); have hSl : s.heap.objs.size ≠ l := Nat.ne_of_gt (Heap.lt_size hol)
  refine ⟨⟨_, hS, rfl⟩, F.args_list_init_2 _ _, ?_⟩; generalize hs2 : s.heap.push { cls := .type "list", data := .seq #[] } = h2
  rw [hs2] at hS
  have k2 : ∀ b o, s.heap.get? b = some o → h2.get? b = some o := fun b o e => by rw [← hs2]; exact Heap.get?_push_of_some _ e
  show wpAny _ _ (do let old ← Builtin.List.listItems (.ref s.heap.objs.size); Builtin.List.listUpdate (.ref s.heap.objs.size) (fun _ => #[]); letGo old.toList.reverse; Builtin.List.listExtendWith (.ref s.heap.objs.size) (.ref it) .none) _ _ { s with heap := h2 }
  refine wpAny_bind ?_
  unfold Builtin.List.listItems
  refine wpAny_bind (wpAny_seqItems hS rfl (wpAny_pure ?_)); show wpAny _ _ (updateSeq s.heap.objs.size (fun _ => #[]) >>= fun _ => letGo (#[] : Array Value).toList.reverse >>= fun _ => Builtin.List.listExtendWith (.ref s.heap.objs.size) (.ref it) .none) _ _ { s with heap := h2 }
  refine wpAny_bind (wpAny_updateSeq hS rfl ?_); have hS₂ := Heap.get?_update_self (Obj.mapSeq (fun _ => (#[] : Array Value))) hS rfl
  have oth : ∀ b o, b ≠ s.heap.objs.size → h2.get? b = some o → (h2.update s.heap.objs.size (Obj.mapSeq (fun _ => (#[] : Array Value)))).get? b = some o :=
    fun b o hb e => by rw [Heap.get?_update_other _ _ (Ne.symm hb)]; exact e
  refine wpAny_bind (wpAny_letGo ?_); refine extend_rev (A := A.in1) (s := { s with heap := h2.update s.heap.objs.size (Obj.mapSeq (fun _ => (#[] : Array Value))) }) hh (hit.at fun o e => oth it o (Ne.symm hSi) (k2 it o e)) (hl.at fun o e => oth l o (Ne.symm hSl) (k2 l o e)) hne hn hSi hSl hS₂ fun h' tk acc' c' hk hS' hacc => ?_
  refine ⟨rfl, hQ h' tk acc' c' (fun b o hb e => ?_) hS' hacc⟩
  have hbS : b ≠ s.heap.objs.size := Nat.ne_of_lt (Heap.lt_size e)
  exact hk b o hbS hb (oth b o hbS (k2 b o e))
end
def tLstRev (K : PySem.W.Frag) (te : TE) : TE := fun σ H Q => te σ H fun v H1 => ∃ (a : Addr) (xs : List V), v = .ref a ∧ SqL K H1 a xs ∧ ∀ q, H1 q = none → Q (.ref q) (upd H1 q (.lst xs.reverse))
section
variable {tb : List NdefX.NTab} {X : Cx} {K : Kx} {e : Expr} {ea : EvM}
theorem pe_lstRev {te : TE} {p p2 pos pos2 : Pos} (hc : X.calm = true) (hg : Gl X "list") (hm : X.mg "list" = none) (hg2 : Gl X "reversed") (hm2 : X.mg "reversed" = none) (he : PE X e te) (hs : starEach [e] X.env = (false, eval e X.env) :: starEach [] X.env := by rfl) (hs2 : starEach [.Call (.Name "reversed" p2) [e] [] pos2] X.env = (false, eval (.Call (.Name "reversed" p2) [e] [] pos2) X.env) :: starEach [] X.env := by rfl) :
    PE X (.Call (.Name "list" p) [.Call (.Name "reversed" p2) [e] [] pos2] [] pos) (tLstRev X.K te) := by
  refine .mk fun pins s σ H Q I h => ?_
  refine Call_ (ld_blt I hg hm boot_list (PyProof.Rows.callWith_type1 (args_cons (Call_ (ld_blt I hg2 hm2 PyProof.Rows.boot_reversed (PyProof.Rows.callWith_type1 (args_cons (thn (he.run pins s σ H _ I h) fun u s1 ⟨v, H1, I1, r1, q1⟩ => args_nil ?_) hs) hs rfl))) hs2) hs2 rfl))
  obtain ⟨a, xs, ev, hq, q⟩ := q1; subst ev
  obtain rfl : u = Value.ref a := r1; obtain ⟨its, rv, p', hz⟩ := I1.list hq
  refine call_reversed_list p'.isList (args_nil ?_); have k0 : ∀ b o, s1.heap.get? b = some o → (s1.heap.push (revObj a ((its.toArray.size : Int) - 1))).get? b = some o := fun b o e => (Heap.get?_push_of_some _ e)
  have I2 : Inv X pins σ H1 { s1 with heap := s1.heap.push (revObj a ((its.toArray.size : Int) - 1)) } := I1.kept (t' := s1.toks) k0; obtain ⟨f0, f1, f2, f3, f4, f5⟩ := I1.fpOk (H' := H1) (b := s1.heap.objs.size) (Nat.le_refl _) (I1.hok.fresh (Nat.le_refl _))
  have hl := p'.isList
  obtain ⟨ol, hol, _⟩ := id hl
  have hne : a ≠ s1.heap.objs.size := Nat.ne_of_lt (Heap.lt_size hol); have hn : its.toArray.size ≤ sizeLine := by rw [List.size_toArray, ← rv.length]; exact hz
  refine call_list_rev (s := { s1 with heap := s1.heap.push (revObj a ((its.toArray.size : Int) - 1)) }) (I1.ok.hd hc) ⟨_, Heap.get?_push_size _ rfl, rfl, rfl⟩ (hl.push _) hne hn fun h' tk acc c hk hS hi => ?_
  have hS : h'.get? (s1.heap.push (revObj a ((its.toArray.size : Int) - 1))).objs.size = some { cls := .type "list", dict := none, data := .seq acc c, slots := #[] } := hS
  have hfr : H1 (s1.heap.push (revObj a ((its.toArray.size : Int) - 1))).objs.size = none := I2.hok.fresh (Nat.le_refl _)
  have I3 : Inv X pins σ H1 { s1 with heap := h', toks := tk } := I2.turned (t' := tk) (fun b o hb e => hk b o hb e) f0 f1 f3 f4 f5; have hrev := vals_rev rv hi
  have new : ObjOk X.prog X.w (upd H1 (s1.heap.push (revObj a ((its.toArray.size : Int) - 1))).objs.size (.lst xs.reverse)) h' (s1.heap.push (revObj a ((its.toArray.size : Int) - 1))).objs.size (.lst xs.reverse) := by
    refine ⟨by rw [List.length_reverse]; exact hz, acc.toList, c, hrev, ?_⟩
    rw [Array.toArray_toList]
    exact hS
  have I4 : Inv X pins σ (upd H1 (s1.heap.push (revObj a ((its.toArray.size : Int) - 1))).objs.size (.lst xs.reverse)) { s1 with heap := h', toks := tk } :=
    Inv.turnedNew (s := { s1 with heap := s1.heap.push (revObj a ((its.toArray.size : Int) - 1)) }) (t' := tk) (ch := [s1.heap.objs.size]) I2 (fun b o hb e => hk b o (fun z => hb (by simp [z])) e) (fun b hb => by
      have z : b = s1.heap.objs.size := by simpa using hb
      subst z
      exact ⟨f0, f1, f2, f3, f4, f5⟩) (Nat.le_refl _) new
  exact ⟨.ref _, _, I4, rfl, q _ hfr⟩
def lrevM (ea : EvM) : EvM := revM ea
theorem me_lrev {p p2 pos pos2 : Pos} (hc : X.calm = true) (hg : Gl X "list") (hm : X.mg "list" = none) (hg2 : Gl X "reversed") (hm2 : X.mg "reversed" = none) (ha : ME tb X e ea) (hs : starEach [e] X.env = (false, eval e X.env) :: starEach [] X.env := by rfl) (hs2 : starEach [.Call (.Name "reversed" p2) [e] [] pos2] X.env = (false, eval (.Call (.Name "reversed" p2) [e] [] pos2) X.env) :: starEach [] X.env := by rfl) :
    ME tb X (.Call (.Name "list" p) [.Call (.Name "reversed" p2) [e] [] pos2] [] pos) (lrevM ea) := by
  refine PE.imp (pe_lstRev hc hg hm hg2 hm2 ha hs hs2) fun σ H Q h => ?_
  obtain ⟨m, S, γ, d, S', hS, hγ, e1, q⟩ := h
  unfold lrevM revM at e1
  split at e1
  · rename_i n S1 h1
    split at e1
    · rename_i xs h2
      cases e1
      refine ⟨m, S, γ, _, _, hS, hγ, h1, fun w H1 m1 x1 hS1 hw => ?_⟩
      simp only [Rp] at hw
      obtain ⟨a, ea, rfl⟩ := hw
      obtain ⟨a', vs, m2, k1, r1⟩ := hS1.lst h2
      rw [ea] at m2; cases m2
      exact ⟨a, vs, rfl, SqL.of k1, fin_lst hS1 r1.reverse fun y H4 m4 x4 => q y H4 m4 (x1.trans x4)⟩
    · cases e1
  · cases e1
end
end Ml
/-! Ml16: objects of own classes -/
namespace Ml
open L2 PyProof.Rows PySem PySem.Spec
def putD {α : Type} (f : Str) (v : α) : List (Str × α) → List (Str × α)
  | [] => [(f, v)]
  | (g, x) :: r => if g = f then (g, v) :: r else (g, x) :: putD f v r
section
variable {K : Kx} {H : Hp} {m : List Addr}
theorem Rkv.look {fs : List (Str × D)} {ws : List (Str × V)} (h : Rkv K H m fs ws) (f : Str) : (fs.lookup f = none ∧ ws.lookup f = none) ∨ ∃ d v, fs.lookup f = some d ∧ ws.lookup f = some v ∧ Rp K H m d v := by
  unfold Rkv at h
  induction h with
  | nil => refine .inl ⟨rfl, rfl⟩
  | @cons p q ps qs r t ih =>
    obtain ⟨k, x⟩ := p
    obtain ⟨k', y⟩ := q
    obtain ⟨e, r⟩ := r
    simp only at e r
    subst e
    by_cases hk : (f == k) = true
    · exact .inr ⟨x, y, by simp only [List.lookup, hk], by simp only [List.lookup, hk], r⟩
    · have hk' : (f == k) = false := by simpa using hk
      rcases ih with ⟨a, b⟩ | ⟨d, v, a, b, c⟩
      · exact .inl ⟨by simp only [List.lookup, hk']; exact a, by simp only [List.lookup, hk']; exact b⟩
      · exact .inr ⟨d, v, by simp only [List.lookup, hk']; exact a, by simp only [List.lookup, hk']; exact b, c⟩
theorem Rkv.put {fs : List (Str × D)} {ws : List (Str × V)} (h : Rkv K H m fs ws) (f : Str) {d : D} {v : V} (r : Rp K H m d v) : Rkv K H m (putD f d fs) (putF f v ws) := by
  unfold Rkv at h ⊢
  induction h with
  | nil => exact .cons ⟨rfl, r⟩ .nil
  | @cons p q ps qs r2 t ih =>
    obtain ⟨k, x⟩ := p
    obtain ⟨k', y⟩ := q
    obtain ⟨e, r2⟩ := r2
    simp only at e r2
    subst e
    unfold putD putF
    by_cases hk : k = f
    · rw [if_pos hk, if_pos hk]; exact .cons ⟨rfl, r⟩ t
    · rw [if_neg hk, if_neg hk]; exact .cons ⟨rfl, r2⟩ ih
theorem Rkv.len {κ : Type} {fs : List (κ × D)} {ws : List (κ × V)} (h : Rkv K H m fs ws) : ws.length = fs.length := by
  unfold Rkv at h
  induction h with
  | nil => rfl
  | cons _ _ ih => simp [ih]
/-- the object of the store at a number -/
theorem SR.ins {S : Sto} {n : Nat} {C : Addr} {fs : List (Str × D)} (hS : SR K H m S) (e : S[n]? = some (.ins C fs)) {a : Addr} (ha : m[n]? = some a) : ∃ dx ws, H a = some (.ins C dx ws) ∧ Rkv K H m fs ws := hS.at_ n a _ ha e
end
section
variable {tb : List NdefX.NTab} {X : Cx} {e o value : Expr} {ea eo ev : EvM} {pos pos' tpos : Pos} {C : Addr} {f : Str}
/-- e.f -/
def fldM (C : Addr) (f : Str) (eo : EvM) : EvM := fun γ S => match eo γ S with
  | some (.ref n, S1) => match S1[n]? with
    | some (.ins C' fs) => if C' = C then match fs.lookup f with
        | some d => some (d, S1)
        | none => none
      else none
    | _ => none
  | _ => none
theorem me_fld (hc : Cls X.K C) (hn : NoAttr X.K C f) (he : ME tb X e ea) (hb : attributeBase e f X.env (eval e X.env) = eval e X.env := by rfl) : ME tb X (.Attribute e f pos) (fldM C f ea) := PE.imp (pe_fld he hb) fun σ H Q h => by
  obtain ⟨m, S, γ, d, S', hS, hγ, e1, q⟩ := h
  unfold fldM at e1
  split at e1
  · rename_i n S1 h1
    split at e1
    · rename_i C' fs h2
      split at e1
      · rename_i hC
        subst hC
        split at e1
        · rename_i d' h3
          cases e1
          refine ⟨m, S, γ, _, _, hS, hγ, h1, fun w H1 m1 x1 hS1 hw => ?_⟩
          rw [Rp] at hw
          obtain ⟨a, ha, rfl⟩ := hw
          obtain ⟨dx, ws, g1, g2⟩ := hS1.ins h2 ha
          rcases g2.look f with ⟨z, _⟩ | ⟨d2, v, z1, z2, r⟩
          · rw [h3] at z; cases z
          · rw [h3] at z1; cases z1
            exact ⟨a, _, dx, ws, v, rfl, g1, hc, hn, z2, q v H1 m1 x1 hS1 r⟩
        · cases e1
      · cases e1
    · cases e1
  · cases e1
/-- e.f = value -/
def fldS (C : Addr) (f : Str) (eo ev : EvM) : SvM := fun γ S => match ev γ S with
  | none => none
  | some (d, S1) => match eo γ S1 with
    | some (.ref n, S2) => match S2[n]? with
      | some (.ins C' fs) => if C' = C ∧ fs.length < 1000 then some (.nx, γ, S2.set n (.ins C (putD f d fs))) else none
      | _ => none
    | _ => none
theorem ins_free {C dx : Addr} {ws : List (Str × V)} : Free (.ins C dx ws) := trivial
theorem ms_fld (hc : Cls X.K C) (hn : NoAttr X.K C f) (ho : ME tb X o eo) (hv : ME tb X value ev) (hs : swapsWith value (some (.Attribute o f pos')) pos.line X.env = pure false := by rfl) : MS tb X (.Assign [.Attribute o f pos'] value pos) (fldS C f eo ev) := PS.imp (ps_fld ho hv hs) fun Dn σ H h => by
  obtain ⟨m, S, γ, fl, γ', S', hS, hγ, e1, q⟩ := h
  unfold fldS at e1
  split at e1
  · cases e1
  · rename_i d S1 h1
    split at e1
    · rename_i n S2 h2
      split at e1
      · rename_i C' fs h3
        split at e1
        · rename_i hC
          obtain ⟨rfl, hl⟩ := hC
          cases e1
          refine ⟨m, S, γ, _, _, hS, hγ, h1, fun y H1 m1 x1 hS1 hy => ?_⟩
          refine ⟨m1, S1, γ, _, _, hS1, hγ.mono x1, h2, fun w H2 m2 x2 hS2 hw => ?_⟩
          rw [Rp] at hw
          obtain ⟨a, ha, rfl⟩ := hw
          obtain ⟨dx, ws, g1, g2⟩ := hS2.ins h3 ha
          refine ⟨a, _, dx, ws, rfl, g1, hc, hn, by rw [g2.len]; exact hl, ?_⟩
          have xu : Ext (kx tb X) H2 m2 (upd H2 a (.ins C' dx (putF f y ws))) m2 := Ext.upd g1 ins_free
          refine q σ _ m2 ((x1.trans x2).trans xu) (hS2.upd ha (lt_of h3) ⟨dx, _, upd_same .., ?_⟩) ((hγ.mono (x1.trans x2)).mono xu)
          exact (g2.mono xu).put f ((hy.mono x2).mono xu)
        · cases e1
      · cases e1
    · cases e1
/-- e.f += value, ints -/
def fldA (C : Addr) (f : Str) (eo ev : EvM) : SvM := fun γ S => match eo γ S with
  | some (.ref n, S1) => match S1[n]? with
    | some (.ins C' fs) => if C' = C then match fs.lookup f with
        | some (.int i) => match ev γ S1 with
          | some (.int j, S2) => match S2[n]? with
            | some (.ins C2 fs2) => if C2 = C ∧ fs2.length < 1000 then some (.nx, γ, S2.set n (.ins C (putD f (.int (i + j)) fs2))) else none
            | _ => none
          | _ => none
        | _ => none
      else none
    | _ => none
  | _ => none
theorem ms_fldA (hc : Cls X.K C) (hn : NoAttr X.K C f) (ho : ME tb X o eo) (hv : ME tb X value ev) : MS tb X (.AugAssign (.Attribute o f tpos) .Add value pos) (fldA C f eo ev) := PS.imp (ps_fldaug ho hv in_add) fun Dn σ H h => by
  obtain ⟨m, S, γ, fl, γ', S', hS, hγ, e1, q⟩ := h
  unfold fldA at e1
  split at e1
  · rename_i n S1 h1
    split at e1
    · rename_i C' fs h2
      split at e1
      · rename_i hC
        subst hC
        split at e1
        · rename_i i h3
          split at e1
          · rename_i j S2 h4
            split at e1
            · rename_i C2 fs2 h5
              split at e1
              · rename_i hC2
                obtain ⟨rfl, hl⟩ := hC2
                cases e1
                refine ⟨m, S, γ, _, _, hS, hγ, h1, fun w H1 m1 x1 hS1 hw => ?_⟩
                rw [Rp] at hw
                obtain ⟨a, ha, rfl⟩ := hw
                obtain ⟨dx, ws, g1, g2⟩ := hS1.ins h2 ha
                rcases g2.look f with ⟨z, _⟩ | ⟨d2, v, z1, z2, r⟩
                · rw [h3] at z; cases z
                · rw [h3] at z1; cases z1
                  rw [Rp] at r; subst r
                  refine ⟨a, _, dx, ws, _, rfl, g1, hc, hn, z2, m1, S1, γ, _, _, hS1, hγ.mono x1, h4, fun w H2 m2 x2 hS2 hw => ?_⟩
                  rw [Rp] at hw; subst hw
                  obtain ⟨dx2, ws2, k1, k2⟩ := hS2.ins h5 (x2.get ha)
                  refine ⟨i, j, rfl, rfl, dx2, ws2, k1, by rw [k2.len]; exact hl, ?_⟩
                  have xu : Ext (kx tb X) H2 m2 (upd H2 a (.ins C2 dx2 (putF f (.int (i + j)) ws2))) m2 := Ext.upd k1 ins_free
                  exact q σ _ m2 ((x1.trans x2).trans xu) (hS2.upd (x2.get ha) (lt_of h5) ⟨dx2, _, upd_same .., (k2.mono xu).put f (by rw [Rp])⟩) ((hγ.mono (x1.trans x2)).mono xu)
              · cases e1
            · cases e1
          · cases e1
        · cases e1
      · cases e1
    · cases e1
  · cases e1
end
section
variable {tb : List NdefX.NTab} {X : Cx} {k n : Nat} {f C : Addr} {fd : FuncData} {ps ks : List Str} {G : List D → Sto → Option (D × Sto)} {x mn : Str} {p pos apos : Pos} {e o : Expr} {es : List Expr} {eo : EvM} {ra : AvM}
/-- o.m(..) of an object of the class at C -/
def objM (C : Addr) (mn : Str) (n : Nat) (F : List D → Sto → Option (D × Sto)) (eo : EvM) (ra : AvM) : EvM := fun γ S => match eo γ S with
  | some (.ref i, S1) => match S1[i]? with
    | some (.ins C' fs) => if C' = C ∧ fs.lookup mn = none then match ra γ S1 with
        | some (xs, S2) => if xs.length + 1 = n then F (.ref i :: xs) S2 else none
        | none => none
      else none
    | _ => none
  | _ => none
theorem obj_core {K : Kx} {σ : L2.St} {H : Hp} {Q : VK} {E : XK} (h : tM K (objM C mn n G eo ra) σ H Q) : tMeth C mn (spM K n G) [] E (tM K eo) (tAM K ra) σ H Q := by
  obtain ⟨m, S, γ, d, S', hS, hγ, e1, q⟩ := h
  unfold objM at e1
  split at e1
  · rename_i i S1 h1
    split at e1
    · rename_i C' fs h2
      split at e1
      · rename_i hC
        obtain ⟨rfl, hl⟩ := hC
        split at e1
        · rename_i xs S2 h3
          split at e1
          · rename_i hn
            refine ⟨m, S, γ, _, _, hS, hγ, h1, fun w H1 m1 x1 hS1 hw => ?_⟩
            have hw0 := hw
            rw [Rp] at hw
            obtain ⟨a, ha, rfl⟩ := hw
            obtain ⟨dx, ws, g1, g2⟩ := hS1.ins h2 ha
            have gl : ws.lookup mn = none := by
              rcases g2.look mn with ⟨_, z⟩ | ⟨d2, v, z1, _⟩
              · exact z
              · rw [hl] at z1; cases z1
            refine ⟨a, dx, ws, rfl, g1, gl, m1, S1, γ, _, _, hS1, hγ.mono x1, h3, fun vs H2 m2 x2 hS2 hv => ?_⟩
            show spM K n G (V.ref a :: (vs ++ [])) H2 Q E
            rw [List.append_nil]
            exact ⟨m2, S2, _, d, S', by simpa using hn, hS2, Rps.cons (hw0.mono x2) hv, e1, fun w H3 m3 x3 => q w H3 m3 ((x1.trans x2).trans x3)⟩
          · cases e1
        · cases e1
      · cases e1
    · cases e1
  · cases e1
theorem me_obj {pl : Sem Bool} (c : Cls X.K C) (hm : Meth X.K C mn f) (F : FnOk X.prog X.w X.K X.mg X.base CX0 k f fd ps (spM (kx tb X) n G)) (hr : Room k X.A) (hb : Binds X.K fd ps []) (ho : ME tb X o eo) (ha : MA tb X (e :: es) ra) (hst : starEach (e :: es) X.env = (false, eval e X.env) :: starEach es X.env := by rfl) (hpl : (backTo pos (starEach es X.env)).any (·.1) = false := by rfl)
    (ht : eval (.Call (.Attribute o mn apos) (e :: es) [] pos) X.env = (do
      let ov ← eval o X.env
      standAt apos.atName
      let (f, first) ← holding [ov] (getMethod ov mn pl)
      callWith pos f first (backTo pos (starEach (e :: es) X.env)) (backToKw pos (keywordEach [] X.env))) := by rfl) : ME tb X (.Call (.Attribute o mn apos) (e :: es) [] pos) (objM C mn n G eo ra) :=
  PE.imp (pe_meth (pl := pl) ho c hm F hr hb .nil pass0 ha hst hpl ht) fun _ _ _ h => obj_core h
theorem me_obj0 {pl : Sem Bool} (c : Cls X.K C) (hm : Meth X.K C mn f) (F : FnOk X.prog X.w X.K X.mg X.base CX0 k f fd ps (spM (kx tb X) n G)) (hr : Room k X.A) (hb : Binds X.K fd ps []) (ho : ME tb X o eo)
    (ht : eval (.Call (.Attribute o mn apos) [] [] pos) X.env = (do
      let ov ← eval o X.env
      standAt apos.atName
      let (f, first) ← holding [ov] (getMethod ov mn pl)
      callWith pos f first (backTo pos (starEach [] X.env)) (backToKw pos (keywordEach [] X.env))) := by rfl) : ME tb X (.Call (.Attribute o mn apos) [] [] pos) (objM C mn n G eo nilA) :=
  PE.imp (pe_meth0 (pl := pl) ho c hm F hr hb .nil pass0 ht) fun σ H Q h => by
    obtain ⟨m, S, γ, d, S', hS, hγ, e1, g⟩ := obj_core (K := kx tb X) (E := E0) h
    refine ⟨m, S, γ, d, S', hS, hγ, e1, fun w H1 m1 x1 hS1 hw => ?_⟩
    obtain ⟨a, dx, fs, h1, h2, h3, m2, S2, γ2, ds, S3, k1, k2, k3, k4⟩ := g w H1 m1 x1 hS1 hw
    cases k3
    exact ⟨a, dx, fs, h1, h2, h3, k4 [] H1 m2 .refl k1 Rps.nil⟩
/-- C(..) -/
def makeM (C : Addr) (n : Nat) (F : List D → Sto → Option (D × Sto)) (ra : AvM) : EvM := fun γ S => match ra γ S with
  | some (xs, S1) => if xs.length + 1 = n then match F (.ref S1.length :: xs) (S1 ++ [.ins C []]) with
      | some (.non, S2) => some (.ref S1.length, S2)
      | _ => none
    else none
  | none => none
theorem make_core {K : Kx} {σ : L2.St} {H : Hp} {Q : VK} {E : XK} (h : tM K (makeM C n G ra) σ H Q) : tMake C (spM K n G) [] E (tAM K ra) σ H Q := by
  obtain ⟨m, S, γ, d, S', hS, hγ, e1, q⟩ := h
  unfold makeM at e1
  split at e1
  · rename_i xs S1 h1
    split at e1
    · rename_i hn
      split at e1
      · rename_i S2 h2
        cases e1
        refine ⟨m, S, γ, _, _, hS, hγ, h1, fun vs H1 m1 x1 hS1 hv x dx hx hdx hne => ?_⟩
        show spM K n G (V.ref x :: (vs ++ [])) _ _ E
        rw [List.append_nil]
        have y1 : Ext K H1 m1 (upd H1 dx (.own x)) m1 := Ext.new hdx
        have s1 : SR K (upd H1 dx (.own x)) m1 S1 := hS1.new hdx
        have hx2 : (upd H1 dx (.own x)) x = none := by rw [upd_ne (Ne.symm hne)]; exact hx
        have y2 : Ext K (upd H1 dx (.own x)) m1 (upd (upd H1 dx (.own x)) x (.ins C dx [])) (m1 ++ [x]) := Ext.newM hx2
        have s2 : SR K (upd (upd H1 dx (.own x)) x (.ins C dx [])) (m1 ++ [x]) (S1 ++ [.ins C []]) := s1.newM hx2 ⟨dx, [], upd_same .., .nil⟩
        have hxr : Rp K (upd (upd H1 dx (.own x)) x (.ins C dx [])) (m1 ++ [x]) (.ref S1.length) (.ref x) := by
          rw [Rp]; exact ⟨x, by rw [← hS1.len]; simp, rfl⟩
        refine ⟨m1 ++ [x], _, _, _, _, by simpa using hn, s2, Rps.cons hxr ((hv.mono y1).mono y2), h2, fun w H3 m3 x3 hS3 hw => ?_⟩
        rw [Rp] at hw
        exact ⟨hw, q (.ref x) H3 m3 ((x1.trans (y1.trans y2)).trans x3) hS3 (hxr.mono x3)⟩
      · cases e1
    · cases e1
  · cases e1
theorem me_make (M : Mk X.K C f) (F : FnOk X.prog X.w X.K X.mg X.base CX0 k f fd ps (spM (kx tb X) n G)) (hr : Room (k + 1) X.A) (hg : Gl X x) (hm : X.mg x = some (.ref C)) (hb : Binds X.K fd ps [])
    (ha : MA tb X (e :: es) ra) (hdb : (x == ("__debug__" : Str)) = false := by decide) (he : starEach (e :: es) X.env = (false, eval e X.env) :: starEach es X.env := by rfl) (hpl : (backTo pos (starEach es X.env)).any (·.1) = false := by rfl) :
    ME tb X (.Call (.Name x p) (e :: es) [] pos) (makeM C n G ra) := PE.imp (pe_make M F hr hg hm hb .nil pass0 ha hdb he hpl) fun _ _ _ h => make_core h
theorem me_make0 (M : Mk X.K C f) (F : FnOk X.prog X.w X.K X.mg X.base CX0 k f fd ps (spM (kx tb X) n G)) (hr : Room (k + 1) X.A) (hg : Gl X x) (hm : X.mg x = some (.ref C)) (hb : Binds X.K fd ps [])
    (hdb : (x == ("__debug__" : Str)) = false := by decide) : ME tb X (.Call (.Name x p) [] [] pos) (makeM C n G nilA) := PE.imp (pe_make0 M F hr hg hm hb .nil pass0 hdb) fun σ H Q h => by
  obtain ⟨m, S, γ, ds, S', hS, hγ, h1, q⟩ := make_core (K := kx tb X) (E := E0) h
  cases h1
  exact q [] H m .refl hS Rps.nil
end
end Ml
/-! Ml17: dicts whose keys are ints and texts; a method called by keywords -/
namespace Ml
open L2 PyProof.Rows PySem PySem.Spec
def keyD : D → Option Key
  | .int i => some (.inl i)
  | .str z => some (.inr z)
  | _ => none
def valD (kvs : List (Key × D)) (k : Key) : Option D := (kvs.find? fun kv => decide (kv.1 = k)).map (·.2)
def putKD (kvs : List (Key × D)) (k : Key) (v : D) : List (Key × D) :=
  if (kvs.any fun e => decide (e.1 = k)) = true then kvs.map (fun e => if e.1 = k then (e.1, v) else e) else kvs ++ [(k, v)]
section
variable {K : Kx} {H : Hp} {m : List Addr}
theorem keyD_ok {d : D} {v : V} {k : Key} (r : Rp K H m d v) (e : keyD d = some k) : v = kV k := by
  cases d with
  | int i => cases e; rw [Rp] at r; exact r
  | str z => cases e; rw [Rp] at r; exact r
  | non => cases e
  | bl b => cases e
  | tup xs => cases e
  | rl xs => cases e
  | ref n => cases e
  | gl n => cases e
theorem Rkv.valK {kvs : List (Key × D)} {ws : List (Key × V)} (h : Rkv K H m kvs ws) (k : Key) : (valD kvs k = none ∧ valV ws k = none) ∨ ∃ d v, valD kvs k = some d ∧ valV ws k = some v ∧ Rp K H m d v := by
  unfold Rkv at h
  induction h with
  | nil => refine .inl ⟨rfl, rfl⟩
  | @cons p q ps qs r t ih =>
    obtain ⟨e, r⟩ := r
    by_cases hk : p.1 = k
    · exact .inr ⟨p.2, q.2, by simp [valD, List.find?_cons, hk], valV_pos (e ▸ hk), r⟩
    · have hk' : ¬ q.1 = k := fun z => hk (e.trans z)
      have e1 : valD (p :: ps) k = valD ps k := by simp [valD, List.find?_cons, hk]
      rw [e1, valV_neg hk']
      exact ih
theorem Rkv.any {kvs : List (Key × D)} {ws : List (Key × V)} (h : Rkv K H m kvs ws) (k : Key) : (ws.any fun e => decide (e.1 = k)) = kvs.any fun e => decide (e.1 = k) := by
  unfold Rkv at h
  induction h with
  | nil => rfl
  | @cons p q ps qs r t ih =>
    rw [List.any_cons, List.any_cons, ih, r.1]
theorem Rkv.putK {kvs : List (Key × D)} {ws : List (Key × V)} (h : Rkv K H m kvs ws) (k : Key) {d : D} {v : V} (r : Rp K H m d v) : Rkv K H m (putKD kvs k d) (L2.putK ws k v) := by
  unfold putKD L2.putK
  rw [h.any k]
  split
  · rename_i ha
    clear ha
    unfold Rkv at h ⊢
    induction h with
    | nil => exact .nil
    | @cons p q ps qs r2 t ih =>
      refine .cons ?_ ih
      obtain ⟨e, r2⟩ := r2
      by_cases hk : p.1 = k
      · have hk2 : q.1 = k := e ▸ hk
        simp only [hk, hk2, if_true]; exact ⟨trivial, r⟩
      · have hk2 : ¬ q.1 = k := fun z => hk (e.trans z)
        simp only [hk, hk2, if_false]; exact ⟨e, r2⟩
  · unfold Rkv at h ⊢
    exact paired_snoc ⟨rfl, r⟩ h
theorem SR.dk {S : Sto} {n : Nat} {kvs : List (Key × D)} (hS : SR K H m S) (e : S[n]? = some (.dk kvs)) {a : Addr} (ha : m[n]? = some a) : ∃ ws, H a = some (.dK ws) ∧ Rkv K H m kvs ws := hS.at_ n a _ ha e
end
section
variable {tb : List NdefX.NTab} {X : Cx} {a b o i value : Expr} {ea eb eo ei ev : EvM} {pos pos' : Pos}
/-- d[k] -/
def getK : D → D → Sto → Option (D × Sto)
  | .ref n, y, S => match S[n]?, keyD y with
    | some (.dk kvs), some k => match valD kvs k with
      | some d => some (d, S)
      | none => none
    | _, _ => none
  | _, _, _ => none
theorem me_getK (hu : X.A.units + 1 < cLine) (ha : ME tb X a ea) (hb : ME tb X b eb) (hs : NoSl b := by exact fun _ _ => rfl) : ME tb X (.Subscript a b pos) (binM getK ea eb) := PE.imp (pe_dget hu ha hb hs) fun σ H Q h => by
  obtain ⟨m, S, γ, d, S', hS, hγ, e, q⟩ := h
  unfold binM at e
  split at e
  · cases e
  · rename_i x S1 h1
    split at e
    · cases e
    · rename_i y S2 h2
      refine ⟨m, S, γ, _, _, hS, hγ, h1, fun w H1 m1 x1 hS1 hw => ?_⟩
      refine ⟨m1, S1, γ, _, _, hS1, hγ.mono x1, h2, fun u H2 m2 x2 hS2 hv => ?_⟩
      unfold getK at e
      split at e
      · rename_i n
        split at e
        · rename_i kvs k h3 h4
          split at e
          · rename_i d2 h5
            cases e
            have hw2 := hw.mono x2
            rw [Rp] at hw2
            obtain ⟨c, hc, rfl⟩ := hw2
            obtain ⟨ws, g1, g2⟩ := hS2.dk h3 hc
            rcases g2.valK k with ⟨z, _⟩ | ⟨d3, v, z1, z2, r⟩
            · rw [h5] at z; cases z
            · rw [h5] at z1; cases z1
              rw [keyD_ok hv h4]
              exact ⟨c, v, rfl, by rw [← z2]; exact DGet.k g1, q v H2 m2 (x1.trans x2) hS2 r⟩
          · cases e
        · cases e
      · cases e
/-- k in d -/
def inK (neg : Bool) : D → D → Sto → Option (D × Sto)
  | y, .ref n, S => match S[n]?, keyD y with
    | some (.dk kvs), some k => some (.bl (if neg then !(valD kvs k).isSome else (valD kvs k).isSome), S)
    | _, _ => none
  | _, _, _ => none
theorem inK_core {K : Kx} {neg : Bool} {σ : L2.St} {H : Hp} {Q : VK} (h : tM K (binM (inK neg) ea eb) σ H Q) : tM K ea σ H fun y H1 => tM K eb σ H1 fun x H2 => ∃ c o, x = .ref c ∧ DGet H2 c y o ∧ Q (.bl (if neg then !o.isSome else o.isSome)) H2 := by
  obtain ⟨m, S, γ, d, S', hS, hγ, e, q⟩ := h
  unfold binM at e
  split at e
  · cases e
  · rename_i x S1 h1
    split at e
    · cases e
    · rename_i y S2 h2
      refine ⟨m, S, γ, _, _, hS, hγ, h1, fun w H1 m1 x1 hS1 hw => ?_⟩
      refine ⟨m1, S1, γ, _, _, hS1, hγ.mono x1, h2, fun u H2 m2 x2 hS2 hv => ?_⟩
      unfold inK at e
      split at e
      · rename_i n
        split at e
        · rename_i kvs k h3 h4
          cases e
          rw [Rp] at hv
          obtain ⟨c, hc, rfl⟩ := hv
          obtain ⟨ws, g1, g2⟩ := hS2.dk h3 hc
          rw [keyD_ok (hw.mono x2) h4]
          refine ⟨c, _, rfl, DGet.k g1, ?_⟩
          have : (valV ws k).isSome = (valD kvs k).isSome := by
            rcases g2.valK k with ⟨z1, z2⟩ | ⟨d3, v, z1, z2, r⟩ <;> rw [z1, z2] <;> rfl
          rw [this]
          exact fin_bl hS2 fun w H3 m3 x3 => q w H3 m3 ((x1.trans x2).trans x3)
        · cases e
      · cases e
theorem me_inK (hu : X.A.units + 1 < cLine) (ha : ME tb X a ea) (hb : ME tb X b eb) (hm : behindInMarks .In b = false := by rfl) : ME tb X (.Compare a [.In] [b] pos) (binM (inK false) ea eb) :=
  PE.imp (pe_cmp (pc_din hu ha hb) hm) fun _ _ _ h => inK_core h
theorem me_notInK (hu : X.A.units + 1 < cLine) (ha : ME tb X a ea) (hb : ME tb X b eb) (hm : behindInMarks .NotIn b = false := by rfl) : ME tb X (.Compare a [.NotIn] [b] pos) (binM (inK true) ea eb) :=
  PE.imp (pe_cmp (pc_dnotin hu ha hb) hm) fun _ _ _ h => inK_core h
theorem mt_inK (hu : X.A.units + 1 < cLine) (ha : ME tb X a ea) (hb : ME tb X b eb) (hm : behindInMarks .In b = false := by rfl) : MT tb X (.Compare a [.In] [b] pos) (tstM (binM (inK false) ea eb)) :=
  PT.imp (pt_cmp (pc_din hu ha hb) hm) fun _ _ _ h => inK_core (tst_core h)
theorem mt_notInK (hu : X.A.units + 1 < cLine) (ha : ME tb X a ea) (hb : ME tb X b eb) (hm : behindInMarks .NotIn b = false := by rfl) : MT tb X (.Compare a [.NotIn] [b] pos) (tstM (binM (inK true) ea eb)) :=
  PT.imp (pt_cmp (pc_dnotin hu ha hb) hm) fun _ _ _ h => inK_core (tst_core h)
/-- d[k] = v -/
def putS (eo ei ev : EvM) : SvM := fun γ S => match ev γ S with
  | none => none
  | some (d, S1) => match eo γ S1 with
    | some (.ref n, S2) => match ei γ S2 with
      | some (y, S3) => match S3[n]?, keyD y with
        | some (.dk kvs), some k => if kvs.length < sizeLine then some (.nx, γ, S3.set n (.dk (putKD kvs k d))) else none
        | _, _ => none
      | none => none
    | _ => none
theorem ms_putK (hu : X.A.units + 1 < cLine) (ho : ME tb X o eo) (hi : ME tb X i ei) (hv : ME tb X value ev) (hs : swapsWith value (some (.Subscript o i pos')) pos.line X.env = pure false := by rfl) : MS tb X (.Assign [.Subscript o i pos'] value pos) (putS eo ei ev) := PS.imp (ps_dput hu ho hi hv hs) fun Dn σ H h => by
  obtain ⟨m, S, γ, fl, γ', S', hS, hγ, e1, q⟩ := h
  unfold putS at e1
  split at e1
  · cases e1
  · rename_i d S1 h1
    split at e1
    · rename_i n S2 h2
      split at e1
      · rename_i y S3 h3
        split at e1
        · rename_i kvs k h4 h5
          split at e1
          · rename_i hl
            cases e1
            refine ⟨m, S, γ, _, _, hS, hγ, h1, fun v H1 m1 x1 hS1 hd => ?_⟩
            refine ⟨m1, S1, γ, _, _, hS1, hγ.mono x1, h2, fun w H2 m2 x2 hS2 hw => ?_⟩
            refine ⟨m2, S2, γ, _, _, hS2, (hγ.mono x1).mono x2, h3, fun u H3 m3 x3 hS3 hy => ?_⟩
            have hw2 := hw.mono x3
            rw [Rp] at hw2
            obtain ⟨c, hc, rfl⟩ := hw2
            obtain ⟨ws, g1, g2⟩ := hS3.dk h4 hc
            rw [keyD_ok hy h5]
            refine ⟨c, _, rfl, DPut.k g1 (by rw [g2.len]; exact hl), ?_⟩
            have xu : Ext (kx tb X) H3 m3 (upd H3 c (.dK (L2.putK ws k v))) m3 := Ext.upd g1 trivial
            have xx := (x1.trans x2).trans x3
            exact q σ _ m3 (xx.trans xu) (hS3.upd hc (lt_of h4) ⟨_, upd_same .., (g2.mono xu).putK k (((hd.mono x2).mono x3).mono xu)⟩) ((hγ.mono xx).mono xu)
          · cases e1
        · cases e1
      · cases e1
    · cases e1
/-- {} -/
def newK : EvM := fun _ S => some (.ref S.length, S ++ [.dk []])
theorem me_newK : ME tb X (.Dict [] [] pos) newK := PE.imp pe_dnewK fun σ H Q h => by
  obtain ⟨m, S, γ, d, S', hS, hγ, e, q⟩ := h
  cases e
  intro p hp
  refine q _ _ (m ++ [p]) (Ext.newM hp) (hS.newM hp ⟨[], upd_same .., .nil⟩) ?_
  rw [Rp]
  exact ⟨p, by rw [← hS.len]; simp, rfl⟩
/-- {k: v, ..} with written text keys -/
def pairsM : List (Str × EvM) → Sl → Sto → Option (List (Key × D) × Sto)
  | [], _, S => some ([], S)
  | (z, e) :: r, γ, S => match e γ S with
    | none => none
    | some (d, S1) => match pairsM r γ S1 with
      | none => none
      | some (ps, S2) => some ((.inr z, d) :: ps, S2)
def mergeKD (kvs more : List (Key × D)) : List (Key × D) := more.foldl (fun acc e => putKD acc e.1 e.2) kvs
def dispM (l : List (Str × EvM)) : EvM := fun γ S => match pairsM l γ (S ++ [.dk []]) with
  | some (ps, S1) => match S1[S.length]? with
    | some (.dk []) => if ps.length ≤ 15 then some (.ref S.length, S1.set S.length (.dk (mergeKD [] ps))) else none
    | _ => none
  | none => none
/-- the pairs' readings -/
def tPsM (K : Kx) (l : List (Str × EvM)) : List (TE × TE) := l.map fun p => (tC (.str p.1), tM K p.2)
inductive MPs (tb : List NdefX.NTab) (X : Cx) (pos : Pos) : List (Option Expr) → List Expr → List (Str × EvM) → Prop
  | nil : MPs tb X pos [] [] []
  | cons {z : Str} {q : Pos} {j : Nat} {v : Expr} {ks : List (Option Expr)} {vs : List Expr} {e : EvM} {l : List (Str × EvM)} (h : ME tb X v e) (r : MPs tb X pos ks vs l) : MPs tb X pos (some (.Constant (.str z) j q) :: ks) (v :: vs) ((z, e) :: l)
theorem MPs.pps {keys : List (Option Expr)} {values : List Expr} {l : List (Str × EvM)} (h : MPs tb X pos keys values l) : PPs X pos keys values (tPsM (kx tb X) l) := by
  induction h with
  | nil => exact pps_nil
  | cons h r ih => exact pps_cons pe_str h ih
theorem Rkv.merge {K : Kx} {H : Hp} {m : List Addr} : ∀ {more : List (Key × D)} {ms : List (Key × V)} {kvs : List (Key × D)} {ws : List (Key × V)}, Rkv K H m more ms → Rkv K H m kvs ws → Rkv K H m (mergeKD kvs more) (L2.mergeK ws ms) := by
  intro more ms kvs ws r
  unfold Rkv at r
  induction r generalizing kvs ws with
  | nil => intro h; exact h
  | @cons p q ps qs h t ih =>
    intro h0
    have : Rkv K H m (putKD kvs p.1 p.2) (L2.putK ws q.1 q.2) := by rw [← h.1]; exact h0.putK p.1 h.2
    exact ih this
theorem pairs_core {K : Kx} {γ : Sl} {σ : L2.St} : ∀ (l : List (Str × EvM)) {H : Hp} {m : List Addr} {S S' : Sto} {ps : List (Key × D)} {Q : List (V × V) → Hp → Prop}, SR K H m S → SLR K H m γ σ → pairsM l γ S = some (ps, S') →
    (∀ (ws : List (Key × V)) (H' : Hp) (m' : List Addr), Ext K H m H' m' → SR K H' m' S' → Rkv K H' m' ps ws → Q (ws.map fun e => (kV e.1, e.2)) H') → tPairs (tPsM K l) σ H Q
  | [], H, m, S, S', ps, Q, hS, hγ, e, q => by
    cases e
    exact q [] H m .refl hS .nil
  | (z, ev) :: r, H, m, S, S', ps, Q, hS, hγ, e, q => by
    unfold pairsM at e
    split at e
    · cases e
    · rename_i d S1 h1
      split at e
      · cases e
      · rename_i ps2 S2 h2
        cases e
        refine ⟨m, S, γ, _, _, hS, hγ, h1, fun v H1 m1 x1 hS1 hv => ?_⟩
        refine pairs_core r hS1 (hγ.mono x1) h2 fun ws H2 m2 x2 hS2 hw => ?_
        exact q ((.inr z, v) :: ws) H2 m2 (x1.trans x2) hS2 (.cons ⟨rfl, hv.mono x2⟩ hw)
theorem me_disp {keys : List (Option Expr)} {values : List Expr} {l : List (Str × EvM)} (h : MPs tb X pos keys values l) (hall : keys.all (·.isSome) = true := by rfl) (hl : keys.length = values.length := by rfl) (h0 : keys ≠ [] := by exact List.cons_ne_nil _ _)
    (h15 : keys.length ≤ 15 := by decide) : ME tb X (.Dict keys values pos) (dispM l) := PE.imp (pe_disp h.pps hall hl h0 h15) fun σ H Q hq => by
  obtain ⟨m, S, γ, d, S', hS, hγ, e, q⟩ := hq
  unfold dispM at e
  split at e
  · rename_i ps S1 h1
    split at e
    · rename_i h2
      split at e
      · rename_i h3
        cases e
        intro p hp
        have y0 : Ext (kx tb X) H m (upd H p (.dK [])) (m ++ [p]) := Ext.newM hp
        have s0 : SR (kx tb X) (upd H p (.dK [])) (m ++ [p]) (S ++ [.dk []]) := hS.newM hp ⟨[], upd_same .., .nil⟩
        refine pairs_core l s0 (hγ.mono y0) h1 fun ws H2 m2 x2 hS2 hw => ?_
        have hp0 : (m ++ [p])[S.length]? = some p := by rw [← hS.len]; simp
        have hp2 := x2.get hp0
        obtain ⟨ws0, g1, g2⟩ := hS2.dk h2 hp2
        cases g2
        refine ⟨g1, ws, rfl, by rw [hw.len]; exact h3, ?_⟩
        have xu : Ext (kx tb X) H2 m2 (upd H2 p (.dK (L2.mergeK [] ws))) m2 := Ext.upd g1 trivial
        refine q _ _ m2 ((y0.trans x2).trans xu) (hS2.upd hp2 (lt_of h2) ⟨_, upd_same .., (hw.mono xu).merge .nil⟩) ?_
        rw [Rp]
        exact ⟨p, hp2, rfl⟩
      · cases e
    · cases e
  · cases e
end
section
variable {tb : List NdefX.NTab} {X : Cx} {k n na : Nat} {f C : Addr} {fd : FuncData} {ps ks : List Str} {is : List Nat} {G : List D → Sto → Option (D × Sto)} {mn : Str} {pos apos : Pos} {o : Expr} {kws : List Keyword} {eo : EvM} {rk : AvM}
/-- o.m(k = v, ..) -/
def objKM (C : Addr) (mn : Str) (nk n : Nat) (is : List Nat) (F : List D → Sto → Option (D × Sto)) (eo : EvM) (rk : AvM) : EvM := fun γ S => match eo γ S with
  | some (.ref i, S1) => match S1[i]? with
    | some (.ins C' fs) => if C' = C ∧ fs.lookup mn = none then match rk γ S1 with
        | some (ys, S2) => if ys.length = nk ∧ (permL is ys).length + 1 = n then F (.ref i :: permL is ys) S2 else none
        | none => none
      else none
    | _ => none
  | _ => none
theorem me_objK {pl : Sem Bool} (c : Cls X.K C) (hm : Meth X.K C mn f) (F : FnOk X.prog X.w X.K X.mg X.base CX0 k f fd ps (spM (kx tb X) n G)) (hr : Room k X.A) (hb : KBind fd ps ks 1 is) (ho : ME tb X o eo) (hkw : MK tb X kws rk)
    (hall : (backToKw pos (keywordEach kws X.env)).all (·.1.isSome) = true := by rfl) (hks : (backToKw pos (keywordEach kws X.env)).filterMap (·.1) = ks := by rfl)
    (hpl : ((backTo pos (starEach [] X.env)).any (·.1) || (backToKw pos (keywordEach kws X.env)).any (·.1.isNone)) = false := by rfl)
    (ht : eval (.Call (.Attribute o mn apos) [] kws pos) X.env = (do
      let ov ← eval o X.env
      standAt apos.atName
      let (f, first) ← holding [ov] (getMethod ov mn pl)
      callWith pos f first (backTo pos (starEach [] X.env)) (backToKw pos (keywordEach kws X.env))) := by rfl) : ME tb X (.Call (.Attribute o mn apos) [] kws pos) (objKM C mn ks.length n is G eo rk) := by
  refine .mk fun pins s σ H Q I h => ?_
  obtain ⟨m, S, γ, d, S', hS, hγ, e1, q⟩ := h
  unfold objKM at e1
  split at e1
  · rename_i i S1 h1
    split at e1
    · rename_i C' fs h2
      split at e1
      · rename_i hC
        obtain ⟨rfl, hl⟩ := hC
        split at e1
        · rename_i ys S2 h3
          split at e1
          · rename_i hn
            refine PySem.W.methodCall_KW (pl := pl) (thn (ho.run pins s σ H (fun w H1 => ∃ m1, Ext (kx tb X) H m H1 m1 ∧ SR (kx tb X) H1 m1 S1 ∧ Rp (kx tb X) H1 m1 (.ref i) w) I ⟨m, S, γ, _, S1, hS, hγ, h1, fun w H1 m1 x1 hS1 hw => ⟨m1, x1, hS1, hw⟩⟩) fun u s1 hq => ?_) ht
            obtain ⟨w, H1, I1, rx, m1, x1, hS1, hw⟩ := hq
            have hw0 := hw
            rw [Rp] at hw
            obtain ⟨a, ha, rfl⟩ := hw
            obtain rfl : u = Value.ref a := rx; obtain ⟨dx, ws, g1, g2⟩ := hS1.ins h2 ha
            have gl : ws.lookup mn = none := by
              rcases g2.look mn with ⟨_, z⟩ | ⟨d2, v, z1, _⟩
              · exact z
              · rw [hl] at z1; cases z1
            refine getmeth_ok I1 g1 c hm gl ?_
            refine PySem.W.callWith_KW0 (first := [.ref a]) (h₀ := X.base) I1.ok.mod.kin hm.kp hall ?_ hpl
            refine thn (hkw.run pos pins s1 σ H1 (fun zs H2 => ∃ m2, Ext (kx tb X) H1 m1 H2 m2 ∧ SR (kx tb X) H2 m2 S2 ∧ Rps (kx tb X) H2 m2 ys zs) I1 ⟨m1, S1, γ, ys, S2, hS1, hγ.mono x1, h3, fun vs H2 m2 x2 hS2 hz => ⟨m2, x2, hS2, hz⟩⟩) fun vs s2 hq => ?_
            obtain ⟨zs, H2, I2, rz, m2, x2, hS2, hz⟩ := hq
            refine ⟨I2.kIn, ?_⟩
            rw [hks]
            refine run_kw (us := [.ref a]) (vs := [.ref a]) F hr hb I2 (.cons rfl .nil) rz rfl (by rw [← rz.length, hz.length]; exact hn.1) ?_
            exact ⟨m2, S2, _, d, S', by simpa using hn.2, hS2, Rps.cons (hw0.mono x2) (hz.perm is), e1, fun y H3 m3 x3 => q y H3 m3 (x1.trans (x2.trans x3))⟩
          · cases e1
        · cases e1
      · cases e1
    · cases e1
  · cases e1
end
end Ml
/-! Ml18: a walk over a dict of int and text keys; chains; is True; isinstance of several; insert, pop(i) -/
namespace Ml
open L2 PyProof.Rows PySem PySem.Spec
open Classical
section
variable {tb : List NdefX.NTab} {X : Cx} {K : Kx} {e tg iter : Expr} {ed ee : EvM} {σ : L2.St} {H : Hp} {m : List Addr} {S : Sto} {n : Nat} {a : Addr} {od : Obj} {kvs : List (Key × D)} {ws : List (Key × V)}
theorem srK_lock (hS : SR K H m S) (e : S[n]? = some (.dk kvs)) (hm : m[n]? = some a) (h : H a = some (.dK ws)) (r : Rkv K H m kvs ws) : SR K (upd H a (.frz od (.dK ws))) m (S.set n (.dkl kvs)) :=
  hS.upd hm (lt_of e) ⟨od, ws, upd_same .., r.mono (.upd h trivial)⟩
theorem srK_unlock (hS : SR K H m S) (e : S[n]? = some (.dkl kvs)) (hm : m[n]? = some a) (h : H a = some (.frz od (.dK ws))) : SR K (upd H a (.dK ws)) m (S.set n (.dk kvs)) := by
  obtain ⟨a', h1, od2, ws2, h2, r⟩ := hS.addr e
  rw [hm] at h1; cases h1
  rw [h] at h2; cases h2
  exact hS.upd hm (lt_of e) ⟨ws, upd_same .., r.mono0 (Ext0.upd h trivial)⟩
theorem walks_dk {H0 : Hp} {m0 : List Addr} (h1 : H0 a = some (.frz od (.dK ws))) (h2 : Rkv K H0 m0 kvs ws) : Walks K (Itk a od ws) H0 m0 (some (n, .dkl kvs)) (kvs.map fun e => match e.1 with | .inl i => .int i | .inr z => .str z) where
  go := fun H m S i x hS hc hi => by
    have hi : i < kvs.length := by simpa using hi
    have hl : ws.length = kvs.length := h2.len
    refine ⟨⟨x.frz _ _ _ h1, by omega⟩, fun y H' q => ?_⟩
    obtain ⟨rfl, k, v, hz, rfl⟩ := q
    have hk : kvs[i]? = some kvs[i] := List.getElem?_eq_getElem hi
    obtain ⟨b, hb, e1, _⟩ := paired_get h2 hk
    rw [hb] at hz; cases hz
    refine ⟨_, by rw [List.getElem?_map, hk]; rfl, .refl, hS, ?_⟩
    have e1 : kvs[i].1 = k := e1
    dsimp only
    rw [e1]
    cases k with
    | inl j => show Rp _ _ _ (.int j) _; rw [Rp]; rfl
    | inr z => show Rp _ _ _ (.str z) _; rw [Rp]; rfl
  stop := fun H m S x hS hc => ⟨x.frz _ _ _ h1, by
    have hl : ws.length = kvs.length := h2.len
    rw [List.length_map]; omega⟩
def keyOf : Key → D
  | .inl i => .int i
  | .inr z => .str z
def keysK (ed : EvM) : IvM := fun γ S => match ed γ S with
  | some (.ref n, S') => match S'[n]? with
    | some (.dkl kvs) => some (some (n, .dkl kvs), kvs.map (fun e => match e.1 with | .inl i => .int i | .inr z => .str z), S')
    | _ => none
  | _ => none
theorem mi_keysK (he : ME tb X iter ed) : MI tb X tg iter (keysK ed) := PI.imp (pi_keys he) fun σ H R hq => by
  obtain ⟨m, S, γ, ck, ds, S', hS, hγ, e1, q⟩ := hq
  unfold keysK at e1
  split at e1
  · rename_i n S1 h1
    split at e1
    · rename_i kvs h2
      cases e1
      refine ⟨m, S, γ, _, _, hS, hγ, h1, fun v H1 m1 x1 hS1 hv => ?_⟩
      rw [Rp] at hv
      obtain ⟨a, ha, rfl⟩ := hv
      obtain ⟨od, ws, h4, h5⟩ := hS1.at_ n a _ ha h2
      exact ⟨a, od, rfl, .inl ⟨ws, h4, q _ H1 m1 x1 hS1 (walks_dk h4 h5)⟩⟩
    · cases e1
  · cases e1
def lockKM (i : Nat) (e : EvM) : EvM := fun γ S => match γ[i]? with
  | some (some (.ref n)) => match S[n]? with
    | some (.dk kvs) => match e γ (S.set n (.dkl kvs)) with
      | some (d, S1) => match S1[n]? with
        | some (.dkl kvs') => some (d, S1.set n (.dk kvs'))
        | _ => none
      | none => none
    | _ => none
  | _ => none
def lockKS (i : Nat) (e : SvM) : SvM := fun γ S => match γ[i]? with
  | some (some (.ref n)) => match S[n]? with
    | some (.dk kvs) => match e γ (S.set n (.dkl kvs)) with
      | some (d, γ1, S1) => match S1[n]? with
        | some (.dkl kvs') => some (d, γ1, S1.set n (.dk kvs'))
        | _ => none
      | none => none
    | _ => none
  | _ => none
theorem me_lockK (i : Nat) (h : ME tb X e ee) : ME tb X e (lockKM i ee) := PE.imp (pe_lock h) fun σ H Q hq => by
  obtain ⟨m, S, γ, d, S', hS, hγ, e1, q⟩ := hq
  unfold lockKM at e1
  split at e1
  · rename_i n h1
    split at e1
    · rename_i kvs h2
      split at e1
      · rename_i d1 S1 h3
        split at e1
        · rename_i kvs' h4
          cases e1
          obtain ⟨a, h5, ws, h6, h7⟩ := hS.addr h2
          refine ⟨a, _, h6, trivial, fun od => ?_⟩
          refine ⟨m, _, γ, _, _, srK_lock hS h2 h5 h6 h7, hγ.mono (.upd h6 trivial), h3, fun w H1 m1 x1 hS1 hw => ?_⟩
          have h8 := x1.frz _ _ _ upd_same
          exact ⟨h8, q w _ m1 (.unlock h6 trivial trivial x1) (srK_unlock hS1 h4 (x1.get h5) h8) (hw.mono0 (Ext0.upd h8 trivial))⟩
        · cases e1
      · cases e1
    · cases e1
  · cases e1
theorem ms_lockK {st : Stmt} {ss : SvM} (i : Nat) (h : MS tb X st ss) : MS tb X st (lockKS i ss) := PS.imp (ps_lock h) fun Dn σ H hq => by
  obtain ⟨m, S, γ, f, γ', S', hS, hγ, e1, q⟩ := hq
  unfold lockKS at e1
  split at e1
  · rename_i n h1
    split at e1
    · rename_i kvs h2
      split at e1
      · rename_i f1 γ1 S1 h3
        split at e1
        · rename_i kvs' h4
          cases e1
          obtain ⟨a, h5, ws, h6, h7⟩ := hS.addr h2
          refine ⟨a, _, h6, trivial, fun od => ?_⟩
          refine ⟨m, _, γ, _, _, _, srK_lock hS h2 h5 h6 h7, hγ.mono (.upd h6 trivial), h3, ?_⟩
          have up : ∀ H1 m1, Ext (kx tb X) (upd H a (.frz od (.dK ws))) m H1 m1 → H1 a = some (.frz od (.dK ws)) := fun H1 m1 x => x.frz _ _ _ upd_same
          have hz : ∀ {H1 m1 σ1}, SLR (kx tb X) H1 m1 γ' σ1 → H1 a = some (.frz od (.dK ws)) → SLR (kx tb X) (upd H1 a (.dK ws)) m1 γ' σ1 :=
            fun hg h8 => ⟨hg.len, fun i d q => let ⟨v, a, b⟩ := hg.at_ i d q; ⟨v, a, b.mono0 (Ext0.upd h8 trivial)⟩⟩
          cases f with
          | nx => exact fun σ1 H1 m1 x1 hS1 hγ1 => ⟨up _ _ x1, q σ1 _ m1 (.unlock h6 trivial trivial x1) (srK_unlock hS1 h4 (x1.get h5) (up _ _ x1)) (hz hγ1 (up _ _ x1))⟩
          | bk => exact fun σ1 H1 m1 x1 hS1 hγ1 => ⟨up _ _ x1, q σ1 _ m1 (.unlock h6 trivial trivial x1) (srK_unlock hS1 h4 (x1.get h5) (up _ _ x1)) (hz hγ1 (up _ _ x1))⟩
          | ct => exact fun σ1 H1 m1 x1 hS1 hγ1 => ⟨up _ _ x1, q σ1 _ m1 (.unlock h6 trivial trivial x1) (srK_unlock hS1 h4 (x1.get h5) (up _ _ x1)) (hz hγ1 (up _ _ x1))⟩
          | rt d => exact fun w H1 m1 x1 hS1 hw => ⟨up _ _ x1, q w _ m1 (.unlock h6 trivial trivial x1) (srK_unlock hS1 h4 (x1.get h5) (up _ _ x1)) (hw.mono0 (Ext0.upd (up _ _ x1) trivial))⟩
        · cases e1
      · cases e1
    · cases e1
  · cases e1
end
section
variable {tb : List NdefX.NTab} {X : Cx} {K : Kx} {a b c e : Expr} {ea eb ec : EvM} {pos : Pos}
/-! ### a op b op c -/
def chainM (F G : D → D → Sto → Option (D × Sto)) (ea eb ec : EvM) : EvM := fun γ S => match ea γ S with
  | none => none
  | some (x, S1) => match eb γ S1 with
    | none => none
    | some (y, S2) => match F x y S2 with
      | some (.bl false, S3) => some (.bl false, S3)
      | some (.bl true, S3) => match ec γ S3 with
        | some (z, S4) => G y z S4
        | none => none
      | _ => none
theorem chain_core {F G : D → D → Sto → Option (D × Sto)} {r r' : R2} (hF : FOk2 K F r) (hG : FOk2 K G r') {σ : L2.St} {H : Hp} {Q : VK} (h : tM K (chainM F G ea eb ec) σ H Q) : tChain r r' (tM K ea) (tM K eb) (tM K ec) σ H Q := by
  obtain ⟨m, S, γ, d, S', hS, hγ, e1, q⟩ := h
  unfold chainM at e1
  split at e1
  · cases e1
  · rename_i x S1 h1
    split at e1
    · cases e1
    · rename_i y S2 h2
      refine ⟨m, S, γ, _, _, hS, hγ, h1, fun v H1 m1 x1 hS1 hv => ?_⟩
      refine ⟨m1, S1, γ, _, _, hS1, hγ.mono x1, h2, fun u H2 m2 x2 hS2 hu => ?_⟩
      split at e1
      · rename_i S3 h3
        cases e1
        refine hF _ _ _ _ _ h3 H2 m2 v u _ hS2 (hv.mono x2) hu fun w H3 m3 x3 hS3 hw => ?_
        rw [Rp] at hw; subst hw
        refine ⟨false, rfl, ?_⟩
        rw [if_neg (by decide)]
        exact q _ H3 m3 ((x1.trans x2).trans x3) hS3 (by rw [Rp])
      · rename_i S3 h3
        split at e1
        · rename_i z S4 h4
          refine hF _ _ _ _ _ h3 H2 m2 v u _ hS2 (hv.mono x2) hu fun w H3 m3 x3 hS3 hw => ?_
          rw [Rp] at hw; subst hw
          refine ⟨true, rfl, ?_⟩
          rw [if_pos rfl]
          refine ⟨m3, S3, γ, _, _, hS3, hγ.mono ((x1.trans x2).trans x3), h4, fun t H4 m4 x4 hS4 ht => ?_⟩
          exact hG _ _ _ _ _ e1 H4 m4 u t Q hS4 (hu.mono (x3.trans x4)) ht fun w H5 m5 x5 => q w H5 m5 (((x1.trans x2).trans x3).trans (x4.trans x5))
        · cases e1
      · cases e1
theorem me_chain {op op' : CmpOp} {F G : D → D → Sto → Option (D × Sto)} {r r' : R2} (ho : OpR X (compareOp op) r) (hF : FOk2 (kx tb X) F r) (ho' : OpR X (compareOp op') r') (hG : FOk2 (kx tb X) G r') (ha : ME tb X a ea) (hb : ME tb X b eb) (hc : ME tb X c ec)
    (hm : lastMarks [op, op'] [b, c] = false := by with_unfolding_all rfl) : ME tb X (.Compare a [op, op'] [b, c] pos) (chainM F G ea eb ec) := PE.imp (pe_chain ho ho' ha hb hc hm) fun _ _ _ h => chain_core hF hG h
theorem mt_chain {op op' : CmpOp} {F G : D → D → Sto → Option (D × Sto)} {r r' : R2} (ho : OpR X (compareOp op) r) (hF : FOk2 (kx tb X) F r) (ho' : OpR X (compareOp op') r') (hG : FOk2 (kx tb X) G r') (ha : ME tb X a ea) (hb : ME tb X b eb) (hc : ME tb X c ec)
    (hm : lastMarks [op, op'] [b, c] = false := by with_unfolding_all rfl) : MT tb X (.Compare a [op, op'] [b, c] pos) (tstM (chainM F G ea eb ec)) := PT.imp (pt_chain ho ho' ha hb hc hm) fun _ _ _ h => chain_core hF hG (tst_core h)
/-! ### is True, is None -/
def sameD : D → D → Option Bool
  | .bl a, .bl b => some (decide (a = b))
  | _, _ => none
def isB (neg : Bool) : D → D → Sto → Option (D × Sto) := fun x y S => match sameD x y with
  | some b => some (.bl (if neg then !b else b), S)
  | none => none
theorem isB_ok : FOk2 K (isB false) (fun x y H Q => ∃ a b, x = .bl a ∧ y = .bl b ∧ Q (.bl (decide (a = b))) H) := by
  intro x y S d S' e H m vx vy Q hS hx hy q
  unfold isB sameD at e
  cases x <;> cases y <;> simp at e
  obtain ⟨rfl, rfl⟩ := e
  rw [Rp] at hx hy
  subst hx; subst hy
  exact ⟨_, _, rfl, rfl, fin_bl hS q⟩
theorem isNB_ok : FOk2 K (isB true) (fun x y H Q => ∃ a b, x = .bl a ∧ y = .bl b ∧ Q (.bl (!decide (a = b))) H) := by
  intro x y S d S' e H m vx vy Q hS hx hy q
  unfold isB sameD at e
  cases x <;> cases y <;> simp at e
  obtain ⟨rfl, rfl⟩ := e
  rw [Rp] at hx hy
  subst hx; subst hy
  refine ⟨_, _, rfl, rfl, fin_bl hS ?_⟩
  simpa using q
/-! ### what cannot be told -/
theorem me_void : ME tb X e (fun _ _ => none) := ⟨fun pins s σ H Q I h => by
  obtain ⟨m, S, γ, d, S', hS, hγ, e1, q⟩ := h
  cases e1⟩
theorem mt_void : MT tb X e (fun _ _ => none) := ⟨fun pins s σ H Q I h => by
  obtain ⟨m, S, γ, d, S', hS, hγ, e1, q⟩ := h
  cases e1⟩
theorem mw_void : MW tb X e (fun _ _ => none) := ⟨fun wh pins s σ H Q I h => by
  obtain ⟨m, S, γ, d, S', hS, hγ, e1, q⟩ := h
  cases e1⟩
theorem ms_void {st : Stmt} : MS tb X st (fun _ _ => none) := ⟨fun pins s σ H D I h => by
  obtain ⟨m, S, γ, f, γ', S', hS, hγ, e1, q⟩ := h
  cases e1⟩
theorem mss_void {sts : List Stmt} : MSs tb X sts (fun _ _ => none) := ⟨fun pins s σ H D I h => by
  obtain ⟨m, S, γ, f, γ', S', hS, hγ, e1, q⟩ := h
  cases e1⟩
/-! ### xs.insert(i, x), xs.pop(i) -/
def insertF : D → List D → Sto → Option (D × Sto)
  | .ref n, [.int i, y], S => match S[n]? with
    | some (.lst xs) => if xs.length < sizeLine ∧ 0 ≤ i ∧ i < 2 ^ 63 then some (.non, S.set n (.lst (xs.take i.toNat ++ [y] ++ xs.drop i.toNat))) else none
    | _ => none
  | _, _, _ => none
theorem insertF_ok : FOkM K insertF (fun x vs H Q => ∃ (l : Addr) (xs : List V) (i : Int) (y : V), x = .ref l ∧ vs = [.int i, y] ∧ H l = some (.lst xs) ∧ xs.length < sizeLine ∧ 0 ≤ i ∧ i < 2 ^ 63 ∧ Q .non (upd H l (.lst (xs.take i.toNat ++ [y] ++ xs.drop i.toNat)))) := by
  intro x xs S d S' e H m vx vs Q hS hx hxs q
  unfold insertF at e
  split at e
  · rename_i n i y
    split at e
    · rename_i zs h1
      split at e
      · rename_i hz
        cases e
        simp only [Rp] at hx
        obtain ⟨a, ea, rfl⟩ := hx
        rw [Rps] at hxs
        obtain ⟨v1, r1, rfl, hv1, hr⟩ := hxs
        rw [Rp] at hv1; subst hv1
        obtain ⟨v, rfl, hy⟩ := hr.one_iff
        obtain ⟨a', ws, m1, k1, r1⟩ := hS.lst h1
        rw [ea] at m1; cases m1
        refine ⟨a, ws, i, v, rfl, rfl, k1, by rw [r1.length]; exact hz.1, hz.2.1, hz.2.2, ?_⟩
        have hv2 : Rps K H m (zs.take i.toNat ++ [y] ++ zs.drop i.toNat) (ws.take i.toNat ++ [v] ++ ws.drop i.toNat) := ((r1.take _).append (Rps.one hy)).append (r1.drop _)
        exact fin_set hS ea k1 (lt_of h1) hv2 (by rw [Rp]) q
      · cases e
    · cases e
  · cases e
def popAtF : D → List D → Sto → Option (D × Sto)
  | .ref n, [.int i], S => match S[n]? with
    | some (.lst xs) => if 0 ≤ i ∧ i < 2 ^ 63 then match xs[i.toNat]? with
        | some y => some (y, S.set n (.lst (xs.eraseIdx i.toNat)))
        | none => none
      else none
    | _ => none
  | _, _, _ => none
theorem Rps.erase {H : Hp} {m : List Addr} : ∀ (n : Nat) {xs : List D} {vs : List V}, Rps K H m xs vs → Rps K H m (xs.eraseIdx n) (vs.eraseIdx n)
  | n, [], vs, h => by rw [Rps] at h; subst h; simpa using Rps.nil
  | 0, x :: xs, vs, h => by
    rw [Rps] at h
    obtain ⟨w, r, rfl, s, t⟩ := h
    simpa using t
  | n + 1, x :: xs, vs, h => by
    rw [Rps] at h
    obtain ⟨w, r, rfl, s, t⟩ := h
    simpa using Rps.cons s (Rps.erase n t)
theorem popAtF_ok : FOkM K popAtF rPopAt := by
  intro x xs S d S' e H m vx vs Q hS hx hxs q
  unfold popAtF at e
  split at e
  · rename_i n i
    split at e
    · rename_i zs h1
      split at e
      · rename_i hz
        split at e
        · rename_i y h2
          cases e
          simp only [Rp] at hx
          obtain ⟨a, ea, rfl⟩ := hx
          obtain ⟨v, rfl, hy⟩ := hxs.one_iff
          rw [Rp] at hy; subst hy
          obtain ⟨a', ws, m1, k1, r1⟩ := hS.lst h1
          rw [ea] at m1; cases m1
          obtain ⟨w, hw, rw'⟩ := r1.get h2
          have hl : i.toNat < ws.length := lt_of hw
          refine ⟨a, ws, i, i.toNat, w, rfl, rfl, k1, by omega, hz.2, ?_, hw, fin_set hS ea k1 (lt_of h1) (r1.erase _) rw' q⟩
          unfold seqIndex?
          have h0 : ¬ i < 0 := by omega
          simp only [if_neg h0]
          have h9 : (decide (0 ≤ i) && decide (i < (ws.length : Int))) = true := by simp; omega
          simp only [h9, if_true]
        · cases e
      · cases e
    · cases e
  · cases e
/-! ### the script, gone through -/
def rlI (e : EvM) : IvM := fun γ S => match e γ S with
  | some (.rl xs, S') => some (none, xs, S')
  | _ => none
theorem walks_rl {K : Kx} {H0 : Hp} {m0 : List Addr} {xs : List D} {a : Addr} {vs : List V} (ha : RoL K.f H0 a vs) (hv : Rps K H0 m0 xs vs) : Walks K (Itl K.f a) H0 m0 none xs where
  go := fun H m S i x hS _ hi => by
    obtain ⟨v, h1, h2⟩ := hv.get (List.getElem?_eq_getElem hi)
    have hl := (x.rol _ _ ha).sq
    refine ⟨⟨vs, v, hl, h1⟩, fun y H' q => ?_⟩
    obtain ⟨rfl, q⟩ := q
    have e := q vs hl
    rw [h1] at e; cases e
    exact ⟨_, List.getElem?_eq_getElem hi, .refl, hS, h2.mono x⟩
  stop := fun H m S x hS _ => ⟨vs, (x.rol _ _ ha).sq, by rw [hv.length]; exact Nat.le_refl _⟩
theorem mi_rl {tg iter : Expr} (he : ME tb X iter ea) : MI tb X tg iter (rlI ea) := by
  refine ⟨fun pins s σ H R I hq => ?_⟩
  obtain ⟨m, S, γ, ck, xs, S', hS, hγ, e1, q⟩ := hq
  unfold rlI at e1
  split at e1
  · rename_i ys S1 h1
    cases e1
    refine (pi_list he).run pins s σ H R I ⟨m, S, γ, _, _, hS, hγ, h1, fun w H1 m1 x1 hS1 hw => ?_⟩
    rw [Rp] at hw
    obtain ⟨a, vs, rfl, ha, hv⟩ := hw
    exact ⟨a, rfl, ⟨vs, ha.sq⟩, q _ H1 m1 x1 hS1 (walks_rl ha hv)⟩
  · cases e1
end
end Ml
set_option maxHeartbeats 1000000 -- wide
/-! Ml19: defs as values: a def of the module by its name; a def within a def, handed on and called there -/
namespace Ml
open L2 PyProof.Rows PySem PySem.Spec
section
variable {tb : List NdefX.NTab} {X : Cx} {pos p : Pos} {x : Str} {e : Expr} {es : List Expr} {ra : AvM}
/-- a def of the module as a value -/
theorem me_gl {z : Str} {f : Addr} (hg : Gl X z) (hm : X.mg z = some (.ref f)) (hn : PySem.W.nsIn X.K mainGlobals z = some (some (.ref f))) (hd : (z == ("__debug__" : Str)) = false := by decide) : ME tb X (.Name z pos) (conM (.gl z)) :=
  me_con (pe_glob (v := .ref f) hg hm rfl hd) fun H m => by rw [Rp]; exact ⟨f, rfl, hn⟩
/-- a local name that holds one of these defs is called -/
def callGM (i n : Nat) (cands : Str → Option (List D → Sto → Option (D × Sto))) (ra : AvM) : EvM := fun γ S => match γ[i]? with
  | some (some (.gl z)) => match cands z with
    | some G => match ra γ S with
      | some (xs, S1) => if xs.length = n then G xs S1 else none
      | none => none
    | none => none
  | _ => none
theorem me_callG {k i n : Nat} {cands : Str → Option (List D → Sto → Option (D × Sto))}
    (C : ∀ z G, cands z = some G → ∃ (f : Addr) (fd : FuncData) (ps : List Str), FnOk X.prog X.w X.K X.mg X.base CX0 k f fd ps (spM (kx tb X) n G) ∧ PySem.W.nsIn X.K mainGlobals z = some (some (.ref f)) ∧ PySem.W.keepIn X.K (.ref f) = true ∧ Binds X.K fd ps [])
    (hr : Room k X.A) (hN : X.N[i]? = some x) (hv : Vis X.env.scope x) (ha : MA tb X (e :: es) ra)
    (hdb : (x == ("__debug__" : Str)) = false := by decide) (hcd : (x == ("__classdict__" : Str)) = false := by decide) (he : starEach (e :: es) X.env = (false, eval e X.env) :: starEach es X.env := by rfl) (hpl : (backTo pos (starEach es X.env)).any (·.1) = false := by rfl) :
    ME tb X (.Call (.Name x p) (e :: es) [] pos) (callGM i n cands ra) := by
  refine .mk fun pins s σ H Q I h => ?_
  obtain ⟨m, S, γ, d, S', hS, hγ, e1, q⟩ := h
  unfold callGM at e1
  split at e1
  · rename_i z h1
    split at e1
    · rename_i G h2
      split at e1
      · rename_i xs S1 h3
        split at e1
        · rename_i hl
          obtain ⟨f, fd, ps, F, hn, hk, hb⟩ := C z G h2
          obtain ⟨v, hs, rv⟩ := hγ.at_ i _ h1
          rw [Rp] at rv
          obtain ⟨f', rfl, hn'⟩ := rv
          rw [hn] at hn'
          cases hn'
          refine (pe_callL (i := i) (f := f) (dvs := []) (E := E0) F hr hN hv hk hb .nil pass0 ha hdb hcd he hpl).run pins s σ H Q I ⟨hs, ?_⟩
          refine ⟨m, S, γ, xs, S1, hS, hγ, h3, fun vs H1 m1 x1 hS1 hv => ?_⟩
          show spM (kx tb X) n G (vs ++ []) H1 Q E0
          rw [List.append_nil]
          exact ⟨m1, S1, xs, d, S', hl, hS1, hv, e1, fun w H2 m2 x2 => q w H2 m2 (x1.trans x2)⟩
        · cases e1
      · cases e1
    · cases e1
  · cases e1
/-! ### a def within a def: what it promises, how it is called -/
/-- its promise: the captured values stand behind the arguments -/
def NokM (P : Program) (w : World) (K : PySem.W.Frag) (mg : Str → Option Value) (base : Heap) (tb : List NdefX.NTab) (k : Nat) (nd : NDef) (G : List D → Sto → Option (D × Sto)) : Prop :=
  ∀ (cl : List (Str × Addr)) (c f : Addr), NdefX.NOk P w K mg base CX0 k f (nd.nf cl c) nd.ps nd.fr fun ws vs H Q E => ∃ vs2 : List V, ws = vs2.map some ∧ vs.length = nd.ps.length ∧ vs2.length = nd.fr.length ∧ spM ⟨K, P, w, base, tb⟩ (nd.ps.length + nd.fr.length) G (vs ++ vs2) H Q E
open Classical in
/-- a local name that holds a def made within a def is called -/
noncomputable def callNM (i : Nat) (tab : Nat → Option NDef) (G : Nat → List D → Sto → Option (D × Sto)) (ra : AvM) : EvM := fun γ S => match γ[i]? with
  | some (some (.ref n)) => match S[n]? with
    | some (.fn _ _ _) => match ra γ S with
      | some (xs, S1) => match S1[n]? with
        | some (.fn id nd ws) => if tab id = some nd ∧ xs.length = nd.ps.length ∧ ws.length = nd.fr.length then G id (xs ++ ws) S1 else none
        | _ => none
      | none => none
    | _ => none
  | _ => none
theorem me_callN {k i : Nat} {tab : Nat → Option NDef} {G : Nat → List D → Sto → Option (D × Sto)} (C : ∀ id nd, tab id = some nd → NokM X.prog X.w X.K X.mg X.base tb k nd (G id))
    (hr : Room k X.A) (hN : X.N[i]? = some x) (hv : Vis X.env.scope x) (ha : MA tb X (e :: es) ra)
    (hdb : (x == ("__debug__" : Str)) = false := by decide) (hcd : (x == ("__classdict__" : Str)) = false := by decide) (he : starEach (e :: es) X.env = (false, eval e X.env) :: starEach es X.env := by rfl) (hpl : (backTo pos (starEach es X.env)).any (·.1) = false := by rfl) :
    ME tb X (.Call (.Name x p) (e :: es) [] pos) (callNM i tab G ra) := by
  refine .mk fun pins s σ H Q I h => ?_
  obtain ⟨m, S, γ, d, S', hS, hγ, e1, q⟩ := h
  unfold callNM at e1
  split at e1
  · rename_i n h1
    split at e1
    · rename_i id0 nd0 ws0 h2
      split at e1
      · rename_i xs S1 h3
        split at e1
        · rename_i id nd ws h4
          split at e1
          · rename_i hl
            obtain ⟨v, hs, rv⟩ := hγ.at_ i _ h1
            rw [Rp] at rv
            obtain ⟨f, hm, rfl⟩ := rv
            obtain ⟨cl0, c0, vs0, f0, _⟩ := hS.at_ n f _ hm h2
            refine wpAny_Call_Name_kw (thn ((pe_var (pos := p) hN hv hdb hcd).run pins s σ H (fun v H1 => v = .ref f ∧ H1 = H) I ⟨.ref f, hs, rfl, rfl⟩) fun u s1 ⟨v, H1, I1, r1, q1⟩ => ?_); obtain ⟨rfl, rfl⟩ := q1
            obtain rfl : u = Value.ref f := r1; refine PySem.W.callWith_F (first := []) (NdefX.fnAt_of I1 f0) (thn (ha.run pos pins s1 σ H1 (fun vs H2 => ∃ m2, Ext (kx tb X) H1 m H2 m2 ∧ SR (kx tb X) H2 m2 S1 ∧ Rps (kx tb X) H2 m2 xs vs) I1 ⟨m, S, γ, xs, S1, hS, hγ, h3, fun vs H2 m2 x2 hS2 hz => ⟨m2, x2, hS2, hz⟩⟩) fun us s2 hq => ?_) he hpl
            obtain ⟨vs, H2, I2, r, m2, x2, hS2, hvs⟩ := hq
            have hm2 := x2.get hm
            obtain ⟨cl, c, vs2, f2, c2, cm, ci, hws⟩ := hS2.at_ n f _ hm2 h4
            refine ⟨NdefX.fnAt_of I2 f2, ?_⟩
            show wpAny _ _ (call (.ref f) us) _ _ _; have Fn := C id nd hl.1 cl c f
            have hln : vs2.length = nd.fr.length := ci.len
            refine wpAny_call (codeAny_mono (Fn.run X.A X.stack s2 H2 us vs (vs2.map some) Q E0 hr I2.env0 f2 c2 ?_ r ⟨vs2, rfl, by rw [hvs.length]; exact hl.2.1, hln, m2, S1, xs ++ ws, d, S', ?_, hS2, hvs.append hws, e1, fun w H3 m3 x3 => q w H3 m3 (x2.trans x3)⟩) fun r s' hq => ?_)
            · refine ⟨by simpa using hln, fun y c' e => ?_, ci.inj, fun j y e => ?_⟩
              · obtain ⟨v, o, ho, hd⟩ := ci.all y c' e
                exact ⟨(I2.bs _ _ ho).2, v, o, (I2.bs _ _ ho).1, hd⟩
              · obtain ⟨c', hc, hv⟩ := ci.has j y e
                refine ⟨c', hc, fun v ev => ?_⟩
                rw [List.getElem?_map] at ev
                cases ew : vs2[j]? with
                | none => rw [ew] at ev; cases ev
                | some v' =>
                  rw [ew] at ev
                  cases ev
                  obtain ⟨u, ru, o, ho, hd⟩ := hv v ew
                  exact ⟨u, ru, o, (I2.bs _ _ ho).1, hd⟩
            · rw [List.length_append, hl.2.1, hl.2.2]
            · cases r with
              | error err => exact False.elim hq
              | ok fl =>
                cases fl with
                | ret u => exact I2.after hq
                | next => exact False.elim hq
                | brk => exact False.elim hq
                | cont => exact False.elim hq
          · cases e1
        · cases e1
      · cases e1
    · cases e1
  · cases e1
end
section
variable {P : Program} {w : World} {K : PySem.W.Frag} {tb : List NdefX.NTab} {mg : Str → Option Value} {base : Heap}
theorem nok_zero {nd : NDef} {k : Nat} : NokM P w K mg base tb k nd fun _ _ => none := fun cl c f => by
  have no : ∀ ws vs H Q E, ¬ ∃ vs2 : List V, ws = vs2.map some ∧ vs.length = nd.ps.length ∧ vs2.length = nd.fr.length ∧ spM ⟨K, P, w, base, tb⟩ (nd.ps.length + nd.fr.length) (fun _ _ => none) (vs ++ vs2) H Q E := fun ws vs H Q E h => by
    obtain ⟨_, _, _, _, m, S, xs, d, S', h1, _, h2, h3, _⟩ := h
    cases h3
  exact ⟨fun ws vs H Q E h => (no _ _ _ _ _ h).elim, fun A outer s H us vs ws Q E _ _ _ _ _ _ h => (no _ _ _ _ _ h).elim⟩
/-- THE RULE for a def within a def -/
theorem nok_def {nd : NDef} {N : List Str} {k : Nat} {s : SvM} (S : NdefX.NScope N nd.ps nd.fr (C8.fnScope nd.st)) (hn : nd.ps.length + nd.fr.length ≤ N.length)
    (hbind : ∀ (cl : List (Str × Addr)) (c : Addr) (doc pm ctv : Value) (us : List Value), us.length = nd.ps.length → bindArgs ((nd.nf cl c).fd doc pm ctv) ⟨us, []⟩ = pure (nd.ps.zip us))
    (hb : ∀ (cl : List (Str × Addr)) (c f : Addr) (A : Around) (outer : List Env) (s0 : Shared) (H : Hp) (E : XK), Room k (NdefX.ncx CX0 P w K mg base N (nd.nf cl c) f A outer s0 H E).A → MSs tb (NdefX.ncx CX0 P w K mg base N (nd.nf cl c) f A outer s0 H E) (C8.fnBody nd.st) s) :
    NokM P w K mg base tb (k + 1) nd (bodyM N.length s) := fun cl c f => by
  refine NdefX.nok_of (N := N) S (hbind cl c) (fun ws vs H Q E h => ?_) fun A outer s0 H vs ws Q E hr hf hc hl h => ?_
  · obtain ⟨_, _, h, _⟩ := h; exact h
  · obtain ⟨vs2, rfl, hv, hv2, m, S0, xs, d, S', h1, hS, h2, h3, q⟩ := h
    refine ⟨_, hb cl c f A outer s0 H E hr, ?_⟩
    have hst : NdefX.startF N vs (vs2.map some) = L2.start N (vs ++ vs2) := by
      unfold NdefX.startF L2.start
      rw [List.map_append, List.append_assoc, List.length_append, List.length_map, Nat.sub_sub]
    have sl := slr_start (N := N) h2 (by rw [h1]; exact hn)
    unfold bodyM at h3
    split at h3
    · rename_i d' γ' S1 h4
      cases h3
      exact ⟨m, S0, _, .rt d, γ', _, hS, by rw [hst]; exact sl, h4, q⟩
    · rename_i γ' S1 h4
      cases h3
      exact ⟨m, S0, _, .nx, γ', _, hS, by rw [hst]; exact sl, h4, fun σ' H' m' x hS' _ => q _ H' m' x hS' (by rw [Rp])⟩
    · cases h3
end
end Ml
set_option maxHeartbeats 1000000 -- wide
/-! Ml20: a def within a def, made and handed on in the return behind it -/
namespace Ml
open L2 PyProof.Rows PySem PySem.Spec
/-! ### another ground, another context -/
section
variable {f : PySem.W.Frag} {p : Program} {w : World} {b b' : Heap} {t t' : List NdefX.NTab} {H H' : Hp} {m m' : List Addr}
mutual
theorem Rp.gr : ∀ (d : D) (v : V), Rp ⟨f, p, w, b, t⟩ H m d v → Rp ⟨f, p, w, b', t'⟩ H m d v
  | .non, v, h => by simpa only [Rp] using h
  | .bl _, v, h => by simpa only [Rp] using h
  | .int _, v, h => by simpa only [Rp] using h
  | .str _, v, h => by simpa only [Rp] using h
  | .gl _, v, h => by simpa only [Rp] using h
  | .ref _, v, h => by simpa only [Rp] using h
  | .tup xs, v, h => by
    rw [Rp] at h ⊢
    obtain ⟨a, vs, r, s, q⟩ := h
    exact ⟨a, vs, r, s, Rps.gr xs vs q⟩
  | .rl xs, v, h => by
    rw [Rp] at h ⊢
    obtain ⟨a, vs, r, s, q⟩ := h
    exact ⟨a, vs, r, s, Rps.gr xs vs q⟩
theorem Rps.gr : ∀ (d : List D) (v : List V), Rps ⟨f, p, w, b, t⟩ H m d v → Rps ⟨f, p, w, b', t'⟩ H m d v
  | [], v, h => by simpa only [Rps] using h
  | x :: xs, v, h => by
    rw [Rps] at h ⊢
    obtain ⟨w, r, q, s, t⟩ := h
    exact ⟨w, r, q, Rp.gr x w s, Rps.gr xs r t⟩
end
theorem Ext.gr (e : Ext ⟨f, p, w, b, t⟩ H m H' m') : Ext ⟨f, p, w, b', t'⟩ H m H' m' := ⟨⟨e.pre, e.tup, e.rol⟩, e.frz⟩
theorem Rkv.gr {κ : Type} {a : List (κ × D)} {c : List (κ × V)} (h : Rkv ⟨f, p, w, b, t⟩ H m a c) : Rkv ⟨f, p, w, b', t'⟩ H m a c := Paired.mapP h fun _ _ q => ⟨q.1, q.2.gr⟩
theorem Rdn.gr {a : List (D × D)} {c : List (NestedKey × Addr × V)} (h : Rdn ⟨f, p, w, b, t⟩ H m a c) : Rdn ⟨f, p, w, b', t'⟩ H m a c := Paired.mapP h fun _ _ q => ⟨q.1, q.2.1, q.2.2.1.gr, q.2.2.2.gr⟩
theorem CellsIn.up {cl : List (Str × Addr)} {fr : List Str} {vs : List V} (k : ∀ a o, b.get? a = some o → b'.get? a = some o) (h : CellsIn b cl fr vs) : CellsIn b' cl fr vs :=
  ⟨h.inj, fun y c e => let ⟨v, o, ho, hd⟩ := h.all y c e; ⟨v, o, k _ _ ho, hd⟩, h.len, fun i y e => let ⟨c, hc, hv⟩ := h.has i y e; ⟨c, hc, fun v ev => let ⟨u, r, o, ho, hd⟩ := hv v ev; ⟨u, r, o, k _ _ ho, hd⟩⟩⟩
theorem OR.up {a : Addr} {o : O} (k : ∀ a o, b.get? a = some o → b'.get? a = some o) (h : OR ⟨f, p, w, b, t⟩ H m a o) : OR ⟨f, p, w, b', t'⟩ H m a o := by
  cases o with
  | lst xs => obtain ⟨vs, q, r⟩ := h; exact ⟨vs, q, r.gr⟩
  | dk kvs => obtain ⟨vs, q, r⟩ := h; exact ⟨vs, q, r.gr⟩
  | dn lk kvs =>
    cases lk with
    | false => obtain ⟨xs, q, r⟩ := h; exact ⟨xs, q, r.gr⟩
    | true => obtain ⟨od, xs, q, r⟩ := h; exact ⟨od, xs, q, r.gr⟩
  | ins C fs => obtain ⟨dx, ws, q, r⟩ := h; exact ⟨dx, ws, q, r.gr⟩
  | dkl kvs => obtain ⟨od, ws, q, r⟩ := h; exact ⟨od, ws, q, r.gr⟩
  | fn i nd ws => obtain ⟨cl, c, vs, q, r, z, y, x⟩ := h; exact ⟨cl, c, vs, q, r, z, y.up k, x.gr⟩
  | junk => exact h
/-- no def is kept as one -/
def jk : O → O
  | .fn _ _ _ => .junk
  | o => o
def junkAll (S : Sto) : Sto := S.map jk
theorem OR.jk {a : Addr} {o : O} (h : OR ⟨f, p, w, b, t⟩ H m a o) : OR ⟨f, p, w, b', t'⟩ H m a (Ml.jk o) := by
  cases o with
  | lst xs => obtain ⟨vs, q, r⟩ := h; exact ⟨vs, q, r.gr⟩
  | dk kvs => obtain ⟨vs, q, r⟩ := h; exact ⟨vs, q, r.gr⟩
  | dn lk kvs =>
    cases lk with
    | false => obtain ⟨xs, q, r⟩ := h; exact ⟨xs, q, r.gr⟩
    | true => obtain ⟨od, xs, q, r⟩ := h; exact ⟨od, xs, q, r.gr⟩
  | ins C fs => obtain ⟨dx, ws, q, r⟩ := h; exact ⟨dx, ws, q, r.gr⟩
  | dkl kvs => obtain ⟨od, ws, q, r⟩ := h; exact ⟨od, ws, q, r.gr⟩
  | fn i nd ws => obtain ⟨cl, c, vs, q, _⟩ := h; exact ⟨_, q⟩
  | junk => exact h
theorem SR.jk {S : Sto} (h : SR ⟨f, p, w, b, t⟩ H m S) : SR ⟨f, p, w, b', t⟩ H m (junkAll S) :=
  ⟨h.tb, by rw [h.len]; exact (List.length_map ..).symm, h.nd, fun n a o e1 e2 => by
    unfold junkAll at e2
    rw [List.getElem?_map] at e2
    cases e3 : S[n]? with
    | none => rw [e3] at e2; cases e2
    | some u => rw [e3] at e2; cases e2; exact (h.at_ n a u e1 e3).jk⟩
theorem SR.up {S : Sto} (k : ∀ a o, b.get? a = some o → b'.get? a = some o) (h : SR ⟨f, p, w, b, t⟩ H m S) : SR ⟨f, p, w, b', t⟩ H m S := ⟨h.tb, h.len, h.nd, fun n a o e1 e2 => (h.at_ n a o e1 e2).up k⟩
end
/-- what a code object is nothing else is -/
theorem code_fn {P : Program} {w : World} {H : Hp} {h : Heap} {c : Addr} {q : Str} {F : NdefX.NF} (hok : HOk P w H h) (hc : H c = some (LamX.CodeO c q)) : H c ≠ some (NdefX.FnO c F) := fun e => by
  obtain ⟨⟨oc, vs, t, h1, h2, _⟩, _⟩ := hok c _ hc
  obtain ⟨od, sl, doc, pm, ctv, h3⟩ := NdefX.fnO_at hok e
  rw [h1] at h3
  cases h3
  cases h2
theorem code_out {K : Kx} {P : Program} {w : World} {H : Hp} {h : Heap} {m : List Addr} {S : Sto} {c : Addr} {q : Str} (hok : HOk P w H h) (hl : m.length = S.length) (hS : ∀ (n : Nat) (a : Addr) (o : O), m[n]? = some a → S[n]? = some o → OR K H m a o) (hc : H c = some (LamX.CodeO c q)) : c ∉ m := fun hm => by
  obtain ⟨n, hn, e⟩ := List.getElem_of_mem hm
  have hs : n < S.length := by rw [← hl]; exact hn
  have o := hS n c S[n] (by rw [List.getElem?_eq_getElem hn, e]) (List.getElem?_eq_getElem hs)
  have hcc := hc
  unfold LamX.CodeO at hc
  cases z : S[n] with
  | lst xs => rw [z] at o; obtain ⟨_, y, _⟩ := o; rw [hc] at y; cases y
  | dk xs => rw [z] at o; obtain ⟨_, y, _⟩ := o; rw [hc] at y; cases y
  | dn lk xs =>
    rw [z] at o
    cases lk with
    | false =>
      obtain ⟨xs, y, _⟩ := o
      obtain ⟨⟨oc, vs, t, h1, h2, _⟩, _⟩ := hok c _ hcc
      obtain ⟨⟨_, _, ys, _, ob, es, ep, h3, _, h4, _⟩, _⟩ := hok c _ y
      rw [h1] at h3
      cases h3
      rw [h2] at h4
      cases h4
    | true => obtain ⟨_, _, y, _⟩ := o; rw [hc] at y; cases y
  | ins C xs => rw [z] at o; obtain ⟨_, _, y, _⟩ := o; rw [hc] at y; cases y
  | dkl xs => rw [z] at o; obtain ⟨_, _, y, _⟩ := o; rw [hc] at y; cases y
  | fn i nd ws => rw [z] at o; obtain ⟨_, _, _, y, _⟩ := o; exact code_fn hok hcc y
  | junk => rw [z] at o; obtain ⟨_, y⟩ := o; exact code_fn hok hcc y
/-! ### the def's object is made -/
section
variable {tb : List NdefX.NTab} {X : Cx}
/-- the store is as before, the slot i holds the new function at f -/
def tDefX (K : Kx) (i : Nat) (mk : Addr → NdefX.NF) : TS := fun Dn σ H => ∃ m S γ, SR K H m S ∧ SLR K H m γ σ ∧ ∀ (f c' : Addr) (H1 : Hp), Ext K H m H1 m → SR K H1 m S → H1 f = some (NdefX.FnO f (mk c')) → H1 c' = some (LamX.CodeO c' (mk c').qual) → f ∉ m →
  (∀ c q, H1 c = some (LamX.CodeO c q) → c ≠ f ∧ c ∉ m) → Dn.nx (σ.set i (some (.ref f))) H1
theorem ps_defX {nd : NDef} {nm : Nat → Nat → Str} {c P : Addr} {pos : Pos} {i : Nat} (hst : nd.st = .FunctionDef nd.name (C8.fnArgs nd.st) (C8.fnBody nd.st) [] none [] (C8.fnScope nd.st) none nd.name pos) (hq : nd.qual = X.env.qual ++ nd.name)
    (TB : LamX.TabB X.base X.mg c P) (hcode : X.env.code = .ref c) (hm : (P, nm) ∈ tb) (hn : nm pos.line pos.col = X.env.qual ++ nd.name) (hu : ∀ p ∈ tb, p.1 = P → p.2 = nm)
    (hfree : ∀ y ∈ (C8.fnScope nd.st).names, y.2 = .free → X.env.scope.names.lookup y.1 = some .cell ∨ X.env.scope.names.lookup y.1 = some .free) (hd0 : (C8.fnArgs nd.st).defaults = []) (hk0 : (C8.fnArgs nd.st).kw_defaults = []) (ha : annTrees (C8.fnArgs nd.st) none X.env = [])
    (hN : X.N.Nodup) (hi : X.N[i]? = some nd.name) (hx : Loc X.env.scope nd.name) (hf : X.fn nd.name = true ∨ X.env.scope.names.lookup nd.name = some .local) :
    PS X nd.st (tDefX (kx tb X) i fun c' => nd.nf (cloFrom X.env.cells (C8.fnScope nd.st).names []) c') := by
  refine ⟨fun pins s σ H Dn I h => ?_⟩
  obtain ⟨m, S, γ, hS, hγ, h⟩ := h
  have hqn : qualnameIn X.env nd.name nd.name = X.env.qual ++ nd.name := by
    have hk : X.env.kindOf nd.name = some .local ∨ X.env.kindOf nd.name = some .cell := hx
    unfold qualnameIn; rcases hk with k | k <;> rw [k] <;> first | rfl | exact if_neg (by decide)
  have hfr : ∀ y ∈ (C8.fnScope nd.st).names, y.2 = .free → ∃ c, X.env.cells.lookup y.1 = some c := fun y hy e => (hfree y hy e).elim (fun z => I.ok.has _ (.inl z)) fun z => I.ok.has _ (.inr z)
  have hT : NdefX.TabsN tb H := fun p hp => by
    obtain ⟨ps, h1, h2, h3⟩ := hS.tb p hp
    exact ⟨ps, h1, h2, fun pos cv e => let ⟨c, e1, e2, _⟩ := h3 pos cv e; ⟨c, e1, e2⟩⟩
  rw [hst]
  refine PySem.W.nestDef_K hd0 hk0 ha ?_; rw [hqn]
  refine NdefX.ndef_make I TB hcode hm hn hu hT hfr fun f c' H1 s' I1 eN _ T1 f0 f1 c1 => ?_
  refine store_ok I1 hN hi hx (v := .ref f) rfl (fun s'' J => ⟨_, H1, J, ?_⟩) hf
  have keep : ∀ (a : Addr) (u : HO), H a = some u → (∀ ps, u ≠ .tbl ps) → H1 a = some u := fun a u e n => eN a u e n
  have sq : ∀ a vs, SqT X.K H a vs → SqT X.K H1 a vs := fun a vs z => by
    rcases z with (z | ⟨o, z⟩) | z
    · exact .inl (.inl (keep _ _ z fun ps y => by cases y))
    · exact .inl (.inr ⟨o, keep _ _ z fun ps y => by cases y⟩)
    · exact .inr z
  have x : Ext (kx tb X) H m H1 m := ⟨⟨⟨[], by simp⟩, sq, fun a vs z => by
    rcases z with ⟨o, z⟩ | z
    · exact .inl ⟨o, keep _ _ z fun ps y => by cases y⟩
    · exact .inr z⟩, fun a od u z => keep _ _ z fun ps y => by cases y⟩
  have hmf : f ∉ m := hS.none f0
  have st : ∀ (n : Nat) (a : Addr) (o : O), m[n]? = some a → S[n]? = some o → OR (kx tb X) H1 m a o := fun n a o e1 e2 => by
    have r := hS.at_ n a o e1 e2
    obtain ⟨u, hu1, hu2⟩ := r.there
    have nt : ∀ ps, u ≠ .tbl ps := fun ps y => by subst y; exact hu2
    have k : ∀ w, H a = some w → H1 a = some w := fun w z => by rw [hu1] at z; cases z; exact keep _ _ hu1 nt
    cases o with
    | lst xs => obtain ⟨vs, q, r⟩ := r; exact ⟨vs, k _ q, r.mono x⟩
    | dk kvs => obtain ⟨vs, q, r⟩ := r; exact ⟨vs, k _ q, r.mono x⟩
    | dn lk kvs =>
      cases lk with
      | false => obtain ⟨xs, q, r⟩ := r; exact ⟨xs, k _ q, r.mono x⟩
      | true => obtain ⟨od, xs, q, r⟩ := r; exact ⟨od, xs, k _ q, r.mono x⟩
    | ins C fs => obtain ⟨dx, ws, q, r⟩ := r; exact ⟨dx, ws, k _ q, r.mono x⟩
    | dkl kvs => obtain ⟨od, ws, q, r⟩ := r; exact ⟨od, ws, k _ q, r.mono x⟩
    | fn i nd ws => obtain ⟨cl, c, vs, q, r, z, y, w⟩ := r; exact ⟨cl, c, vs, k _ q, keep _ _ r LamX.codeO_ne, z, y, w.mono x⟩
    | junk => obtain ⟨F, q⟩ := r; exact ⟨F, k _ q⟩
  have out : ∀ c q, H1 c = some (LamX.CodeO c q) → c ≠ f ∧ c ∉ m := fun c q z => ⟨fun y => by subst y; exact code_fn I1.hok z f1, code_out I1.hok hS.len st z⟩
  have hS1 : SR (kx tb X) H1 m S := ⟨fun p hp => by
    obtain ⟨ps, h1, h2, h3⟩ := T1 p hp
    exact ⟨ps, h1, h2, fun pos cv e => let ⟨c, e1, e2⟩ := h3 pos cv e; ⟨c, e1, e2, (out c _ e2).2⟩⟩, hS.len, hS.nd, st⟩
  refine h f c' H1 x hS1 ?_ ?_ hmf out
  · rw [f1]
    unfold NDef.nf NdefX.NF.of
    rw [hq]
  · rw [c1]
    show some (LamX.CodeO c' (X.env.qual ++ nd.name)) = some (LamX.CodeO c' nd.qual)
    rw [hq]
end
end Ml
set_option maxHeartbeats 1000000 -- wide
/-! Ml21: .. and handed on, in the return behind it -/
namespace Ml
open L2 PyProof.Rows PySem PySem.Spec
/-- the ground with these cells in it -/
noncomputable def gnd (base h : Heap) (cs : List Addr) : Heap := hidT h fun b => if (base.get? b).isSome = true ∨ b ∈ cs then none else some (.own 0)
theorem gnd_get {base h : Heap} {cs : List Addr} {b : Addr} {o : Obj} (e : h.get? b = some o) (c : (base.get? b).isSome = true ∨ b ∈ cs) : (gnd base h cs).get? b = some o := hidT_get e (if_pos c)
theorem of_gnd {base h : Heap} {cs : List Addr} {b : Addr} {o : Obj} (e : (gnd base h cs).get? b = some o) : h.get? b = some o ∧ ((base.get? b).isSome = true ∨ b ∈ cs) := by
  obtain ⟨h1, h2⟩ := of_hidT e
  refine ⟨h1, ?_⟩
  by_cases c : (base.get? b).isSome = true ∨ b ∈ cs
  · exact c
  · have z : (if (base.get? b).isSome = true ∨ b ∈ cs then (none : Option HO) else some (.own 0)) = none := h2
    rw [if_neg c] at z
    cases z
section
variable {tb : List NdefX.NTab} {X : Cx} {pins : List (Addr × Obj)} {σ : L2.St} {H : Hp} {s : Shared}
theorem gnd_keep {cs : List Addr} (I : Inv X pins σ H s) : ∀ b o, X.base.get? b = some o → (gnd X.base s.heap cs).get? b = some o := fun b o e => gnd_get (I.bk b o e) (.inl (by rw [e]; rfl))
/-- what is asked ahead of a call: over the ground with some cells of the running frame -/
theorem env0_gnd {cs : List Addr} (I : Inv X pins σ H s) (hfn : ∀ y, X.fn y = true) (hcs : ∀ c ∈ cs, ∃ y, X.env.cells.lookup y = some c) : Env0 X.prog X.w X.K X.mg (gnd X.base s.heap cs) X.A X.stack s H := by
  have k := gnd_keep (cs := cs) I
  have e0 := I.env0
  obtain ⟨mb, h1, h2⟩ := I.mod.blt; refine ⟨e0.frames, ⟨I.mod.kin.keeps k, I.mod.glob.keeps k, ⟨mb, h1.keeps k, h2⟩, I.mod.nolimit.keeps k⟩, fun b o e => ?_, Nat.le_of_eq (hidT_size _ _), ?_, e0.frf, e0.hok, e0.bare⟩
  · obtain ⟨h3, h4 | h4⟩ := of_gnd e
    · obtain ⟨o2, h5⟩ := Option.isSome_iff_exists.mp h4
      exact ⟨h3, (I.bs b o2 h5).2⟩
    · obtain ⟨y, hy⟩ := hcs b h4
      exact ⟨h3, I.freeC y b hy⟩
  · refine funFrames_none I.stack fun L hL => ?_
    cases q : (gnd X.base s.heap cs).get? L with
    | none => rfl
    | some o =>
      obtain ⟨h3, h4 | h4⟩ := of_gnd q
      · obtain ⟨z, _⟩ := I.stack.mem hL
        rw [z] at h4
        cases h4
      · obtain ⟨y, hy⟩ := hcs L h4
        rcases List.mem_cons.mp (I.stkSub L hL) with e | e
        · exact (I.cne y L hy e).elim
        · obtain ⟨_, o', ho, _⟩ := I.ok.funs.mem e
          exact absurd (Nat.lt_of_lt_of_le (Heap.lt_size ho) (I.ok.cab y L (hfn y) hy)) (Nat.lt_irrefl _)
/-- the slots' values -/
theorem slots_of {K : Kx} {m : List Addr} {γ : Sl} (hγ : SLR K H m γ σ) : ∀ {js : List Nat} {ws : List D}, js.map (fun j => γ[j]?) = ws.map (fun w => some (some w)) → ∃ vs : List V, js.map (NdefX.slotAt σ) = vs.map some ∧ Rps K H m ws vs
  | [], [], _ => ⟨[], rfl, Rps.nil⟩
  | [], _ :: _, e => by cases e
  | _ :: _, [], e => by cases e
  | j :: js, w :: ws, e => by
    rw [List.map_cons, List.map_cons] at e; obtain ⟨e1, e2⟩ := List.cons.inj e
    obtain ⟨vs, h1, h2⟩ := slots_of hγ e2
    obtain ⟨v, h3, h4⟩ := hγ.at_ j w e1
    exact ⟨v :: vs, by rw [List.map_cons, List.map_cons, h1, NdefX.slotAt_of h3], Rps.cons h4 h2⟩
/-- what is given back by the call that a new def is handed to -/
def dretM (id : Nat) (nd : NDef) (ia : Nat) (js : List Nat) (G : List D → Sto → Option (D × Sto)) : SvM := fun γ S => match γ[ia]? with
  | some (some y) => match js.mapM (fun j => γ[j]?.join) with
    | some ws => match G [y, .ref S.length] (S ++ [.fn id nd ws]) with
      | some (d, S2) => some (.rt d, γ, junkAll S2)
      | none => none
    | none => none
  | _ => none
theorem mapM_slots {γ : Sl} : ∀ {js : List Nat} {ws : List D}, js.mapM (fun j => γ[j]?.join) = some ws → js.map (fun j => γ[j]?) = ws.map (fun w => some (some w))
  | [], ws, e => by simp at e; subst e; rfl
  | j :: js, ws, e => by
    rw [List.mapM_cons] at e
    cases h1 : γ[j]?.join with
    | none => rw [h1] at e; simp at e
    | some w =>
      cases h2 : js.mapM (fun j => γ[j]?.join) with
      | none => rw [h1, h2] at e; simp at e
      | some r =>
        rw [h1, h2] at e
        simp at e
        subst e
        have h3 : γ[j]? = some (some w) := by
          cases h4 : γ[j]? with
          | none => rw [h4] at h1; cases h1
          | some o => rw [h4] at h1; have h1 : o = some w := h1; rw [h1]
        rw [List.map_cons, List.map_cons, mapM_slots h2, h3]
variable {k i ia : Nat} {f c P : Addr} {fd : FuncData} {ps : List Str} {G : List D → Sto → Option (D × Sto)} {x xa : Str} {nd : NDef} {nm : Nat → Nat → Str} {pos pr pc px pa pq : Pos} {js : List Nat} {id : Nat}
theorem mss_dret (hst : nd.st = .FunctionDef nd.name (C8.fnArgs nd.st) (C8.fnBody nd.st) [] none [] (C8.fnScope nd.st) none nd.name pos) (hq : nd.qual = X.env.qual ++ nd.name)
    (TB : LamX.TabB X.base X.mg c P) (hcode : X.env.code = .ref c) (hm : (P, nm) ∈ tb) (hn : nm pos.line pos.col = X.env.qual ++ nd.name) (hu : ∀ p ∈ tb, p.1 = P → p.2 = nm)
    (hnd : NdefX.ndefB X.env.scope (C8.fnScope nd.st) nd.fr = true) (hd0 : (C8.fnArgs nd.st).defaults = []) (hk0 : (C8.fnArgs nd.st).kw_defaults = []) (ha : annTrees (C8.fnArgs nd.st) none X.env = [])
    (hN : X.N.Nodup) (hi : X.N[i]? = some nd.name) (hx : Loc X.env.scope nd.name) (hfn : ∀ y, X.fn y = true) (hjs : js.map (fun j => X.N[j]?) = nd.fr.map some) (hji : i ∉ js) (hia : X.N[ia]? = some xa) (hva : Vis X.env.scope xa) (hne : ia ≠ i)
    (F : ∀ base : Heap, (∀ b o, X.base.get? b = some o → base.get? b = some o) → FnOk X.prog X.w X.K X.mg base CX0 k f fd ps (spM ⟨X.K, X.prog, X.w, base, tb⟩ 2 G)) (hr : Room k X.A) (hg : Gl X x) (hmf : X.mg x = some (.ref f)) (hk : PySem.W.keepIn X.K (.ref f) = true) (hb : Binds X.K fd ps [])
    (d1 : (x == ("__debug__" : Str)) = false := by decide) (d2 : (xa == ("__debug__" : Str)) = false := by decide) (d3 : (xa == ("__classdict__" : Str)) = false := by decide) (d4 : (nd.name == ("__debug__" : Str)) = false := by decide) (d5 : (nd.name == ("__classdict__" : Str)) = false := by decide)
    (a0 : starEach [.Name xa pa, .Name nd.name pq] X.env = (false, eval (.Name xa pa) X.env) :: starEach [.Name nd.name pq] X.env := by rfl) (a1 : starEach [.Name nd.name pq] X.env = (false, eval (.Name nd.name pq) X.env) :: starEach [] X.env := by rfl)
    (hpl : (backTo pc (starEach [.Name nd.name pq] X.env)).any (·.1) = false := by rfl) :
    MSs tb X [nd.st, .Return (some (.Call (.Name x px) [.Name xa pa, .Name nd.name pq] [] pc)) pr] (dretM id nd ia js G) := by
  have hvi : Vis X.env.scope nd.name := hx.elim .inl fun z => .inr (.inl z)
  have hfree := NdefX.ndef_free hnd
  have hfr := NdefX.ndef_fr hnd
  have hD := ps_defX (tb := tb) (i := i) (nm := nm) hst hq TB hcode hm hn hu hfree hd0 hk0 ha hN hi hx (.inl (hfn _))
  refine ⟨fun pins s σ H Dn I h => ?_⟩
  obtain ⟨m, S, γ, fl, γ', S', hS, hγ, e1, q⟩ := h
  unfold dretM at e1
  split at e1
  · rename_i y h1
    split at e1
    · rename_i ws h2
      split at e1
      · rename_i d S2 h3
        cases e1
        have h2' := mapM_slots h2
        -- the call behind the def
        have hP : PE X (.Call (.Name x px) [.Name xa pa, .Name nd.name pq] [] pc) (fun σ H Q => ∃ m γ f0 c', SR (kx tb X) H m S ∧ SLR (kx tb X) H m γ σ ∧ σ[i]? = some (some (.ref f0)) ∧ H f0 = some (NdefX.FnO f0 (nd.nf (cloFrom X.env.cells (C8.fnScope nd.st).names []) c')) ∧ H c' = some (LamX.CodeO c' nd.qual) ∧ f0 ∉ m ∧
            (∀ c q, H c = some (LamX.CodeO c q) → c ≠ f0 ∧ c ∉ m) ∧ γ[ia]? = some (some y) ∧ js.map (fun j => γ[j]?) = ws.map (fun w => some (some w)) ∧ Fin (kx tb X) H m (junkAll S2) d Q) := by
          refine .mk fun pins s σ H Q I h => ?_
          obtain ⟨m, γ, f0, c', hS, hγ, hf0, f1, c1, fm, out, hy, hws, q⟩ := h
          obtain ⟨va, hva1, rya⟩ := hγ.at_ ia _ hy
          have hA : PA X [.Name xa pa, .Name nd.name pq] _ := pa_cons (pe_var (pos := pa) hia hva d2 d3) (pa_cons (pe_var (pos := pq) hi hvi d4 d5) pa_nil a1) a0
          refine wpAny_Call_Name_kw (ld_glob I hg hmf ?_ d1)
          refine PySem.W.callWith_K (h₀ := X.base) I.ok.mod.kin hk (thn (hA.run pc pins s σ H (fun vs H1 => vs = [va, .ref f0] ∧ H1 = H) I ⟨va, hva1, .ref f0, hf0, rfl, rfl⟩) fun us s1 hq => ?_) a0 hpl
          obtain ⟨vs, H1, I1, r, rfl, rfl⟩ := hq
          refine ⟨I1.kIn, ?_⟩
          have cp := NdefX.Caps.made (X := X) (js := js) I1.ok hfree hfr hjs
          have ca := NdefX.cells_of I1 cp
          obtain ⟨vs, ev, rws⟩ := slots_of hγ hws
          rw [ev] at ca
          let cs : List Addr := (cloFrom X.env.cells (C8.fnScope nd.st).names []).map (·.2)
          have hcs : ∀ c ∈ cs, ∃ y, X.env.cells.lookup y = some c := fun c hc => by
            obtain ⟨⟨y, c2⟩, h5, h6⟩ := List.mem_map.mp hc
            cases h6
            rcases cloFrom_mem h5 with z | ⟨z1, z2⟩
            · cases z
            · obtain ⟨c3, hc3⟩ := (hfree _ z1 rfl).elim (fun z => I1.ok.has _ (.inl z)) fun z => I1.ok.has _ (.inr z)
              have hc3 : X.env.cells.lookup y = some c3 := hc3
              refine ⟨y, ?_⟩
              rw [hc3]
              have : c2 = c3 := by rw [z2, hc3] <;> rfl
              show some c3 = some c2
              rw [this]
          have kk := gnd_keep (cs := cs) I1
          have inC : ∀ {y : Str} {c : Addr} {v : Option Value}, (cloFrom X.env.cells (C8.fnScope nd.st).names []).lookup y = some c → s1.heap.IsCell c v → (gnd X.base s1.heap cs).IsCell c v := fun {y c v} e ⟨o, ho, hd⟩ => ⟨o, gnd_get ho (.inr (List.mem_map.mpr ⟨_, PySem.mem_of_lookup e, rfl⟩)), hd⟩
          have ci : CellsIn (gnd X.base s1.heap cs) (cloFrom X.env.cells (C8.fnScope nd.st).names []) nd.fr vs := by
            refine ⟨ca.inj, fun y c e => ?_, by simpa using ca.len, fun j y e => ?_⟩
            · obtain ⟨v, z⟩ := (ca.all y c e).2
              exact ⟨v, inC e z⟩
            · obtain ⟨c, hc, hv⟩ := ca.has j y e
              refine ⟨c, hc, fun v ev2 => ?_⟩
              obtain ⟨u, ru, z⟩ := hv v (by rw [List.getElem?_map, ev2]; rfl)
              exact ⟨u, ru, inC hc z⟩
          have x0 : Ext (kx tb X) H1 m H1 (m ++ [f0]) := ⟨⟨⟨[f0], rfl⟩, fun _ _ z => z, fun _ _ z => z⟩, fun _ _ _ z => z⟩
          have hS2 : SR ⟨X.K, X.prog, X.w, gnd X.base s1.heap cs, tb⟩ H1 (m ++ [f0]) (S ++ [.fn id nd ws]) := by
            have hU : SR ⟨X.K, X.prog, X.w, gnd X.base s1.heap cs, tb⟩ H1 m S := SR.up kk hS
            have kc : ∀ (c : Addr) (x : HO), c ∉ m → c ≠ f0 → H1 c = some x → H1 c = some x ∧ c ∉ m ++ [f0] := fun c x z z2 q => ⟨q, fun y => by
              rcases List.mem_append.mp y with y | y
              · exact z y
              · exact z2 (by simpa using y)⟩
            refine ⟨fun p hp => ?_, by simp [hU.len], ?_, fun n a o e1 e2 => ?_⟩
            · obtain ⟨ps, h1, h2, h3⟩ := hU.tb p hp
              refine ⟨ps, h1, h2, fun pos cv e => ?_⟩
              obtain ⟨c, e1, e2, e3⟩ := h3 pos cv e
              exact ⟨c, e1, (kc _ _ e3 (out _ _ e2).1 e2).1, (kc _ _ e3 (out _ _ e2).1 e2).2⟩
            · rw [List.nodup_append]
              refine ⟨hU.nd, by simp, fun a ha b hb z => ?_⟩
              have : b = f0 := by simpa using hb
              subst this; subst z
              exact fm ha
            · by_cases hn : n < m.length
              · rw [List.getElem?_append_left hn] at e1
                rw [List.getElem?_append_left (by rw [← hU.len]; exact hn)] at e2
                have r := hU.at_ n a o e1 e2
                have x1 : Ext (⟨X.K, X.prog, X.w, gnd X.base s1.heap cs, tb⟩ : Kx) H1 m H1 (m ++ [f0]) := x0.gr
                cases o with
                | lst xs => obtain ⟨vs, q, r⟩ := r; exact ⟨vs, q, r.mono x1⟩
                | dk kvs => obtain ⟨vs, q, r⟩ := r; exact ⟨vs, q, r.mono x1⟩
                | dn lk kvs =>
                  cases lk with
                  | false => obtain ⟨xs, q, r⟩ := r; exact ⟨xs, q, r.mono x1⟩
                  | true => obtain ⟨od, xs, q, r⟩ := r; exact ⟨od, xs, q, r.mono x1⟩
                | ins C fs => obtain ⟨dx, ws, q, r⟩ := r; exact ⟨dx, ws, q, r.mono x1⟩
                | dkl kvs => obtain ⟨od, ws, q, r⟩ := r; exact ⟨od, ws, q, r.mono x1⟩
                | fn i nd ws =>
                  obtain ⟨cl, c, vs, q, r, z, y, w⟩ := r
                  exact ⟨cl, c, vs, q, r, (kc _ _ z (out _ _ r).1 r).2, y, w.mono x1⟩
                | junk => exact r
              · have hn' : m.length ≤ n := Nat.le_of_not_lt hn
                rw [List.getElem?_append_right hn'] at e1
                rw [List.getElem?_append_right (by rw [← hU.len]; exact hn')] at e2
                rw [hU.len] at e1
                cases q : n - S.length with
                | zero =>
                  rw [q] at e1 e2
                  simp at e1 e2
                  subst e1; subst e2
                  have z := out _ _ c1
                  exact ⟨_, c', vs, f1, c1, (kc _ _ z.2 z.1 c1).2, ci, (rws.mono x0).gr⟩
                | succ k =>
                  rw [q] at e1
                  simp at e1
          have F2 := F (gnd X.base s1.heap cs) kk
          have hl : (us ++ []).length = ps.length := by
            rw [List.append_nil, ← r.length]
            refine F2.len [va, .ref f0] H1 Q E0 ⟨m ++ [f0], _, [y, .ref S.length], d, S2, rfl, hS2, ?_, h3, fun w H' m' x hS' hw => ?_⟩
            · exact Rps.cons (rya.mono x0).gr (Rps.one (by rw [Rp]; exact ⟨f0, by rw [← hS.len]; simp, rfl⟩))
            · exact q w H' m' (x0.trans x.gr) (SR.jk hS') hw.gr
          refine wpAny_call (codeAny_mono (F2.run X.A X.stack s1 H1 ⟨us, []⟩ (us ++ []) ([va, .ref f0] ++ []) Q E0 hr (env0_gnd I1 hfn hcs) (hb s1 us I1.kIn hl) (r.append .nil) ⟨m ++ [f0], _, [y, .ref S.length], d, S2, rfl, hS2, ?_, h3, fun w H' m' x hS' hw => ?_⟩) fun r s' hq => ?_)
          · rw [List.append_nil]
            exact Rps.cons (rya.mono x0).gr (Rps.one (by rw [Rp]; exact ⟨f0, by rw [← hS.len]; simp, rfl⟩))
          · exact q w H' m' (x0.trans x.gr) (SR.jk hS') hw.gr
          · cases r with
            | error err => exact False.elim hq
            | ok fl =>
              cases fl with
              | ret u => exact I1.after hq
              | next => exact False.elim hq
              | brk => exact False.elim hq
              | cont => exact False.elim hq
        refine (pss_cons hD (pss_one (ps_ret (pos := pr) hP))).run pins s σ H Dn I ?_
        refine ⟨m, S, γ, hS, hγ, fun f0 c' H1 x1 hS1 f1 c1 fm out => ?_⟩
        have hil : i < σ.length := by
          rw [I.len]
          exact (List.getElem?_eq_some_iff.mp hi).1
        refine ⟨m, γ.set i none, f0, c', hS1, ?_, List.getElem?_set_self hil, f1, c1, fm, out, ?_, ?_, fun w H' m' x2 => q w H' m' (x1.trans x2)⟩
        · have z := hγ.mono x1
          refine ⟨by simp [z.len], fun j dd e => ?_⟩
          by_cases hj : j = i
          · subst hj
            rw [List.getElem?_set] at e
            simp at e
          · rw [List.getElem?_set_ne (Ne.symm hj)] at e
            rw [List.getElem?_set_ne (Ne.symm hj)]
            exact z.at_ j dd e
        · rw [List.getElem?_set_ne (Ne.symm hne)]; exact h1
        · rw [← h2']
          refine List.map_congr_left fun j hj => ?_
          exact List.getElem?_set_ne fun z => hji (by rw [z]; exact hj)
      · cases e1
    · cases e1
  · cases e1
end
end Ml
set_option maxHeartbeats 1000000 -- wide
/-! Ml22: a def that makes defs -/
namespace Ml
open L2 PyProof.Rows PySem PySem.Spec
/-- a def of the text whose code object stands at c -/
structure FunC (K : PySem.W.Frag) (x qual : Str) (st : Stmt) (f : Addr) (fd : FuncData) (c : Addr) : Prop where
  ex : ∃ (oc : Value) (od : Option Addr) (kV doc pm : Value) (an : Option Addr) (ct : Value) (osl : Array (Option Value)),
    fd = PySem.W.fnOf x qual (defArgs st) (defBody st) (defScope st) .none kV doc pm an (.ref c) ct ∧ K.lookup f = some ⟨oc, od, .func fd, osl⟩ ∧ PySem.W.codeIn K (.ref c) qual = true
section
variable {P : Program} {w : World} {K : PySem.W.Frag} {tb : List NdefX.NTab} {mg : Str → Option Value} {base : Heap}
theorem ok_defC {x qual : Str} {st : Stmt} {f c : Addr} {fd : FuncData} {N ps : List Str} {k : Nat} {s : SvM} (F : FunC K x qual st f fd c) (S : FnScope N ps (defScope st)) (hn : ps.length ≤ N.length)
    (hb : ∀ (A : Around) (outer : List Env) (s0 : Shared) (H : Hp) (E : XK), Room k (cxOf CX0 P w K mg base N qual (defScope st) f (.ref c) A outer s0 H E).A → MSs tb (cxOf CX0 P w K mg base N qual (defScope st) f (.ref c) A outer s0 H E).nox (defBody st) s) :
    FnOk P w K mg base CX0 (k + 1) f fd ps (spM ⟨K, P, w, base, tb⟩ ps.length (bodyM N.length s)) := by
  obtain ⟨oc, od, kV, doc, pm, an, ct, osl, rfl, lk, hcd⟩ := F.ex
  refine fn_of lk hcd S (fun vs H Q E h => ?_) fun A outer s0 H vs Q E hr h => ?_
  · obtain ⟨m, S, xs, d, S', h1, _, h2, _⟩ := h
    rw [h2.length, h1]
  · obtain ⟨m, S, xs, d, S', h1, hS, h2, h3, q⟩ := h
    refine ⟨_, (hb A outer s0 H E hr).nox, ?_⟩
    unfold bodyM at h3
    split at h3
    · rename_i d' γ' S1 h4
      cases h3
      exact ⟨m, S, _, .rt d, γ', _, hS, slr_start h2 (by rw [h1]; exact hn), h4, q⟩
    · rename_i γ' S1 h4
      cases h3
      exact ⟨m, S, _, .nx, γ', _, hS, slr_start h2 (by rw [h1]; exact hn), h4, fun σ' H' m' x hS' _ => q _ H' m' x hS' (by rw [Rp])⟩
    · cases h3
end
theorem tabB_keeps {base base' : Heap} {mg : Str → Option Value} {c P : Addr} (k : ∀ b o, base.get? b = some o → base'.get? b = some o) (h : LamX.TabB base mg c P) : LamX.TabB base' mg c P := ⟨h.code.keeps k, h.bm.keeps k, h.gP⟩
/-- the first store -/
theorem sr_nil {K : Kx} {H : Hp} (h : ∀ p ∈ K.t, H p.1 = some (.tbl #[])) : SR K H [] [] := ⟨fun p hp => ⟨#[], h p hp, True.intro, fun pos cv e => by
  have z : codeAmong pos [] = some cv := e
  simp [codeAmong] at z⟩, rfl, List.nodup_nil, fun n a o e => by simp at e⟩
end Ml
set_option maxHeartbeats 1000000 -- wide
/-! Ml23: the end of a law's text that makes defs within defs -/
namespace Ml
open L2 PyProof.Rows PySem PySem.Spec
theorem rps_intsD {K : Kx} {H : Hp} {m : List Addr} : ∀ ns : List Int, Rps K H m (ns.map D.int) (ns.map V.int)
  | [] => Rps.nil
  | n :: ns => Rps.cons (by rw [Rp]) (rps_intsD ns)
/-- what the law is asked -/
def spLaw (K : PySem.W.Frag) (tb : List NdefX.NTab) : Sp := fun vs H Q _ => ∃ (a : Addr) (ns : List Int), vs = [.ref a] ∧ ns.length ≤ 63 ∧ (∀ p ∈ tb, H p.1 = some (.tbl #[])) ∧ SqL K H a (ns.map V.int) ∧ ∀ H', Q (.bl true) H'
section
variable {P : Program} {w : World} {K : PySem.W.Frag} {mg : Str → Option Value} {base : Heap} {tb : List NdefX.NTab}
/-- a list that nobody writes may be locked -/
theorem hok_frz {H : Hp} {h : Heap} {a : Addr} {xs : List V} {o : Obj} (hok : HOk P w H h) (e : H a = some (.lst xs)) (ho : h.get? a = some o) : HOk P w (upd H a (.frz o (.lst xs))) h := by
  have ot : ∀ b u, b ≠ a → H b = some u → upd H a (.frz o (.lst xs)) b = some u := fun b u n z => by rw [upd_ne n]; exact z
  have ho2 : ∀ c b, H b = some (.own c) → upd H a (.frz o (.lst xs)) b = some (.own c) := fun c b z => ot _ _ (fun y => by subst y; rw [e] at z; cases z) z
  have ht : ∀ b ys, H b = some (.tup ys) → upd H a (.frz o (.lst xs)) b = some (.tup ys) := fun b ys z => ot _ _ (fun y => by subst y; rw [e] at z; cases z) z
  intro b u z
  by_cases hb : b = a
  · subst hb
    rw [upd_same] at z
    cases z
    exact ⟨ho, (hok b _ e).stay (fun _ _ _ q => q) (ho2 _) ht⟩
  · rw [upd_ne hb] at z
    exact (hok b u z).stay (fun _ _ _ q => q) (ho2 _) ht
theorem fn_law {k : Nat} {f : Addr} {fd : FuncData} {x : Str} {G : List D → Sto → Option (D × Sto)} (F : FnOk P w K mg base CX0 k f fd [x] (spM ⟨K, P, w, base, tb⟩ 1 G)) (good : ∀ ns : List Int, ns.length ≤ 63 → ∃ S, G [.rl (ns.map D.int)] [] = some (.bl true, S)) :
    FnOk P w K mg base CX0 k f fd [x] (spLaw K tb) := by
  refine ⟨fun vs H Q E h => ?_, fun A outer s H args us vs Q E hr e0 hb r h => ?_⟩
  · obtain ⟨a, ns, rfl, _⟩ := h; rfl
  · obtain ⟨a, ns, rfl, hl, hT, hS, q⟩ := h
    obtain ⟨S, e⟩ := good ns hl
    have go : ∀ H' : Hp, (∀ p ∈ tb, H' p.1 = some (.tbl #[])) → RoL K H' a (ns.map V.int) → spM ⟨K, P, w, base, tb⟩ 1 G [.ref a] H' Q E := fun H' hT' hr' => by
      refine ⟨[], [], _, _, S, rfl, sr_nil hT', Rps.one (by rw [Rp]; exact ⟨a, _, rfl, hr', rps_intsD ns⟩), e, fun v H'' m' _ _ hv => ?_⟩
      rw [Rp] at hv
      subst hv
      exact q H''
    rcases hS with (h1 | ⟨o, h1⟩) | h1
    · obtain ⟨ob, ho⟩ : ∃ ob : Obj, s.heap.get? a = some ob := by
        obtain ⟨_, its, n, _, ho⟩ := e0.hok a _ h1
        exact ⟨_, ho⟩
      have nb : ∀ b, H b = none → b ≠ a := fun b z y => by subst y; rw [h1] at z; cases z
      have hT2 : ∀ p ∈ tb, upd H a (.frz ob (.lst (ns.map V.int))) p.1 = some (.tbl #[]) := fun p hp => by
        rw [upd_ne fun y => by have := hT p hp; rw [y, h1] at this; cases this]
        exact hT p hp
      have e1 : Env0 P w K mg base A outer s (upd H a (.frz ob (.lst (ns.map V.int)))) := ⟨e0.frames, e0.mod, fun b o z => ⟨(e0.bs b o z).1, by rw [upd_ne (nb b (e0.bs b o z).2)]; exact (e0.bs b o z).2⟩, e0.bsz, e0.funs,
        fun b z => by rw [upd_ne (nb b (e0.frf b z))]; exact e0.frf b z, hok_frz e0.hok h1 ho, e0.bare⟩
      refine codeAny_mono (F.run A outer s _ args us [.ref a] Q E hr e1 hb r (go _ hT2 (.inl ⟨_, upd_same⟩))) fun res s' hres => ?_
      cases res with
      | error e => exact hres
      | ok fl =>
        cases fl with
        | ret u =>
          obtain ⟨v, H', os, bare, un, hok, rv, qq⟩ := hres
          have ot : ∀ b (u : HO), H b = some u → u ≠ .lst (ns.map V.int) → upd H a (.frz ob (.lst (ns.map V.int))) b = some u := fun b u z n => by
            rw [upd_ne fun y => by subst y; rw [h1] at z; cases z; exact n rfl]; exact z
          have no : ∀ b, H b = none → upd H a (.frz ob (.lst (ns.map V.int))) b = none := fun b z => by rw [upd_ne (nb b z)]; exact z
          exact ⟨v, H', os, bare, ⟨fun b o z n => un.keep b o z (no b n), fun b o z n => un.slot b o z (no b n), fun b o z n => un.free b o z (no b n), un.there,
            fun b ys z => un.tups b ys (ot _ _ z fun y => by cases y), fun b o u z => un.frzs b o u (ot _ _ z fun y => by cases y), fun b ps z => un.tbls b ps (ot _ _ z fun y => by cases y)⟩, hok, rv, qq⟩
        | next => exact hres
        | brk => exact hres
        | cont => exact hres
    · exact F.run A outer s H args us [.ref a] Q E hr e0 hb r (go H hT (.inl ⟨o, h1⟩))
    · exact F.run A outer s H args us [.ref a] Q E hr e0 hb r (go H hT (.inr fun _ => .inr h1))
end
end Ml
/-! Mw: what must hold for a piece to compute a value with a wanted property; one rule for each piece. -/
namespace Ml
open L2 PyProof.Rows PySem PySem.Spec
structure wE (e : EvM) (γ : Sl) (S : Sto) (Q : D → Sto → Prop) : Prop where
  ex : ∃ d S', e γ S = some (d, S') ∧ Q d S'
structure wC (c : CvM) (γ : Sl) (S : Sto) (Q : Bool → Sto → Prop) : Prop where
  ex : ∃ d S', c γ S = some (d, S') ∧ Q d S'
structure wA (r : AvM) (γ : Sl) (S : Sto) (Q : List D → Sto → Prop) : Prop where
  ex : ∃ d S', r γ S = some (d, S') ∧ Q d S'
structure wO (r : OvM) (γ : Sl) (S : Sto) (Q : Option Int → Sto → Prop) : Prop where
  ex : ∃ d S', r γ S = some (d, S') ∧ Q d S'
structure wI (r : IvM) (γ : Sl) (S : Sto) (Q : Option (Nat × O) → List D → Sto → Prop) : Prop where
  ex : ∃ ck xs S', r γ S = some (ck, xs, S') ∧ Q ck xs S'
structure wG (g : TvM) (d : D) (γ : Sl) (S : Sto) (Q : Sl → Sto → Prop) : Prop where
  ex : ∃ γ' S', g d γ S = some (γ', S') ∧ Q γ' S'
structure wGs (g : List D → Sl → Sto → Option (Sl × Sto)) (d : List D) (γ : Sl) (S : Sto) (Q : Sl → Sto → Prop) : Prop where
  ex : ∃ γ' S', g d γ S = some (γ', S') ∧ Q γ' S'
structure wS (s : SvM) (γ : Sl) (S : Sto) (Q : Fl → Sl → Sto → Prop) : Prop where
  ex : ∃ f γ' S', s γ S = some (f, γ', S') ∧ Q f γ' S'
structure w1 (F : List D → Sto → Option (D × Sto)) (xs : List D) (S : Sto) (Q : D → Sto → Prop) : Prop where
  ex : ∃ d S', F xs S = some (d, S') ∧ Q d S'
structure w2 (F : D → D → Sto → Option (D × Sto)) (x y : D) (S : Sto) (Q : D → Sto → Prop) : Prop where
  ex : ∃ d S', F x y S = some (d, S') ∧ Q d S'
structure wM (F : D → List D → Sto → Option (D × Sto)) (x : D) (xs : List D) (S : Sto) (Q : D → Sto → Prop) : Prop where
  ex : ∃ d S', F x xs S = some (d, S') ∧ Q d S'
structure wFor (ck : Option (Nat × O)) (g : TvM) (b : SvM) (xs : List D) (γ : Sl) (S : Sto) (Q : Fl → Sl → Sto → Prop) : Prop where
  ex : ∃ f γ' S', forI ck g b xs γ S = some (f, γ', S') ∧ Q f γ' S'
structure wWh (c : CvM) (b : SvM) (n : Nat) (γ : Sl) (S : Sto) (Q : Fl → Sl → Sto → Prop) : Prop where
  ex : ∃ f γ' S', whileN c b n γ S = some (f, γ', S') ∧ Q f γ' S'
structure wK (ck : Option (Nat × O)) (tgt : Tgt) (t : CvM) (e : EvM) (γ : Sl) (n : Nat) (xs : List D) (S : Sto) (Q : Sto → Prop) : Prop where
  ex : ∃ S', compI ck tgt t e γ n xs S = some S' ∧ Q S'
structure wK2 (ck : Option (Nat × O)) (tgt : Tgt) (t : CvM) (iv1 : IvM) (tgt1 : Tgt) (t1 : CvM) (e : EvM) (γ : Sl) (vs1 : List Nat) (n : Nat) (xs : List D) (S : Sto) (Q : Sto → Prop) : Prop where
  ex : ∃ S', comp2I ck tgt t iv1 tgt1 t1 e γ vs1 n xs S = some S' ∧ Q S'
/-- a value of one form, and what is wanted then -/
structure isBl (d : D) (Q : Bool → Prop) : Prop where
  ex : ∃ b, d = .bl b ∧ Q b
structure isInt (d : D) (Q : Int → Prop) : Prop where
  ex : ∃ b, d = .int b ∧ Q b
structure isStr (d : D) (Q : Str → Prop) : Prop where
  ex : ∃ b, d = .str b ∧ Q b
structure isTup (d : D) (Q : List D → Prop) : Prop where
  ex : ∃ b, d = .tup b ∧ Q b
structure isRef (d : D) (Q : Nat → Prop) : Prop where
  ex : ∃ b, d = .ref b ∧ Q b
structure iff2 (b : Bool) (P Q : Prop) : Prop where
  ex : (b = true → P) ∧ (b = false → Q)
/-- a test's truth -/
structure tru (S : Sto) (d : D) (Q : Bool → Prop) : Prop where
  ex : ∃ b, truB S d = some b ∧ Q b
structure sq (d : D) (S : Sto) (Q : Option (Nat × O) → List D → Sto → Prop) : Prop where
  ex : (∃ xs, d = .tup xs ∧ Q none xs S) ∨ ∃ (n : Nat) (xs : List D), d = .ref n ∧ S[n]? = some (.lst xs) ∧ Q (some (n, .lst xs)) xs S
section
variable {γ : Sl} {S : Sto} {e ea eb ec : EvM} {c c1 c2 : CvM} {r ra rk : AvM} {Q : D → Sto → Prop} {d x y : D}
theorem wE.mono {Q' : D → Sto → Prop} (h : wE e γ S Q) (i : ∀ d S, Q d S → Q' d S) : wE e γ S Q' := let ⟨d, S', a, b⟩ := h; ⟨d, S', a, i _ _ b⟩
theorem w1.mono {F} {xs : List D} {Q' : D → Sto → Prop} (h : w1 F xs S Q) (i : ∀ d S, Q d S → Q' d S) : w1 F xs S Q' := let ⟨d, S', a, b⟩ := h; ⟨d, S', a, i _ _ b⟩
theorem bl_i {b} {Q : Bool → Prop} (h : Q b) : isBl (.bl b) Q := ⟨b, rfl, h⟩
theorem int_i {b} {Q : Int → Prop} (h : Q b) : isInt (.int b) Q := ⟨b, rfl, h⟩
theorem str_i {b} {Q : Str → Prop} (h : Q b) : isStr (.str b) Q := ⟨b, rfl, h⟩
theorem tup_i {b} {Q : List D → Prop} (h : Q b) : isTup (.tup b) Q := ⟨b, rfl, h⟩
theorem ref_i {b} {Q : Nat → Prop} (h : Q b) : isRef (.ref b) Q := ⟨b, rfl, h⟩
theorem iff_t {P Q : Prop} (h : P) : iff2 true P Q := ⟨fun _ => h, fun z => by cases z⟩
theorem iff_f {P Q : Prop} (h : Q) : iff2 false P Q := ⟨fun z => (by cases z), fun _ => h⟩
theorem iff_d {p : Prop} [Decidable p] {P Q : Prop} (h : p → P) (h' : ¬ p → Q) : iff2 (decide p) P Q := ⟨fun z => h (of_decide_eq_true z), fun z => h' (of_decide_eq_false z)⟩
theorem iff_b {b : Bool} {P Q : Prop} (h : b = true → P) (h' : b = false → Q) : iff2 b P Q := ⟨h, h'⟩
theorem iff_n {b : Bool} {P Q : Prop} (h : iff2 b Q P) : iff2 (!b) P Q := by cases b; exact iff_t (h.ex.2 rfl); exact iff_f (h.ex.1 rfl)
theorem v_var {i : Nat} (h : γ[i]? = some (some d)) (q : Q d S) : wE (varM i) γ S Q := ⟨d, S, by unfold varM; rw [h], q⟩
theorem v_con (q : Q d S) : wE (conM d) γ S Q := ⟨d, S, rfl, q⟩
theorem v_bin {F} (h : wE ea γ S fun x S1 => wE eb γ S1 fun y S2 => w2 F x y S2 Q) : wE (binM F ea eb) γ S Q := by
  obtain ⟨x, S1, e1, y, S2, e2, d, S3, e3, q⟩ := h
  exact ⟨d, S3, by unfold binM; simp only [e1, e2, e3], q⟩
theorem v_app {F} (h : wA r γ S fun xs S1 => w1 F xs S1 Q) : wE (appM F r) γ S Q := by
  obtain ⟨x, S1, e1, d, S3, e3, q⟩ := h
  exact ⟨d, S3, by unfold appM; simp only [e1, e3], q⟩
theorem v_call {F n} (h : wA r γ S fun xs S1 => xs.length = n ∧ w1 F xs S1 Q) : wE (callM n F r) γ S Q := by
  obtain ⟨x, S1, e1, hn, d, S3, e3, q⟩ := h
  exact ⟨d, S3, by unfold callM; simp only [e1, if_pos hn, e3], q⟩
theorem v_tup (h : wA r γ S fun xs S1 => xs.length ≤ sizeLine ∧ Q (.tup xs) S1) : wE (tupM r) γ S Q := by
  obtain ⟨x, S1, e1, hn, q⟩ := h
  exact ⟨_, S1, by unfold tupM; simp only [e1, if_pos hn], q⟩
theorem v_lst (h : wA r γ S fun xs S1 => xs.length ≤ sizeLine ∧ Q (.ref S1.length) (S1 ++ [.lst xs])) : wE (lstM r) γ S Q := by
  obtain ⟨x, S1, e1, hn, q⟩ := h
  exact ⟨_, _, by unfold lstM; simp only [e1, if_pos hn], q⟩
theorem v_neg (h : wE e γ S fun d S1 => isInt d fun i => Q (.int (-i)) S1) : wE (negM e) γ S Q := by
  obtain ⟨x, S1, e1, i, rfl, q⟩ := h
  exact ⟨_, _, by unfold negM; simp only [e1], q⟩
theorem v_if (h : wC c γ S fun b S1 => iff2 b (wE ea γ S1 Q) (wE eb γ S1 Q)) : wE (ifM c ea eb) γ S Q := by
  obtain ⟨b, S1, e1, h1, h2⟩ := h
  cases b with
  | true => obtain ⟨d, S2, e2, q⟩ := h1 rfl; exact ⟨d, S2, by unfold ifM; simp only [e1, e2], q⟩
  | false => obtain ⟨d, S2, e2, q⟩ := h2 rfl; exact ⟨d, S2, by unfold ifM; simp only [e1, e2], q⟩
theorem v_and (h : wE ea γ S fun d S1 => isBl d fun b => iff2 b (wE eb γ S1 Q) (Q (.bl false) S1)) : wE (andV ea eb) γ S Q := by
  obtain ⟨b, S1, e1, b, rfl, h1, h2⟩ := h
  cases b with
  | true => obtain ⟨d, S2, e2, q⟩ := h1 rfl; exact ⟨d, S2, by unfold andV; simp only [e1, e2], q⟩
  | false => exact ⟨_, _, by unfold andV; simp only [e1], h2 rfl⟩
theorem v_or (h : wE ea γ S fun d S1 => isBl d fun b => iff2 b (Q (.bl true) S1) (wE eb γ S1 Q)) : wE (orV ea eb) γ S Q := by
  obtain ⟨b, S1, e1, b, rfl, h1, h2⟩ := h
  cases b with
  | false => obtain ⟨d, S2, e2, q⟩ := h2 rfl; exact ⟨d, S2, by unfold orV; simp only [e1, e2], q⟩
  | true => exact ⟨_, _, by unfold orV; simp only [e1], h1 rfl⟩
theorem v_not (h : wE ea γ S fun d S1 => isBl d fun b => Q (.bl (!b)) S1) : wE (notV ea) γ S Q := by
  obtain ⟨b, S1, e1, b, rfl, h1⟩ := h
  exact ⟨_, _, by unfold notV; simp only [e1], h1⟩
structure tyQ (T : String) (S : Sto) (d : D) (Q : Bool → Prop) : Prop where
  ex : ∃ t b, tyN S d = some t ∧ kitB t T = some b ∧ Q b
theorem v_isi {T} (h : wE ea γ S fun d S1 => tyQ T S1 d fun b => Q (.bl b) S1) : wE (isiM T ea) γ S Q := by
  obtain ⟨d, S1, e1, t, b, e2, e3, q⟩ := h
  exact ⟨_, _, by unfold isiM; simp only [e1, e2, e3], q⟩
theorem v_met {T F} {eo} (h : wE eo γ S fun x S1 => tyB T S1 x = true ∧ wA ra γ S1 fun xs S2 => wM F x xs S2 Q) : wE (metM T F eo ra) γ S Q := by
  obtain ⟨d, S1, e1, ht, xs, S2, e2, d2, S3, e3, q⟩ := h
  exact ⟨_, _, by unfold metM; simp only [e1, e2, e3, if_pos ht], q⟩
structure slQ (x : D) (lo hi : Option Int) (S : Sto) (Q : D → Sto → Prop) : Prop where
  ex : ∃ d S', slF x lo hi S = some (d, S') ∧ Q d S'
theorem v_sl {l h : OvM} (q : wE ea γ S fun x S1 => wO l γ S1 fun lo S2 => wO h γ S2 fun hi S3 => slQ x lo hi S3 Q) : wE (slM ea l h) γ S Q := by
  obtain ⟨d, S1, e1, lo, S2, e2, hi, S3, e3, d', S4, e4, q⟩ := q
  exact ⟨_, _, by unfold slM; simp only [e1, e2, e3, e4], q⟩
theorem sl_t {xs lo hi} (q : Q (.tup (cutX xs lo hi)) S) : slQ (.tup xs) lo hi S Q := ⟨_, _, rfl, q⟩
theorem sl_l {n xs lo hi} (h : S[n]? = some (.lst xs)) (q : Q (.ref S.length) (S ++ [.lst (cutX xs lo hi)])) : slQ (.ref n) lo hi S Q := ⟨_, _, by unfold slF; simp only [h], q⟩
theorem v_lrev (h : wE ea γ S fun d S1 => isRef d fun n => ∃ xs, S1[n]? = some (.lst xs) ∧ Q (.ref S1.length) (S1 ++ [.lst xs.reverse])) : wE (lrevM ea) γ S Q := by
  obtain ⟨d, S1, e1, n, rfl, xs, e2, q⟩ := h
  exact ⟨_, _, by unfold lrevM revM; simp only [e1, e2], q⟩
theorem v_revT (h : wE ea γ S fun d S1 => isTup d fun xs => Q (.tup xs.reverse) S1) : wE (revTM ea) γ S Q := by
  obtain ⟨d, S1, e1, xs, rfl, q⟩ := h
  exact ⟨_, _, by unfold revTM; simp only [e1], q⟩
theorem v_comp {iv tgt t vs} (h : wI iv γ S fun ck xs S1 => wK ck tgt t e (wipeD γ vs) S1.length xs (S1 ++ [.lst []]) fun S2 => Q (.ref S1.length) S2) : wE (compM iv tgt t e vs) γ S Q := by
  obtain ⟨ck, xs, S1, e1, S2, e2, q⟩ := h
  exact ⟨_, _, by unfold compM; simp only [e1, e2], q⟩
theorem v_comp2 {iv tgt t vs iv1 tgt1 t1 vs1} (h : wI iv γ S fun ck xs S1 => wK2 ck tgt t iv1 tgt1 t1 e (wipeD γ vs) vs1 S1.length xs (S1 ++ [.lst []]) fun S2 => Q (.ref S1.length) S2) : wE (comp2M iv tgt t iv1 tgt1 t1 e vs vs1) γ S Q := by
  obtain ⟨ck, xs, S1, e1, S2, e2, q⟩ := h
  exact ⟨_, _, by unfold comp2M; simp only [e1, e2], q⟩
theorem v_getOr {eo ee ef : EvM} (h : wE eo γ S fun d S1 => isRef d fun n => ∃ lk kvs, S1[n]? = some (.dn lk kvs) ∧ wE ee γ S1 fun k S2 => isTup k fun ks => wE ef γ S2 fun x S3 => ∃ lk' kvs' kk, S3[n]? = some (.dn lk' kvs') ∧ keyN ks = some kk ∧ Q ((lookN kvs' kk).getD x) S3) : wE (getOrM eo ee ef) γ S Q := by
  obtain ⟨d, S1, e1, n, rfl, lk, kvs, e2, k, S2, e3, ks, rfl, x, S3, e4, lk', kvs', kk, e5, e6, q⟩ := h
  exact ⟨_, _, by unfold getOrM; simp only [e1, e2, e3, e4, e5, e6], q⟩
theorem v_cget {tbl} {ee ef : EvM} (h : wE ee γ S fun d S1 => isStr d fun z => wE ef γ S1 fun x S2 => ∃ r, tbl.lookup z = some r ∧ Q (r.getD x) S2) : wE (cgetM tbl ee ef) γ S Q := by
  obtain ⟨d, S1, e1, z, rfl, x, S2, e2, r, e3, q⟩ := h
  exact ⟨_, _, by unfold cgetM; simp only [e1, e2, e3], q⟩
theorem v_newD (q : Q (.ref S.length) (S ++ [.dn false []])) : wE newD γ S Q := ⟨_, _, rfl, q⟩
/-- an item of a list told on the spot -/
theorem v_pick (h : wA r γ S fun xs S1 => xs.length ≤ sizeLine ∧ wE e γ (S1 ++ [.lst xs]) fun d S2 => isInt d fun i => S2[S1.length]? = some (.lst xs) ∧ ∃ x, atI xs i = some x ∧ Q x S2) : wE (binM ixF (lstM r) e) γ S Q := by
  obtain ⟨xs, S1, e1, hl, d, S2, e2, i, rfl, e3, x, e4, q⟩ := h
  exact ⟨_, _, by unfold binM lstM; simp only [e1, if_pos hl, e2]; unfold ixF; simp only [e3, e4], q⟩
theorem c_tst {Q : Bool → Sto → Prop} (h : wE e γ S fun d S1 => isBl d fun b => Q b S1) : wC (tstM e) γ S Q := by
  obtain ⟨d, S1, e1, b, rfl, q⟩ := h
  exact ⟨b, S1, by unfold tstM; simp only [e1], q⟩
theorem c_tru {Q : Bool → Sto → Prop} (h : wE e γ S fun d S1 => tru S1 d fun b => Q b S1) : wC (truC e) γ S Q := by
  obtain ⟨d, S1, e1, b, e2, q⟩ := h
  exact ⟨b, S1, by unfold truC; simp only [e1, e2], q⟩
theorem c_not {Q : Bool → Sto → Prop} (h : wC c γ S fun b S1 => Q (!b) S1) : wC (notC c) γ S Q := by
  obtain ⟨b, S1, e1, q⟩ := h
  exact ⟨_, S1, by unfold notC; simp only [e1], q⟩
theorem c_and {Q : Bool → Sto → Prop} (h : wC c1 γ S fun b S1 => iff2 b (wC c2 γ S1 Q) (Q false S1)) : wC (andC c1 c2) γ S Q := by
  obtain ⟨b, S1, e1, h1, h2⟩ := h
  cases b with
  | true => obtain ⟨d, S2, e2, q⟩ := h1 rfl; exact ⟨d, S2, by unfold andC; simp only [e1, e2], q⟩
  | false => exact ⟨_, _, by unfold andC; simp only [e1], h2 rfl⟩
theorem c_or {Q : Bool → Sto → Prop} (h : wC c1 γ S fun b S1 => iff2 b (Q true S1) (wC c2 γ S1 Q)) : wC (orC c1 c2) γ S Q := by
  obtain ⟨b, S1, e1, h1, h2⟩ := h
  cases b with
  | false => obtain ⟨d, S2, e2, q⟩ := h2 rfl; exact ⟨d, S2, by unfold orC; simp only [e1, e2], q⟩
  | true => exact ⟨_, _, by unfold orC; simp only [e1], h1 rfl⟩
theorem c_yes {Q : Bool → Sto → Prop} (q : Q true S) : wC yesC γ S Q := ⟨_, _, rfl, q⟩
theorem tru_bl {b} {Q : Bool → Prop} (q : Q b) : tru S (.bl b) Q := ⟨_, rfl, q⟩
theorem tru_tup {xs} {Q : Bool → Prop} (q : Q (!xs.isEmpty)) : tru S (.tup xs) Q := ⟨_, rfl, q⟩
theorem tru_lst {n xs} {Q : Bool → Prop} (h : S[n]? = some (.lst xs)) (q : Q (!xs.isEmpty)) : tru S (.ref n) Q := ⟨_, by unfold truB; simp only [h], q⟩
theorem a_nil {Q : List D → Sto → Prop} (q : Q [] S) : wA nilA γ S Q := ⟨_, _, rfl, q⟩
theorem a_cons {Q : List D → Sto → Prop} (h : wE e γ S fun x S1 => wA r γ S1 fun xs S2 => Q (x :: xs) S2) : wA (consA e r) γ S Q := by
  obtain ⟨x, S1, e1, xs, S2, e2, q⟩ := h
  exact ⟨_, _, by unfold consA; simp only [e1, e2], q⟩
theorem o_no {Q : Option Int → Sto → Prop} (q : Q none S) : wO noM γ S Q := ⟨_, _, rfl, q⟩
theorem o_part {Q : Option Int → Sto → Prop} (h : wE e γ S fun d S1 => isInt d fun i => Q (some i) S1) : wO (partM e) γ S Q := by
  obtain ⟨x, S1, e1, i, rfl, q⟩ := h
  exact ⟨_, _, by unfold partM; simp only [e1], q⟩
theorem i_seq {Q : Option (Nat × O) → List D → Sto → Prop} (h : wE e γ S fun d S1 => sq d S1 Q) : wI (seqI e) γ S Q := by
  obtain ⟨d, S1, e1, ⟨⟨xs, rfl, q⟩ | ⟨n, xs, rfl, e2, q⟩⟩⟩ := h
  · exact ⟨_, _, S1, by unfold seqI; simp only [e1], q⟩
  · exact ⟨_, _, S1, by unfold seqI; simp only [e1, e2], q⟩
theorem sq_tup {xs} {Q : Option (Nat × O) → List D → Sto → Prop} (q : Q none xs S) : sq (.tup xs) S Q := ⟨.inl ⟨xs, rfl, q⟩⟩
theorem sq_lst {n xs} {Q : Option (Nat × O) → List D → Sto → Prop} (h : S[n]? = some (.lst xs)) (q : Q (some (n, .lst xs)) xs S) : sq (.ref n) S Q := ⟨.inr ⟨n, xs, rfl, h, q⟩⟩
structure one1 (xs : List D) (Q : Int → Prop) : Prop where
  ex : ∃ i, xs = [.int i] ∧ Q i
theorem one_i {i} {Q : Int → Prop} (q : Q i) : one1 [.int i] Q := ⟨_, rfl, q⟩
theorem i_rng1 {Q : Option (Nat × O) → List D → Sto → Prop} (h : wA r γ S fun xs S1 => one1 xs fun j => (-(2 ^ 62) ≤ j ∧ j < 2 ^ 62) ∧ Q none (rngD 0 j.toNat) S1) : wI (rng1I r) γ S Q := by
  obtain ⟨xs, S1, e1, j, rfl, hj, q⟩ := h
  exact ⟨_, _, S1, by unfold rng1I; simp only [e1, if_pos hj], q⟩
theorem i_rngD {Q : Option (Nat × O) → List D → Sto → Prop} (h : wA r γ S fun xs S1 => ∃ i j, xs = [.int i, .int j, .int (-1)] ∧ (-(2 ^ 62) ≤ i ∧ i < 2 ^ 62 ∧ -(2 ^ 62) ≤ j ∧ j < 2 ^ 62) ∧ Q none (rngDown i (i - j).toNat) S1) : wI (rngDI r) γ S Q := by
  obtain ⟨xs, S1, e1, i, j, rfl, hj, q⟩ := h
  exact ⟨_, _, S1, by unfold rngDI; simp only [e1, true_and, if_pos hj], q⟩
theorem i_keys {Q : Option (Nat × O) → List D → Sto → Prop} (h : wE e γ S fun d S1 => isRef d fun n => ∃ kvs, S1[n]? = some (.dn true kvs) ∧ Q (some (n, .dn true kvs)) (kvs.map (·.1)) S1) : wI (keysI e) γ S Q := by
  obtain ⟨d, S1, e1, n, rfl, kvs, e2, q⟩ := h
  exact ⟨_, _, S1, by unfold keysI; simp only [e1, e2], q⟩
theorem g_name {i} {Q : Sl → Sto → Prop} (q : Q (γ.set i (some d)) S) : wG (nameG i) d γ S Q := ⟨_, _, rfl, q⟩
theorem g_tup {n g} {xs : List D} {Q : Sl → Sto → Prop} (h : xs.length = n) (q : wGs g xs γ S Q) : wG (tupG n g) (.tup xs) γ S Q := by
  obtain ⟨γ', S', e1, q⟩ := q
  exact ⟨_, _, by unfold tupG; simp only [if_pos h, e1], q⟩
theorem gs_nil {Q : Sl → Sto → Prop} (q : Q γ S) : wGs nilG [] γ S Q := ⟨_, _, rfl, q⟩
theorem gs_cons {g gr} {xs : List D} {Q : Sl → Sto → Prop} (q : wG g d γ S fun γ' S' => wGs gr xs γ' S' Q) : wGs (consG g gr) (d :: xs) γ S Q := by
  obtain ⟨γ', S', e1, γ2, S2, e2, q⟩ := q
  exact ⟨_, _, by unfold consG; simp only [e1, e2], q⟩
theorem g_subL {eo ei : EvM} {Q : Sl → Sto → Prop} (h : wE eo γ S fun x S1 => isRef x fun n => wE ei γ S1 fun y S2 => isInt y fun k => ∃ xs, S2[n]? = some (.lst xs) ∧ ∃ j, ixN xs.length k = some j ∧ Q γ (S2.set n (.lst (xs.set j d)))) : wG (subL eo ei) d γ S Q := by
  obtain ⟨x, S1, e1, n, rfl, y, S2, e2, k, rfl, xs, e3, j, e4, q⟩ := h
  exact ⟨_, _, by unfold subL; simp only [e1, e2, e3, e4], q⟩
theorem g_subD {eo ei : EvM} {Q : Sl → Sto → Prop} (h : wE eo γ S fun x S1 => isRef x fun n => wE ei γ S1 fun y S2 => isTup y fun ks => ∃ kvs, S2[n]? = some (.dn false kvs) ∧ ∃ k, keyN ks = some k ∧ kvs.length < sizeLine ∧ Q γ (S2.set n (.dn false (setN kvs (.tup ks) k d)))) : wG (subD eo ei) d γ S Q := by
  obtain ⟨x, S1, e1, n, rfl, y, S2, e2, ks, rfl, kvs, e3, k, e4, hl, q⟩ := h
  exact ⟨_, _, by unfold subD; simp only [e1, e2, e3, e4, if_pos hl], q⟩
end
section
variable {γ : Sl} {S : Sto} {e ea eb ec : EvM} {c : CvM} {s t b : SvM} {Q : Fl → Sl → Sto → Prop} {d x y : D}
inductive thenQ (t : SvM) (Q : Fl → Sl → Sto → Prop) : Fl → Sl → Sto → Prop
  | nx {γ1 : Sl} {S1 : Sto} (h : wS t γ1 S1 Q) : thenQ t Q .nx γ1 S1
  | rt {d1 : D} {γ1 : Sl} {S1 : Sto} (h : Q (.rt d1) γ1 S1) : thenQ t Q (.rt d1) γ1 S1
  | bk {γ1 : Sl} {S1 : Sto} (h : Q .bk γ1 S1) : thenQ t Q .bk γ1 S1
  | ct {γ1 : Sl} {S1 : Sto} (h : Q .ct γ1 S1) : thenQ t Q .ct γ1 S1
theorem wS.mono {Q' : Fl → Sl → Sto → Prop} (h : wS s γ S Q) (i : ∀ f γ S, Q f γ S → Q' f γ S) : wS s γ S Q' := let ⟨f, γ', S', a, b⟩ := h; ⟨f, γ', S', a, i _ _ _ b⟩
theorem th_nx (h : wS t γ S Q) : thenQ t Q .nx γ S := .nx h
theorem th_rt (h : Q (.rt d) γ S) : thenQ t Q (.rt d) γ S := .rt h
theorem th_bk (h : Q .bk γ S) : thenQ t Q .bk γ S := .bk h
theorem th_ct (h : Q .ct γ S) : thenQ t Q .ct γ S := .ct h
theorem s_seq (h : wS s γ S (thenQ t Q)) : wS (seqM s t) γ S Q := by
  obtain ⟨f, γ', S', e1, q⟩ := h
  cases f with
  | nx => cases q with | nx q => obtain ⟨f, γ2, S2, e2, q⟩ := q; exact ⟨f, γ2, S2, by unfold seqM; simp only [e1, e2], q⟩
  | rt d => cases q with | rt q => exact ⟨_, _, _, by unfold seqM; simp only [e1], q⟩
  | bk => cases q with | bk q => exact ⟨_, _, _, by unfold seqM; simp only [e1], q⟩
  | ct => cases q with | ct q => exact ⟨_, _, _, by unfold seqM; simp only [e1], q⟩
theorem s_nx (q : Q .nx γ S) : wS nxM γ S Q := ⟨_, _, _, rfl, q⟩
theorem s_bk (q : Q .bk γ S) : wS bkM γ S Q := ⟨_, _, _, rfl, q⟩
theorem s_ct (q : Q .ct γ S) : wS ctM γ S Q := ⟨_, _, _, rfl, q⟩
theorem s_rtN (q : Q (.rt .non) γ S) : wS rtN γ S Q := ⟨_, _, _, rfl, q⟩
theorem s_ex (h : wE e γ S fun _ S1 => Q .nx γ S1) : wS (exM e) γ S Q := by
  obtain ⟨d, S1, e1, q⟩ := h
  exact ⟨_, _, _, by unfold exM; simp only [e1], q⟩
theorem s_rt (h : wE e γ S fun d S1 => Q (.rt d) γ S1) : wS (rtM e) γ S Q := by
  obtain ⟨d, S1, e1, q⟩ := h
  exact ⟨_, _, _, by unfold rtM; simp only [e1], q⟩
theorem s_if (h : wC c γ S fun b S1 => iff2 b (wS s γ S1 Q) (wS t γ S1 Q)) : wS (ifS c s t) γ S Q := by
  obtain ⟨b, S1, e1, h1, h2⟩ := h
  cases b with
  | true => obtain ⟨f, γ2, S2, e2, q⟩ := h1 rfl; exact ⟨f, γ2, S2, by unfold ifS; simp only [e1, e2], q⟩
  | false => obtain ⟨f, γ2, S2, e2, q⟩ := h2 rfl; exact ⟨f, γ2, S2, by unfold ifS; simp only [e1, e2], q⟩
theorem s_asg {g} (h : wE ea γ S fun d S1 => wG g d γ S1 fun γ' S2 => Q .nx γ' S2) : wS (asgM ea g) γ S Q := by
  obtain ⟨d, S1, e1, γ', S2, e2, q⟩ := h
  exact ⟨_, _, _, by unfold asgM; simp only [e1, e2], q⟩
theorem s_aug {i F} (hx : γ[i]? = some (some x)) (h : wE ea γ S fun y S1 => w2 F x y S1 fun d S2 => Q .nx (γ.set i (some d)) S2) : wS (augM i F ea) γ S Q := by
  obtain ⟨y, S1, e1, d, S2, e2, q⟩ := h
  exact ⟨_, _, _, by unfold augM; simp only [hx, e1, e2], q⟩
theorem s_for {iv g} (h : wI iv γ S fun ck xs S1 => wFor ck g b xs γ S1 Q) : wS (forM iv g b) γ S Q := by
  obtain ⟨ck, xs, S1, e1, f, γ', S', e2, q⟩ := h
  exact ⟨_, _, _, by unfold forM; simp only [e1, e2], q⟩
theorem s_while (h : wWh c b turns γ S Q) : wS (whileM c b) γ S Q := let ⟨f, γ', S', e, q⟩ := h; ⟨f, γ', S', e, q⟩
/-- a for loop: what holds ahead of each turn, told by what is still to be walked -/
inductive turnQ (I : Sl → Sto → Prop) (Q : Fl → Sl → Sto → Prop) : Fl → Sl → Sto → Prop
  | nx {γ1 : Sl} {S1 : Sto} (h : I γ1 S1) : turnQ I Q .nx γ1 S1
  | ct {γ1 : Sl} {S1 : Sto} (h : I γ1 S1) : turnQ I Q .ct γ1 S1
  | bk {γ1 : Sl} {S1 : Sto} (h : Q .nx γ1 S1) : turnQ I Q .bk γ1 S1
  | rt {d1 : D} {γ1 : Sl} {S1 : Sto} (h : Q (.rt d1) γ1 S1) : turnQ I Q (.rt d1) γ1 S1
theorem tu_nx {I : Sl → Sto → Prop} (h : I γ S) : turnQ I Q .nx γ S := .nx h
theorem tu_ct {I : Sl → Sto → Prop} (h : I γ S) : turnQ I Q .ct γ S := .ct h
theorem tu_bk {I : Sl → Sto → Prop} (h : Q .nx γ S) : turnQ I Q .bk γ S := .bk h
theorem tu_rt {I : Sl → Sto → Prop} (h : Q (.rt d) γ S) : turnQ I Q (.rt d) γ S := .rt h
theorem for_inv {ck g} (I : List D → Sl → Sto → Prop)
    (step : ∀ x r γ S, I (x :: r) γ S → Chk ck S ∧ wG g x γ S fun γ1 S1 => wS b γ1 S1 (turnQ (I r) Q))
    (stop : ∀ γ S, I [] γ S → Chk ck S ∧ Q .nx γ S) : ∀ xs γ S, I xs γ S → wFor ck g b xs γ S Q
  | [], γ, S, h => by
    obtain ⟨hc, q⟩ := stop γ S h
    exact ⟨_, _, _, by unfold forI; rw [if_pos hc], q⟩
  | x :: r, γ, S, h => by
    obtain ⟨hc, γ1, S1, e1, f, γ2, S2, e2, q⟩ := step x r γ S h
    cases f with
    | nx => cases q with | nx q => obtain ⟨f, γ3, S3, e3, q⟩ := for_inv I step stop r γ2 S2 q; exact ⟨f, γ3, S3, by unfold forI; rw [if_pos hc]; simp only [e1, e2, e3], q⟩
    | ct => cases q with | ct q => obtain ⟨f, γ3, S3, e3, q⟩ := for_inv I step stop r γ2 S2 q; exact ⟨f, γ3, S3, by unfold forI; rw [if_pos hc]; simp only [e1, e2, e3], q⟩
    | bk => cases q with | bk q => exact ⟨_, _, _, by unfold forI; rw [if_pos hc]; simp only [e1, e2], q⟩
    | rt d => cases q with | rt q => exact ⟨_, _, _, by unfold forI; rw [if_pos hc]; simp only [e1, e2], q⟩
/-- a while loop: I n, n falls by one or more with each turn -/
theorem wh_inv (I : Nat → Sl → Sto → Prop)
    (step : ∀ n γ S, I n γ S → wC c γ S fun k S1 => iff2 k (wS b γ S1 (turnQ (fun γ2 S2 => ∃ m, m < n ∧ I m γ2 S2) Q)) (Q .nx γ S1)) : ∀ n m γ S, I m γ S → m < n → wWh c b n γ S Q
  | 0, m, γ, S, h, l => by omega
  | n + 1, m, γ, S, h, l => by
    obtain ⟨k, S1, e1, h1, h2⟩ := step m γ S h
    cases k with
    | false => exact ⟨_, _, _, by unfold whileN; simp only [e1], h2 rfl⟩
    | true =>
      obtain ⟨f, γ2, S2, e2, q⟩ := h1 rfl
      cases f with
      | nx => cases q with | nx q => obtain ⟨m', hm, q⟩ := q; obtain ⟨f, γ3, S3, e3, q⟩ := wh_inv I step n m' γ2 S2 q (by omega); exact ⟨f, γ3, S3, by unfold whileN; simp only [e1, e2, e3], q⟩
      | ct => cases q with | ct q => obtain ⟨m', hm, q⟩ := q; obtain ⟨f, γ3, S3, e3, q⟩ := wh_inv I step n m' γ2 S2 q (by omega); exact ⟨f, γ3, S3, by unfold whileN; simp only [e1, e2, e3], q⟩
      | bk => cases q with | bk q => exact ⟨_, _, _, by unfold whileN; simp only [e1, e2], q⟩
      | rt d => cases q with | rt q => exact ⟨_, _, _, by unfold whileN; simp only [e1, e2], q⟩
/-- a comprehension: I tells what is still to be walked, the list so far, the store -/
theorem k_inv {ck tgt} {tt : CvM} {n : Nat} {Q : Sto → Prop} (I : List D → Sto → Prop)
    (step : ∀ x r S, I (x :: r) S → Chk ck S ∧ ∃ γ1, bindT tgt x γ = some γ1 ∧ wC tt γ1 S fun k S1 => iff2 k (wE e γ1 S1 fun y S2 => ∃ acc, S2[n]? = some (.lst acc) ∧ acc.length < sizeLine ∧ I r (S2.set n (.lst (acc ++ [y])))) (I r S1))
    (stop : ∀ S, I [] S → Chk ck S ∧ Q S) : ∀ xs S, I xs S → wK ck tgt tt e γ n xs S Q
  | [], S, h => by
    obtain ⟨hc, q⟩ := stop S h
    exact ⟨_, by unfold compI; rw [if_pos hc], q⟩
  | x :: r, S, h => by
    obtain ⟨hc, γ1, e1, k, S1, e2, h1, h2⟩ := step x r S h
    cases k with
    | false => obtain ⟨S2, e3, q⟩ := k_inv I step stop r S1 (h2 rfl); exact ⟨S2, by unfold compI; rw [if_pos hc]; simp only [e1, e2, e3], q⟩
    | true =>
      obtain ⟨y, S2, e3, acc, e4, hl, hi⟩ := h1 rfl
      obtain ⟨S3, e5, q⟩ := k_inv I step stop r _ hi
      exact ⟨S3, by unfold compI; rw [if_pos hc]; simp only [e1, e2, e3, e4, if_pos hl, e5], q⟩
theorem k2_inv {ck tgt iv1 tgt1 vs1} {tt t1 : CvM} {n : Nat} {Q : Sto → Prop} (I : List D → Sto → Prop)
    (step : ∀ x r S, I (x :: r) S → Chk ck S ∧ ∃ γ1, bindT tgt x γ = some γ1 ∧ wC tt γ1 S fun k S1 => iff2 k (wI iv1 γ1 S1 fun ck1 xs1 S2 => wK ck1 tgt1 t1 e (wipeD γ1 vs1) n xs1 S2 (I r)) (I r S1))
    (stop : ∀ S, I [] S → Chk ck S ∧ Q S) : ∀ xs S, I xs S → wK2 ck tgt tt iv1 tgt1 t1 e γ vs1 n xs S Q
  | [], S, h => by
    obtain ⟨hc, q⟩ := stop S h
    exact ⟨_, by unfold comp2I; rw [if_pos hc], q⟩
  | x :: r, S, h => by
    obtain ⟨hc, γ1, e1, k, S1, e2, h1, h2⟩ := step x r S h
    cases k with
    | false => obtain ⟨S2, e3, q⟩ := k2_inv I step stop r S1 (h2 rfl); exact ⟨S2, by unfold comp2I; rw [if_pos hc]; simp only [e1, e2, e3], q⟩
    | true =>
      obtain ⟨ck1, xs1, S2, e3, S3, e4, hi⟩ := h1 rfl
      obtain ⟨S4, e5, q⟩ := k2_inv I step stop r _ hi
      exact ⟨S4, by unfold comp2I; rw [if_pos hc]; simp only [e1, e2, e3, e4, e5], q⟩
/-- a dict is locked meanwhile -/
theorem v_lock {i n kvs} {Q : D → Sto → Prop} (hx : γ[i]? = some (some (.ref n))) (hn : S[n]? = some (.dn false kvs))
    (h : wE e γ (S.set n (.dn true kvs)) fun d S1 => ∃ kvs', S1[n]? = some (.dn true kvs') ∧ Q d (S1.set n (.dn false kvs'))) : wE (lockM i e) γ S Q := by
  obtain ⟨d, S1, e1, kvs', e2, q⟩ := h
  exact ⟨_, _, by unfold lockM; simp only [hx, hn, e1, e2], q⟩
theorem s_lock {i n kvs} (hx : γ[i]? = some (some (.ref n))) (hn : S[n]? = some (.dn false kvs))
    (h : wS s γ (S.set n (.dn true kvs)) fun f γ1 S1 => ∃ kvs', S1[n]? = some (.dn true kvs') ∧ Q f γ1 (S1.set n (.dn false kvs'))) : wS (lockS i s) γ S Q := by
  obtain ⟨d, γ1, S1, e1, kvs', e2, q⟩ := h
  exact ⟨_, _, _, by unfold lockS; simp only [hx, hn, e1, e2], q⟩
/-- a def's body -/
inductive retQ (Q : D → Sto → Prop) : Fl → Sl → Sto → Prop
  | rt {d1 : D} {γ1 : Sl} {S1 : Sto} (h : Q d1 S1) : retQ Q (.rt d1) γ1 S1
  | nx {γ1 : Sl} {S1 : Sto} (h : Q .non S1) : retQ Q .nx γ1 S1
theorem re_rt {Q : D → Sto → Prop} (h : Q d S) : retQ Q (.rt d) γ S := .rt h
theorem re_nx {Q : D → Sto → Prop} (h : Q .non S) : retQ Q .nx γ S := .nx h
theorem w_body {n} {xs : List D} {Q : D → Sto → Prop} (h : wS s (xs.map some ++ List.replicate (n - xs.length) none) S (retQ Q)) : w1 (bodyM n s) xs S Q := by
  obtain ⟨f, γ', S', e1, q⟩ := h
  cases f with
  | rt d => cases q with | rt q => exact ⟨_, _, by unfold bodyM; simp only [e1], q⟩
  | nx => cases q with | nx q => exact ⟨_, _, by unfold bodyM; simp only [e1], q⟩
  | bk => cases q
  | ct => cases q
end
/-! ### the operators and builtins -/
section
variable {S : Sto} {Q : D → Sto → Prop} {x y d : D} {i j : Int} {z w : Str} {n m : Nat} {xs ys : List D}
theorem o_eqI (q : Q (.bl (i == j)) S) : w2 eqF (.int i) (.int j) S Q := ⟨_, _, rfl, q⟩
theorem o_eqS (q : Q (.bl (z == w)) S) : w2 eqF (.str z) (.str w) S Q := ⟨_, _, rfl, q⟩
theorem o_eqB {a b : Bool} (q : Q (.bl (a == b)) S) : w2 eqF (.bl a) (.bl b) S Q := ⟨_, _, rfl, q⟩
theorem o_neS (q : Q (.bl (!(z == w))) S) : w2 neF (.str z) (.str w) S Q := ⟨_, _, rfl, q⟩
theorem o_is (q : Q (.bl (isN x)) S) : w2 (isF false) x .non S Q := ⟨_, _, by unfold isF; rfl, q⟩
theorem o_isn (q : Q (.bl (!isN x)) S) : w2 (isF true) x .non S Q := ⟨_, _, by unfold isF; rfl, q⟩
theorem o_lt (q : Q (.bl (decide (i < j))) S) : w2 ltF (.int i) (.int j) S Q := ⟨_, _, rfl, q⟩
theorem o_le (q : Q (.bl (decide (i ≤ j))) S) : w2 leF (.int i) (.int j) S Q := ⟨_, _, rfl, q⟩
theorem o_gt (q : Q (.bl (decide (j < i))) S) : w2 gtF (.int i) (.int j) S Q := ⟨_, _, rfl, q⟩
theorem o_ge (q : Q (.bl (decide (j ≤ i))) S) : w2 geF (.int i) (.int j) S Q := ⟨_, _, rfl, q⟩
theorem o_ixT (h : atI xs i = some d) (q : Q d S) : w2 ixF (.tup xs) (.int i) S Q := ⟨_, _, by unfold ixF; simp only [h], q⟩
theorem o_ixR (h : atI xs i = some d) (q : Q d S) : w2 ixF (.rl xs) (.int i) S Q := ⟨_, _, by unfold ixF; simp only [h], q⟩
theorem o_ixL (hn : S[n]? = some (.lst xs)) (h : atI xs i = some d) (q : Q d S) : w2 ixF (.ref n) (.int i) S Q := ⟨_, _, by unfold ixF; simp only [hn, h], q⟩
theorem o_addI (q : Q (.int (i + j)) S) : w2 addF (.int i) (.int j) S Q := ⟨_, _, rfl, q⟩
theorem o_addS (h : z.length + w.length ≤ sizeLine) (q : Q (.str (z ++ w)) S) : w2 addF (.str z) (.str w) S Q := ⟨_, _, by unfold addF; simp only [if_pos h], q⟩
theorem o_addT (h : xs.length + ys.length ≤ sizeLine) (q : Q (.tup (xs ++ ys)) S) : w2 addF (.tup xs) (.tup ys) S Q := ⟨_, _, by unfold addF; simp only [if_pos h], q⟩
theorem o_addL (hn : S[n]? = some (.lst xs)) (hm : S[m]? = some (.lst ys)) (h : xs.length + ys.length ≤ sizeLine) (q : Q (.ref S.length) (S ++ [.lst (xs ++ ys)])) : w2 addF (.ref n) (.ref m) S Q := ⟨_, _, by unfold addF; simp only [hn, hm, if_pos h], q⟩
theorem o_sub (q : Q (.int (i - j)) S) : w2 subF (.int i) (.int j) S Q := ⟨_, _, rfl, q⟩
theorem o_iadd (q : Q (.int (i + j)) S) : w2 iaddF (.int i) (.int j) S Q := ⟨_, _, rfl, q⟩
theorem o_isub (q : Q (.int (i - j)) S) : w2 isubF (.int i) (.int j) S Q := ⟨_, _, rfl, q⟩
theorem o_mul (h : mulOk i j = true) (q : Q (.int (i * j)) S) : w2 mulF (.int i) (.int j) S Q := ⟨_, _, by unfold mulF; simp only [if_pos h], q⟩
theorem o_div (h : 0 < j ∧ j.natAbs.log2 < 9000) (q : Q (.int (i / j)) S) : w2 fdivF (.int i) (.int j) S Q := ⟨_, _, by unfold fdivF; simp only [if_pos h], q⟩
theorem o_mod (h : 0 < j) (q : Q (.int (i % j)) S) : w2 modF (.int i) (.int j) S Q := ⟨_, _, by unfold modF; simp only [if_pos h], q⟩
theorem o_pow (h : 0 ≤ j ∧ j ≤ 1000000 ∧ i.natAbs < 2 ^ 64) (q : Q (.int (i ^ j.toNat)) S) : w2 powF (.int i) (.int j) S Q := ⟨_, _, by unfold powF; simp only [if_pos h], q⟩
theorem o_rep (hn : S[n]? = some (.lst xs)) (h : 0 ≤ j ∧ j < 2 ^ 63 ∧ xs.length * j.toNat ≤ sizeLine) (q : Q (.ref S.length) (S ++ [.lst (List.replicate j.toNat xs).flatten])) : w2 repF (.ref n) (.int j) S Q := ⟨_, _, by unfold repF; simp only [hn, if_pos h], q⟩
theorem o_get {lk kvs kk} (hn : S[n]? = some (.dn lk kvs)) (hk : keyN xs = some kk) (hl : lookN kvs kk = some d) (q : Q d S) : w2 getF (.ref n) (.tup xs) S Q := ⟨_, _, by unfold getF; simp only [hn, hk, hl], q⟩
theorem o_inD {lk kvs kk} (hn : S[n]? = some (.dn lk kvs)) (hk : keyN xs = some kk) (q : Q (.bl (lookN kvs kk).isSome) S) : w2 (inD false) (.tup xs) (.ref n) S Q := ⟨_, _, by unfold inD; simp only [hn, hk]; rfl, q⟩
theorem f_lenT (q : Q (.int xs.length) S) : w1 lenF [.tup xs] S Q := ⟨_, _, rfl, q⟩
theorem f_lenR (q : Q (.int xs.length) S) : w1 lenF [.rl xs] S Q := ⟨_, _, rfl, q⟩
theorem f_lenL (hn : S[n]? = some (.lst xs)) (q : Q (.int xs.length) S) : w1 lenF [.ref n] S Q := ⟨_, _, by unfold lenF; simp only [hn], q⟩
theorem f_intI (q : Q (.int i) S) : w1 intF [.int i] S Q := ⟨_, _, rfl, q⟩
theorem f_intB {b} (q : Q (.int (if b then 1 else 0)) S) : w1 intF [.bl b] S Q := ⟨_, _, rfl, q⟩
theorem f_abs (q : Q (.int (if i < 0 then -i else i)) S) : w1 absF [.int i] S Q := ⟨_, _, rfl, q⟩
theorem f_max (q : Q (.int (if j > i then j else i)) S) : w1 maxF [.int i, .int j] S Q := ⟨_, _, rfl, q⟩
theorem f_min (q : Q (.int (if j < i then j else i)) S) : w1 minF [.int i, .int j] S Q := ⟨_, _, rfl, q⟩
theorem f_str (h : i.natAbs.log2 < 1920) (q : Q (.str (toString i)) S) : w1 strF [.int i] S Q := ⟨_, _, by unfold strF; simp only [if_pos h], q⟩
theorem f_listT (q : Q (.ref S.length) (S ++ [.lst xs])) : w1 listF [.tup xs] S Q := ⟨_, _, rfl, q⟩
theorem f_listL (hn : S[n]? = some (.lst xs)) (q : Q (.ref S.length) (S ++ [.lst xs])) : w1 listF [.ref n] S Q := ⟨_, _, by unfold listF; simp only [hn], q⟩
theorem f_tupT (q : Q (.tup xs) S) : w1 tupleF [.tup xs] S Q := ⟨_, _, rfl, q⟩
theorem f_tupL (hn : S[n]? = some (.lst xs)) (q : Q (.tup xs) S) : w1 tupleF [.ref n] S Q := ⟨_, _, by unfold tupleF; simp only [hn], q⟩
theorem f_all {bs} (hn : S[n]? = some (.lst xs)) (hb : blsD xs = some bs) (q : Q (.bl (bs.all id)) S) : w1 allF [.ref n] S Q := ⟨_, _, by unfold allF; simp only [hn, hb], q⟩
theorem f_dict {l} (hn : S[n]? = some (.lst xs)) (hb : pairsN xs = some l) (q : Q (.ref S.length) (S ++ [.dn false (putAll l [])])) : w1 dictF [.ref n] S Q := ⟨_, _, by unfold dictF; simp only [hn, hb], q⟩
theorem m_append (hn : S[n]? = some (.lst xs)) (h : xs.length < sizeLine) (q : Q .non (S.set n (.lst (xs ++ [y])))) : wM appendF (.ref n) [y] S Q := ⟨_, _, by unfold appendF; simp only [hn, if_pos h], q⟩
theorem m_pop (hn : S[n]? = some (.lst (xs ++ [y]))) (q : Q y (S.set n (.lst xs))) : wM popF (.ref n) [] S Q := ⟨_, _, by unfold popF; simp [hn], q⟩
theorem m_extT (hn : S[n]? = some (.lst xs)) (h : xs.length + ys.length ≤ sizeLine) (q : Q .non (S.set n (.lst (xs ++ ys)))) : wM extendF (.ref n) [.tup ys] S Q := ⟨_, _, by unfold extendF; simp only [hn, if_pos h], q⟩
theorem m_extL (hn : S[n]? = some (.lst xs)) (hm : S[m]? = some (.lst ys)) (h : xs.length + ys.length ≤ sizeLine) (q : Q .non (S.set n (.lst (xs ++ ys)))) : wM extendF (.ref n) [.ref m] S Q := ⟨_, _, by unfold extendF; simp only [hn, hm, if_pos h], q⟩
theorem ty_lst (hn : S[n]? = some (.lst xs)) : tyB "list" S (.ref n) = true := by unfold tyB; simp [hn]
/-- x not in a list of things -/
def memB (x : D) (ys : List D) : Bool := match pyD x, pyDs ys with
  | some p, some ds => ds.any fun z => PyData.eqv z p
  | _, _ => false
theorem o_notin {p ds} (hn : S[n]? = some (.lst ys)) (hx : pyD x = some p) (hy : pyDs ys = some ds) (h1 : SeqAt.shaped p = true) (h2 : SeqAt.shaped (.list ds) = true) (q : Q (.bl (!memB x ys)) S) : w2 (inF true) x (.ref n) S Q := by
  refine ⟨_, _, ?_, q⟩
  unfold inF inT inB memB
  simp [hx, hy, pyO, hn, h1, h2]
theorem ty_tup : tyQ "tuple" S (.tup xs) Q' ↔ Q' true := by
  constructor
  · rintro ⟨t, b, e1, e2, q⟩
    cases e1
    rw [show kitB "tuple" "tuple" = some true from by unfold kitB; simp] at e2
    cases e2; exact q
  · intro q; exact ⟨_, _, rfl, by unfold kitB; simp, q⟩
end
/-! ### the store -/
section
variable {S S' : Sto} {n m : Nat} {o u : O}
theorem lk_app {J : Sto} (h : S[n]? = some o) : (S ++ J)[n]? = some o := by rw [List.getElem?_append_left (lt_of h)]; exact h
theorem lk_new : (S ++ [o])[S.length]? = some o := by simp
theorem lk_set (h : S[n]? = some u) : (S.set n o)[n]? = some o := List.getElem?_set_self (lt_of h)
theorem lk_ne (hne : n ≠ m) (h : S[n]? = some o) : (S.set m u)[n]? = some o := by rw [List.getElem?_set_ne (Ne.symm hne)]; exact h
/-- all that stood there still stands there -/
def Kp (S S' : Sto) : Prop := ∀ (i : Nat) (o : O), S[i]? = some o → S'[i]? = some o
theorem Kp.refl : Kp S S := fun _ _ h => h
theorem Kp.trans {S1 S2 S3 : Sto} (a : Kp S1 S2) (b : Kp S2 S3) : Kp S1 S3 := fun i o h => b i o (a i o h)
theorem Kp.app {J : Sto} (h : Kp S S') : Kp S (S' ++ J) := fun i o e => lk_app (h i o e)
theorem Kp.set (h : Kp S S') (hn : S[n]? = none) : Kp S (S'.set n u) := fun i o e => lk_ne (fun z => by subst z; rw [hn] at e; cases e) (h i o e)
theorem none_len : S[S.length]? = none := by simp
theorem Kp.ne (h : S[n]? = some o) : n ≠ S.length := fun z => by subst z; simp at h
theorem Kp.len (h : Kp S S') : S.length ≤ S'.length := by
  rcases Nat.lt_or_ge S'.length S.length with l | l
  · have := h _ _ (List.getElem?_eq_getElem l)
    simp at this
  · exact l
end
end Ml
/-! Mw2: .. of defs as values -/
namespace Ml
open L2 PyProof.Rows PySem PySem.Spec
section
variable {γ : Sl} {S S' : Sto} {Q : D → Sto → Prop} {ra : AvM} {i n id : Nat} {nd : NDef} {ws : List D}
theorem v_callN {tab : Nat → Option NDef} {G : Nat → List D → Sto → Option (D × Sto)} (h1 : γ[i]? = some (some (.ref n))) (h2 : S[n]? = some (.fn id nd ws)) (ht : tab id = some nd) (hw : ws.length = nd.fr.length)
    (h : wA ra γ S fun xs S1 => S1[n]? = some (.fn id nd ws) ∧ xs.length = nd.ps.length ∧ w1 (G id) (xs ++ ws) S1 Q) : wE (callNM i tab G ra) γ S Q := by
  obtain ⟨xs, S1, e1, e2, e3, d, S2, e4, q⟩ := h
  refine ⟨d, S2, ?_, q⟩
  unfold callNM
  simp only [h1, h2, e1, e2]
  rw [if_pos ⟨ht, e3, hw⟩]
  exact e4
theorem v_callG {k : Nat} {cands : Str → Option (List D → Sto → Option (D × Sto))} {z : Str} {G : List D → Sto → Option (D × Sto)} (h1 : γ[i]? = some (some (.gl z))) (h2 : cands z = some G) (h : wA ra γ S fun xs S1 => xs.length = k ∧ w1 G xs S1 Q) : wE (callGM i k cands ra) γ S Q := by
  obtain ⟨xs, S1, e1, e3, d, S2, e4, q⟩ := h
  refine ⟨d, S2, ?_, q⟩
  unfold callGM
  simp only [h1, h2, e1]
  rw [if_pos e3]
  exact e4
theorem s_dret {ia : Nat} {js : List Nat} {G : List D → Sto → Option (D × Sto)} {y : D} {Q : Fl → Sl → Sto → Prop} (h1 : γ[ia]? = some (some y)) (h2 : js.mapM (fun j => γ[j]?.join) = some ws) (h : w1 G [y, .ref S.length] (S ++ [.fn id nd ws]) fun d S2 => Q (.rt d) γ (junkAll S2)) : wS (dretM id nd ia js G) γ S Q := by
  obtain ⟨d, S2, e4, q⟩ := h
  refine ⟨_, _, _, ?_, q⟩
  unfold dretM
  simp only [h1, h2, e4]
/-- all that stood there still stands there, but for defs -/
def Kj (S S' : Sto) : Prop := ∀ (i : Nat) (o : O), S[i]? = some o → jk o = o → S'[i]? = some o
theorem Kp.kj (h : Kp S S') : Kj S S' := fun i o e _ => h i o e
theorem Kj.trans {S1 S2 S3 : Sto} (a : Kj S1 S2) (b : Kj S2 S3) : Kj S1 S3 := fun i o e z => b i o (a i o e z) z
theorem Kj.junk (h : Kj S S') : Kj S (junkAll S') := fun i o e z => by
  unfold junkAll
  rw [List.getElem?_map, h i o e z]
  show some (jk o) = some o
  rw [z]
end
end Ml
namespace Gn
open PySem L2 Ml
inductive Fn where
  | parts_of
  | with_parts
  | reduced
  | rebuilt
  | members
  | joined
  | height
  | columns_in
  | aggs_in
  | replaced
  | leaf_replaced
  | leaves_of
  | columns_at
  | is_column
  | _law_numbers
  | _law_take
  | _law_begun
  | _law_col
  | _law_agg
  | _law_expr
  | _law_question
  | _law_cond
  | _law_parts
  | _law_found
  | _law_levels
  | _law_split
  | _law_put
  | _law_table
  | _law_same
  | _law_is_right
  | _law_conds_right
  | law
  | rebuilt__step
  | replaced__change
def isTop : Fn → Bool
  | .rebuilt__step => false
  | .replaced__change => false
  | _ => true
def topS (i : Nat) : Stmt := PySem.Challenge.pw_leastplans_k20_trees_gone_through.main.body.getD i (.Pass ⟨0, 0, 0, 0⟩)
abbrev nst_rebuilt__step : Stmt := (defBody (topS 6)).getD 0 (.Pass ⟨0, 0, 0, 0⟩)
abbrev nd_rebuilt__step : NDef := ⟨"step", "rebuilt.<locals>.step", nst_rebuilt__step, ["one", "new_parts"], ["change"]⟩
abbrev nst_replaced__change : Stmt := (defBody (topS 13)).getD 1 (.Pass ⟨0, 0, 0, 0⟩)
abbrev nd_replaced__change : NDef := ⟨"change", "replaced.<locals>.change", nst_replaced__change, ["one"], ["table"]⟩
def tabN : Nat → Option NDef
  | 0 => some nd_rebuilt__step
  | 1 => some nd_replaced__change
  | _ => none
def gN (F : Fn → List D → Sto → Option (D × Sto)) : Nat → List D → Sto → Option (D × Sto)
  | 0 => F .rebuilt__step
  | 1 => F .replaced__change
  | _ => fun _ _ => none
def c_NO_PLACES : D := .tup [.int 1, .int 1]
def c_PART_PLACES : List (Str × Option D) := [("add", some (.tup [.int 1, .int 3])), ("sub", some (.tup [.int 1, .int 3])), ("mul", some (.tup [.int 1, .int 3])), ("neg", some (.tup [.int 1, .int 2])), ("cmp", some (.tup [.int 2, .int 4])), ("null", some (.tup [.int 1, .int 2])), ("in", some (.tup [.int 1, .int 2])), ("not", some (.tup [.int 1, .int 2])), ("maybe", some (.tup [.int 1, .int 2])), ("and", some (.tup [.int 1, .int 3])), ("or", some (.tup [.int 1, .int 3])), ("num", none), ("text", none), ("col", none), ("agg", none), ("exists", none)]
noncomputable def b_parts_of (F : Fn → List D → Sto → Option (D × Sto)) : SvM :=
  seqM (asgM (cgetM c_PART_PLACES (binM ixF (varM 0) (conM (.int 0))) (conM c_NO_PLACES)) (tupG 2 (consG (nameG 1) (consG (nameG 2) (nilG))))) (rtM (slM (varM 0) (partM (varM 1)) (partM (varM 2))))
noncomputable def b_with_parts (F : Fn → List D → Sto → Option (D × Sto)) : SvM :=
  seqM (asgM (cgetM c_PART_PLACES (binM ixF (varM 0) (conM (.int 0))) (conM c_NO_PLACES)) (tupG 2 (consG (nameG 2) (consG (nameG 3) (nilG))))) (rtM (binM addF (binM addF (slM (varM 0) (noM) (partM (varM 2))) (appM tupleF (consA (varM 1) (nilA)))) (slM (varM 0) (partM (varM 3)) (noM))))
noncomputable def b_reduced (F : Fn → List D → Sto → Option (D × Sto)) : SvM :=
  seqM (asgM (lstM (consA (varM 0) (nilA))) (nameG 2)) (seqM (asgM (lstM (nilA)) (nameG 3)) (seqM (asgM (conM (.int 0)) (nameG 4)) (seqM (whileM (tstM (binM ltF (varM 4) (appM lenF (consA (varM 2) (nilA))))) (seqM (exM (metM "list" appendF (varM 3) (consA (appM lenF (consA (varM 2) (nilA))) (nilA)))) (seqM (exM (metM "list" extendF (varM 2) (consA (callM 1 (F .parts_of) (consA (binM ixF (varM 2) (varM 4)) (nilA))) (nilA)))) (augM 4 iaddF (conM (.int 1)))))) (seqM (asgM (binM repF (lstM (consA (conM .non) (nilA))) (appM lenF (consA (varM 2) (nilA)))) (nameG 5)) (seqM (forM (rngDI (consA (binM subF (appM lenF (consA (varM 2) (nilA))) (conM (.int 1))) (consA (negM (conM (.int 1))) (consA (negM (conM (.int 1))) (nilA))))) (nameG 4) (seqM (asgM (appM lenF (consA (callM 1 (F .parts_of) (consA (binM ixF (varM 2) (varM 4)) (nilA))) (nilA))) (nameG 6)) (asgM (callNM 1 tabN (gN F) (consA (binM ixF (varM 2) (varM 4)) (consA (slM (varM 5) (partM (binM ixF (varM 3) (varM 4))) (partM (binM addF (binM ixF (varM 3) (varM 4)) (varM 6)))) (nilA)))) (subL (varM 5) (varM 4))))) (rtM (binM ixF (varM 5) (conM (.int 0)))))))))
noncomputable def b_rebuilt (F : Fn → List D → Sto → Option (D × Sto)) : SvM :=
  dretM 0 nd_rebuilt__step 0 [1] (F .reduced)
noncomputable def b_members (F : Fn → List D → Sto → Option (D × Sto)) : SvM :=
  seqM (asgM (lstM (nilA)) (nameG 1)) (seqM (asgM (ifM (tstM (binM (isF false) (varM 0) (conM .non))) (lstM (nilA)) (lstM (consA (varM 0) (nilA)))) (nameG 2)) (seqM (whileM (truC (varM 2)) (seqM (asgM (metM "list" popF (varM 2) nilA) (nameG 3)) (ifS (tstM (binM eqF (binM ixF (varM 3) (conM (.int 0))) (conM (.str "and")))) (seqM (exM (metM "list" appendF (varM 2) (consA (binM ixF (varM 3) (conM (.int 2))) (nilA)))) (exM (metM "list" appendF (varM 2) (consA (binM ixF (varM 3) (conM (.int 1))) (nilA))))) (exM (metM "list" appendF (varM 1) (consA (varM 3) (nilA))))))) (rtM (appM tupleF (consA (varM 1) (nilA))))))
noncomputable def b_joined (F : Fn → List D → Sto → Option (D × Sto)) : SvM :=
  seqM (ifS (notC (truC (varM 0))) (rtM (conM .non)) (nxM)) (seqM (asgM (binM ixF (varM 0) (conM (.int 0))) (nameG 1)) (seqM (forM (seqI (slM (varM 0) (partM (conM (.int 1))) (noM))) (nameG 2) (asgM (tupM (consA (conM (.str "and")) (consA (varM 1) (consA (varM 2) (nilA))))) (nameG 1))) (rtM (varM 1))))
noncomputable def b_height (F : Fn → List D → Sto → Option (D × Sto)) : SvM :=
  seqM (asgM (conM (.int 0)) (nameG 1)) (seqM (asgM (ifM (tstM (binM (isF false) (varM 0) (conM .non))) (lstM (nilA)) (lstM (consA (varM 0) (nilA)))) (nameG 2)) (seqM (whileM (truC (varM 2)) (seqM (augM 1 iaddF (conM (.int 1))) (asgM (comp2M (seqI (varM 2)) (.one 3) yesC (seqI (callM 1 (F .parts_of) (consA (varM 3) (nilA)))) (.one 4) yesC (varM 4) [3, 4] [4]) (nameG 2)))) (rtM (varM 1))))
noncomputable def b_columns_in (F : Fn → List D → Sto → Option (D × Sto)) : SvM :=
  seqM (asgM (lstM (nilA)) (nameG 1)) (seqM (forM (seqI (callM 1 (F .leaves_of) (consA (varM 0) (nilA)))) (nameG 2) (forM (seqI (callM 1 (F .columns_at) (consA (varM 2) (nilA)))) (nameG 3) (ifS (tstM (binM (inF true) (varM 3) (varM 1))) (exM (metM "list" appendF (varM 1) (consA (varM 3) (nilA)))) (nxM)))) (rtM (appM tupleF (consA (varM 1) (nilA)))))
noncomputable def b_aggs_in (F : Fn → List D → Sto → Option (D × Sto)) : SvM :=
  seqM (asgM (lstM (nilA)) (nameG 1)) (seqM (forM (seqI (callM 1 (F .leaves_of) (consA (varM 0) (nilA)))) (nameG 2) (ifS (andC (tstM (binM eqF (binM ixF (varM 2) (conM (.int 0))) (conM (.str "agg")))) (tstM (binM (inF true) (varM 2) (varM 1)))) (exM (metM "list" appendF (varM 1) (consA (varM 2) (nilA)))) (nxM))) (rtM (appM tupleF (consA (varM 1) (nilA)))))
noncomputable def b_replaced (F : Fn → List D → Sto → Option (D × Sto)) : SvM :=
  seqM (ifS (tstM (binM (isF false) (varM 0) (conM .non))) (rtM (conM .non)) (nxM)) (dretM 1 nd_replaced__change 0 [1] (F .rebuilt))
noncomputable def b_leaf_replaced (F : Fn → List D → Sto → Option (D × Sto)) : SvM :=
  seqM (ifS (tstM (binM eqF (binM ixF (varM 0) (conM (.int 0))) (conM (.str "col")))) (rtM (getOrM (varM 1) (varM 0) (varM 0))) (nxM)) (seqM (ifS (tstM (binM neF (binM ixF (varM 0) (conM (.int 0))) (conM (.str "agg")))) (rtM (varM 0)) (nxM)) (seqM (ifS (tstM (binM (inD false) (varM 0) (varM 1))) (rtM (binM getF (varM 1) (varM 0))) (nxM)) (rtM (appM tupleF (consA (compM (seqI (varM 0)) (.one 2) (yesC) (ifM (truC (callM 1 (F .is_column) (consA (varM 2) (nilA)))) (getOrM (varM 1) (varM 2) (varM 2)) (varM 2)) [2]) (nilA))))))
noncomputable def b_leaves_of (F : Fn → List D → Sto → Option (D × Sto)) : SvM :=
  seqM (asgM (lstM (nilA)) (nameG 1)) (seqM (asgM (ifM (tstM (binM (isF false) (varM 0) (conM .non))) (lstM (nilA)) (lstM (consA (varM 0) (nilA)))) (nameG 2)) (seqM (whileM (truC (varM 2)) (seqM (asgM (metM "list" popF (varM 2) nilA) (nameG 3)) (seqM (asgM (callM 1 (F .parts_of) (consA (varM 3) (nilA))) (nameG 4)) (seqM (exM (metM "list" extendF (varM 2) (consA (revTM (varM 4)) (nilA)))) (ifS (notC (truC (varM 4))) (exM (metM "list" appendF (varM 1) (consA (varM 3) (nilA)))) (nxM)))))) (rtM (varM 1))))
noncomputable def b_columns_at (F : Fn → List D → Sto → Option (D × Sto)) : SvM :=
  seqM (ifS (tstM (binM eqF (binM ixF (varM 0) (conM (.int 0))) (conM (.str "col")))) (rtM (lstM (consA (varM 0) (nilA)))) (nxM)) (seqM (ifS (tstM (binM eqF (binM ixF (varM 0) (conM (.int 0))) (conM (.str "agg")))) (rtM (compM (seqI (varM 0)) (.one 1) (truC (callM 1 (F .is_column) (consA (varM 1) (nilA)))) (varM 1) [1])) (nxM)) (rtM (lstM (nilA))))
noncomputable def b_is_column (F : Fn → List D → Sto → Option (D × Sto)) : SvM :=
  rtM (andV (isiM "tuple" (varM 0)) (binM eqF (binM ixF (varM 0) (conM (.int 0))) (conM (.str "col"))))
noncomputable def b__law_numbers (F : Fn → List D → Sto → Option (D × Sto)) : SvM :=
  seqM (asgM (lstM (nilA)) (nameG 1)) (seqM (asgM (conM (.int 31337)) (nameG 2)) (seqM (forM (rng1I (consA (appM lenF (consA (varM 0) (nilA))) (nilA))) (nameG 3) (seqM (asgM (appM absF (consA (appM intF (consA (binM ixF (varM 0) (varM 3)) (nilA))) (nilA))) (nameG 4)) (seqM (asgM (binM geF (varM 4) (binM powF (conM (.int 10)) (conM (.int 18)))) (nameG 5)) (seqM (asgM (binM addF (binM addF (binM addF (binM mulF (varM 4) (conM (.int 2))) (appM intF (consA (binM ltF (binM ixF (varM 0) (varM 3)) (conM (.int 0))) (nilA)))) (binM mulF (varM 3) (conM (.int 80021)))) (conM (.int 17))) (nameG 6)) (seqM (asgM (binM modF (appM intF (consA (binM addF (binM mulF (varM 2) (conM (.int 30011))) (varM 6)) (nilA))) (conM (.int 2147483629))) (nameG 2)) (forM (rng1I (consA (binM ixF (lstM (consA (conM (.int 7)) (consA (conM (.int 60)) (nilA)))) (appM intF (consA (varM 5) (nilA)))) (nilA))) (nameG 7) (seqM (asgM (binM modF (appM intF (consA (binM addF (binM addF (binM mulF (varM 6) (conM (.int 48271))) (binM mulF (varM 7) (conM (.int 907)))) (conM (.int 4242))) (nilA))) (conM (.int 2147483647))) (nameG 6)) (seqM (ifS (notC (truC (varM 5))) (exM (metM "list" appendF (varM 1) (consA (binM fdivF (binM modF (appM intF (consA (binM addF (binM addF (binM mulF (varM 6) (varM 6)) (binM mulF (varM 3) (conM (.int 911)))) (varM 7)) (nilA))) (conM (.int 2147483629))) (conM (.int 64))) (nilA)))) (ifS (tstM (binM gtF (varM 4) (conM (.int 0)))) (exM (metM "list" appendF (varM 1) (consA (binM modF (appM intF (consA (varM 4) (nilA))) (conM (.int 720720))) (nilA)))) (nxM))) (asgM (binM fdivF (varM 4) (conM (.int 720720))) (nameG 4)))))))))) (seqM (forM (rng1I (consA (appM maxF (consA (conM (.int 0)) (consA (binM subF (conM (.int 300)) (appM lenF (consA (varM 1) (nilA)))) (nilA)))) (nilA))) (nameG 7) (seqM (asgM (binM modF (appM intF (consA (binM addF (binM addF (binM mulF (varM 2) (conM (.int 39373))) (binM mulF (varM 7) (conM (.int 77)))) (conM (.int 5))) (nilA))) (conM (.int 2147483647))) (nameG 2)) (exM (metM "list" appendF (varM 1) (consA (binM fdivF (binM modF (appM intF (consA (binM addF (binM mulF (varM 2) (varM 2)) (varM 7)) (nilA))) (conM (.int 2147483587))) (conM (.int 128))) (nilA)))))) (rtM (slM (varM 1) (noM) (partM (conM (.int 300))))))))
noncomputable def b__law_take (F : Fn → List D → Sto → Option (D × Sto)) : SvM :=
  seqM (asgM (binM addF (binM ixF (varM 0) (conM (.int 1))) (conM (.int 1))) (subL (varM 0) (conM (.int 1)))) (seqM (ifS (tstM (binM gtF (binM ixF (varM 0) (conM (.int 1))) (appM lenF (consA (binM ixF (varM 0) (conM (.int 0))) (nilA))))) (rtM (conM (.int 0))) (nxM)) (rtM (binM modF (appM intF (consA (binM ixF (binM ixF (varM 0) (conM (.int 0))) (binM subF (binM ixF (varM 0) (conM (.int 1))) (conM (.int 1)))) (nilA))) (varM 1))))
noncomputable def b__law_begun (F : Fn → List D → Sto → Option (D × Sto)) : SvM :=
  seqM (asgM (varM 1) (subL (varM 0) (conM (.int 2)))) (seqM (asgM (varM 2) (subL (varM 0) (conM (.int 3)))) (asgM (lstM (nilA)) (subL (varM 0) (conM (.int 4)))))
noncomputable def b__law_col (F : Fn → List D → Sto → Option (D × Sto)) : SvM :=
  seqM (asgM (callM 2 (F ._law_take) (consA (varM 0) (consA (conM (.int 8)) (nilA)))) (nameG 1)) (seqM (ifS (orC (tstM (binM ltF (varM 1) (conM (.int 4)))) (andC (truC (binM ixF (varM 0) (conM (.int 2)))) (tstM (binM ltF (varM 1) (conM (.int 7)))))) (rtM (tupM (consA (conM (.str "col")) (consA (binM ixF (lstM (consA (conM (.str "t")) (consA (conM (.str "s")) (nilA)))) (binM modF (appM intF (consA (varM 1) (nilA))) (conM (.int 2)))) (consA (binM ixF (lstM (consA (conM (.str "a")) (consA (conM (.str "b")) (consA (conM (.str "s")) (nilA))))) (callM 2 (F ._law_take) (consA (varM 0) (consA (conM (.int 3)) (nilA))))) (nilA)))))) (nxM)) (seqM (ifS (tstM (binM ltF (varM 1) (conM (.int 6)))) (rtM (tupM (consA (conM (.str "col")) (consA (callM 2 (F ._law_take) (consA (varM 0) (consA (conM (.int 4)) (nilA)))) (consA (callM 2 (F ._law_take) (consA (varM 0) (consA (conM (.int 3)) (nilA)))) (nilA)))))) (nxM)) (seqM (ifS (tstM (binM eqF (varM 1) (conM (.int 6)))) (rtM (tupM (consA (conM (.str "col")) (consA (callM 2 (F ._law_take) (consA (varM 0) (consA (conM (.int 4)) (nilA)))) (nilA))))) (nxM)) (rtM (tupM (consA (conM (.str "col")) (consA (binM addF (conM (.str "u")) (appM strF (consA (callM 2 (F ._law_take) (consA (varM 0) (consA (conM (.int 720720)) (nilA)))) (nilA)))) (consA (conM (.str "a")) (nilA)))))))))
noncomputable def b__law_agg (F : Fn → List D → Sto → Option (D × Sto)) : SvM :=
  seqM (asgM (callM 2 (F ._law_take) (consA (varM 0) (consA (conM (.int 6)) (nilA)))) (nameG 1)) (seqM (ifS (tstM (binM gtF (appM lenF (consA (binM ixF (varM 0) (conM (.int 4))) (nilA))) (conM (.int 3)))) (rtM (binM ixF (binM ixF (varM 0) (conM (.int 4))) (binM addF (conM (.int 1)) (binM modF (appM intF (consA (varM 1) (nilA))) (conM (.int 3)))))) (nxM)) (seqM (asgM (tupM (consA (conM (.str "agg")) (consA (binM ixF (lstM (consA (conM (.str "count")) (consA (conM (.str "sum")) (consA (conM (.str "min")) (consA (conM (.str "max")) (nilA)))))) (appM maxF (consA (conM (.int 0)) (consA (binM subF (varM 1) (conM (.int 2))) (nilA))))) (consA (callM 1 (F ._law_col) (consA (varM 0) (nilA))) (nilA))))) (nameG 2)) (seqM (ifS (andC (tstM (binM eqF (varM 1) (conM (.int 0)))) (andC (tstM (binM gtF (binM ixF (varM 0) (conM (.int 3))) (conM (.int 0)))) (tstM (binM eqF (appM lenF (consA (binM ixF (varM 0) (conM (.int 4))) (nilA))) (conM (.int 0)))))) (seqM (asgM (binM subF (binM ixF (varM 0) (conM (.int 3))) (conM (.int 1))) (subL (varM 0) (conM (.int 3)))) (asgM (tupM (consA (conM (.str "agg")) (consA (conM (.str "count")) (consA (conM .non) (nilA))))) (nameG 2))) (nxM)) (seqM (ifS (andC (tstM (binM eqF (varM 1) (conM (.int 1)))) (notC (truC (binM ixF (varM 0) (conM (.int 2)))))) (asgM (tupM (consA (conM (.str "agg")) (consA (callM 2 (F ._law_take) (consA (varM 0) (consA (conM (.int 4)) (nilA)))) (nilA)))) (nameG 2)) (nxM)) (seqM (ifS (tstM (binM (inF true) (varM 2) (binM ixF (varM 0) (conM (.int 4))))) (exM (metM "list" appendF (binM ixF (varM 0) (conM (.int 4))) (consA (varM 2) (nilA)))) (nxM)) (rtM (varM 2)))))))
noncomputable def b__law_expr (F : Fn → List D → Sto → Option (D × Sto)) : SvM :=
  seqM (asgM (callM 2 (F ._law_take) (consA (varM 0) (consA (conM (.int 14)) (nilA)))) (nameG 2)) (seqM (ifS (andC (tstM (binM gtF (varM 1) (conM (.int 0)))) (andC (tstM (binM gtF (varM 2) (conM (.int 7)))) (tstM (binM gtF (binM ixF (varM 0) (conM (.int 3))) (conM (.int 0)))))) (seqM (asgM (binM subF (binM ixF (varM 0) (conM (.int 3))) (conM (.int 1))) (subL (varM 0) (conM (.int 3)))) (seqM (ifS (tstM (binM gtF (varM 2) (conM (.int 11)))) (rtM (tupM (consA (conM (.str "neg")) (consA (callM 2 (F ._law_expr) (consA (varM 0) (consA (binM subF (varM 1) (conM (.int 1))) (nilA)))) (nilA))))) (nxM)) (seqM (asgM (callM 2 (F ._law_expr) (consA (varM 0) (consA (binM subF (varM 1) (conM (.int 1))) (nilA)))) (nameG 3)) (rtM (tupM (consA (binM ixF (lstM (consA (conM (.str "add")) (consA (conM (.str "sub")) (consA (conM (.str "mul")) (consA (conM (.str "add")) (nilA)))))) (binM subF (varM 2) (conM (.int 8)))) (consA (varM 3) (consA (callM 2 (F ._law_expr) (consA (varM 0) (consA (binM subF (varM 1) (conM (.int 1))) (nilA)))) (nilA))))))))) (nxM)) (seqM (ifS (tstM (binM eqF (varM 2) (conM (.int 1)))) (rtM (tupM (consA (conM (.str "num")) (consA (callM 2 (F ._law_take) (consA (varM 0) (consA (conM (.int 720720)) (nilA)))) (nilA))))) (nxM)) (seqM (ifS (tstM (binM eqF (varM 2) (conM (.int 2)))) (rtM (tupM (consA (conM (.str "text")) (consA (binM ixF (lstM (consA (conM (.str "")) (consA (conM (.str "col")) (consA (conM (.str "agg")) (consA (conM (.str "t")) (consA (conM (.str "count")) (consA (conM (.str "and")) (consA (conM (.str "exists")) (consA (conM (.str "in")) (nilA)))))))))) (callM 2 (F ._law_take) (consA (varM 0) (consA (conM (.int 8)) (nilA))))) (nilA))))) (nxM)) (seqM (ifS (tstM (binM gtF (varM 2) (conM (.int 4)))) (rtM (callM 1 (F ._law_agg) (consA (varM 0) (nilA)))) (nxM)) (rtM (callM 1 (F ._law_col) (consA (varM 0) (nilA))))))))
noncomputable def b__law_question (F : Fn → List D → Sto → Option (D × Sto)) : SvM :=
  seqM (asgM (callM 2 (F ._law_expr) (consA (varM 0) (consA (conM (.int 1)) (nilA)))) (nameG 1)) (seqM (asgM (conM .non) (nameG 2)) (seqM (ifS (tstM (binM eqF (callM 2 (F ._law_take) (consA (varM 0) (consA (conM (.int 2)) (nilA)))) (conM (.int 1)))) (asgM (tupM (consA (conM (.str "null")) (consA (callM 2 (F ._law_expr) (consA (varM 0) (consA (conM (.int 1)) (nilA)))) (nilA)))) (nameG 2)) (nxM)) (seqM (asgM (tupM (consA (conM (.str "from")) (consA (tupM (consA (conM (.str "named")) (consA (conM (.str "s")) (nilA)))) (consA (conM (.str "s")) (consA (conM .non) (nilA)))))) (nameG 3)) (rtM (tupM (consA (conM (.str "question")) (consA (tupM (nilA)) (consA (conM (.bl false)) (consA (tupM (consA (tupM (consA (varM 1) (consA (conM (.str "x")) (nilA)))) (nilA))) (consA (tupM (consA (varM 3) (nilA))) (consA (varM 2) (consA (tupM (consA (callM 1 (F ._law_col) (consA (varM 0) (nilA))) (nilA))) (consA (conM .non) (consA (tupM (nilA)) (consA (conM .non) (nilA))))))))))))))))
noncomputable def b__law_cond (F : Fn → List D → Sto → Option (D × Sto)) : SvM :=
  seqM (asgM (callM 2 (F ._law_take) (consA (varM 0) (consA (conM (.int 16)) (nilA)))) (nameG 2)) (seqM (ifS (andC (tstM (binM gtF (varM 1) (conM (.int 0)))) (andC (tstM (binM gtF (varM 2) (conM (.int 11)))) (tstM (binM gtF (binM ixF (varM 0) (conM (.int 3))) (conM (.int 0)))))) (seqM (asgM (binM subF (binM ixF (varM 0) (conM (.int 3))) (conM (.int 1))) (subL (varM 0) (conM (.int 3)))) (seqM (asgM (binM ixF (lstM (consA (conM (.str "and")) (consA (conM (.str "or")) (nilA)))) (callM 2 (F ._law_take) (consA (varM 0) (consA (conM (.int 2)) (nilA))))) (nameG 3)) (seqM (asgM (callM 2 (F ._law_cond) (consA (varM 0) (consA (binM subF (varM 1) (conM (.int 1))) (nilA)))) (nameG 4)) (rtM (tupM (consA (varM 3) (consA (varM 4) (consA (callM 2 (F ._law_cond) (consA (varM 0) (consA (binM subF (varM 1) (conM (.int 1))) (nilA)))) (nilA))))))))) (nxM)) (seqM (ifS (andC (tstM (binM gtF (varM 1) (conM (.int 0)))) (tstM (binM gtF (varM 2) (conM (.int 7))))) (seqM (asgM (binM ixF (lstM (consA (conM (.str "not")) (consA (conM (.str "maybe")) (nilA)))) (binM modF (appM intF (consA (varM 2) (nilA))) (conM (.int 2)))) (nameG 3)) (rtM (tupM (consA (varM 3) (consA (callM 2 (F ._law_cond) (consA (varM 0) (consA (binM subF (varM 1) (conM (.int 1))) (nilA)))) (nilA)))))) (nxM)) (seqM (ifS (andC (tstM (binM gtF (varM 2) (conM (.int 5)))) (tstM (binM gtF (varM 1) (conM (.int 0))))) (seqM (asgM (tupM (consA (conM (.str "cmp")) (consA (conM (.str "<")) (consA (callM 1 (F ._law_col) (consA (varM 0) (nilA))) (consA (callM 2 (F ._law_expr) (consA (varM 0) (consA (conM (.int 1)) (nilA)))) (nilA)))))) (nameG 5)) (seqM (asgM (binM ixF (lstM (consA (conM .non) (consA (callM 2 (F ._law_cond) (consA (varM 0) (consA (binM subF (varM 1) (conM (.int 1))) (nilA)))) (nilA)))) (callM 2 (F ._law_take) (consA (varM 0) (consA (conM (.int 2)) (nilA))))) (nameG 6)) (seqM (asgM (tupM (consA (conM (.str "from")) (consA (tupM (consA (conM (.str "named")) (consA (conM (.str "s")) (nilA)))) (consA (conM (.str "s")) (consA (conM .non) (nilA)))))) (nameG 7)) (rtM (tupM (consA (conM (.str "exists")) (consA (tupM (consA (varM 7) (consA (tupM (consA (conM (.str "left")) (consA (callM 1 (F ._law_question) (consA (varM 0) (nilA))) (consA (conM (.str "r")) (consA (varM 5) (nilA)))))) (nilA)))) (consA (varM 6) (nilA))))))))) (nxM)) (seqM (ifS (orC (tstM (binM eqF (varM 2) (conM (.int 5)))) (tstM (binM eqF (varM 2) (conM (.int 4))))) (rtM (tupM (consA (conM (.str "in")) (consA (callM 2 (F ._law_expr) (consA (varM 0) (consA (conM (.int 2)) (nilA)))) (consA (callM 1 (F ._law_question) (consA (varM 0) (nilA))) (nilA)))))) (nxM)) (seqM (ifS (tstM (binM eqF (varM 2) (conM (.int 3)))) (rtM (tupM (consA (conM (.str "null")) (consA (callM 2 (F ._law_expr) (consA (varM 0) (consA (conM (.int 4)) (nilA)))) (nilA))))) (nxM)) (seqM (asgM (callM 2 (F ._law_expr) (consA (varM 0) (consA (conM (.int 3)) (nilA)))) (nameG 4)) (seqM (asgM (binM ixF (lstM (consA (conM (.str "=")) (consA (conM (.str "<>")) (consA (conM (.str "<")) (consA (conM (.str "<=")) (consA (conM (.str ">")) (consA (conM (.str ">=")) (nilA)))))))) (callM 2 (F ._law_take) (consA (varM 0) (consA (conM (.int 6)) (nilA))))) (nameG 8)) (rtM (tupM (consA (conM (.str "cmp")) (consA (varM 8) (consA (varM 4) (consA (callM 2 (F ._law_expr) (consA (varM 0) (consA (conM (.int 3)) (nilA)))) (nilA))))))))))))))
noncomputable def b__law_parts (F : Fn → List D → Sto → Option (D × Sto)) : SvM :=
  seqM (ifS (orC (tstM (binM (isF false) (varM 0) (conM .non))) (orC (tstM (binM eqF (binM ixF (varM 0) (conM (.int 0))) (conM (.str "exists")))) (tstM (binM eqF (binM ixF (varM 0) (conM (.int 0))) (conM (.str "col")))))) (rtM (lstM (nilA))) (nxM)) (seqM (ifS (tstM (binM eqF (binM ixF (varM 0) (conM (.int 0))) (conM (.str "in")))) (rtM (lstM (consA (binM ixF (varM 0) (conM (.int 1))) (nilA)))) (nxM)) (rtM (compM (seqI (slM (varM 0) (partM (conM (.int 1))) (noM))) (.one 1) (truC (isiM "tuple" (varM 1))) (varM 1) [1])))
noncomputable def b__law_found (F : Fn → List D → Sto → Option (D × Sto)) : SvM :=
  seqM (asgM (lstM (nilA)) (nameG 2)) (seqM (asgM (lstM (consA (varM 0) (nilA))) (nameG 3)) (seqM (forM (rng1I (consA (conM (.int 20000)) (nilA))) (nameG 4) (seqM (ifS (tstM (binM eqF (appM lenF (consA (varM 3) (nilA))) (conM (.int 0)))) (bkM) (nxM)) (seqM (asgM (metM "list" popF (varM 3) nilA) (nameG 5)) (seqM (ifS (andC (tstM (binM (isF true) (varM 5) (conM .non))) (andC (tstM (binM eqF (binM ixF (varM 5) (conM (.int 0))) (varM 1))) (tstM (binM (inF true) (varM 5) (varM 2))))) (exM (metM "list" appendF (varM 2) (consA (varM 5) (nilA)))) (nxM)) (asgM (binM addF (varM 3) (lrevM (callM 1 (F ._law_parts) (consA (varM 5) (nilA))))) (nameG 3)))))) (rtM (appM tupleF (consA (varM 2) (nilA))))))
noncomputable def b__law_levels (F : Fn → List D → Sto → Option (D × Sto)) : SvM :=
  seqM (asgM (compM (seqI (lstM (consA (varM 0) (nilA)))) (.one 5) (tstM (binM (isF true) (varM 5) (conM .non))) (varM 5) [5]) (nameG 1)) (seqM (asgM (conM (.int 0)) (nameG 2)) (seqM (forM (rng1I (consA (conM (.int 400)) (nilA))) (nameG 3) (seqM (ifS (tstM (binM eqF (appM lenF (consA (varM 1) (nilA))) (conM (.int 0)))) (bkM) (nxM)) (seqM (asgM (binM addF (varM 2) (conM (.int 1))) (nameG 2)) (seqM (asgM (lstM (nilA)) (nameG 4)) (seqM (forM (seqI (varM 1)) (nameG 5) (ifS (tstM (binM neF (binM ixF (varM 5) (conM (.int 0))) (conM (.str "agg")))) (asgM (binM addF (varM 4) (callM 1 (F ._law_parts) (consA (varM 5) (nilA)))) (nameG 4)) (nxM))) (asgM (varM 4) (nameG 1))))))) (rtM (varM 2))))
noncomputable def b__law_split (F : Fn → List D → Sto → Option (D × Sto)) : SvM :=
  seqM (asgM (lstM (nilA)) (nameG 1)) (seqM (asgM (lstM (consA (varM 0) (nilA))) (nameG 2)) (seqM (forM (rng1I (consA (conM (.int 20000)) (nilA))) (nameG 3) (seqM (ifS (tstM (binM eqF (appM lenF (consA (varM 2) (nilA))) (conM (.int 0)))) (bkM) (nxM)) (seqM (asgM (metM "list" popF (varM 2) nilA) (nameG 4)) (ifS (tstM (binM eqF (binM ixF (varM 4) (conM (.int 0))) (conM (.str "and")))) (seqM (exM (metM "list" appendF (varM 2) (consA (binM ixF (varM 4) (conM (.int 2))) (nilA)))) (exM (metM "list" appendF (varM 2) (consA (binM ixF (varM 4) (conM (.int 1))) (nilA))))) (exM (metM "list" appendF (varM 1) (consA (varM 4) (nilA)))))))) (rtM (appM tupleF (consA (varM 1) (nilA))))))
noncomputable def b__law_put (F : Fn → List D → Sto → Option (D × Sto)) : SvM :=
  seqM (ifS (tstM (binM (isF false) (varM 0) (conM .non))) (rtM (conM .non)) (nxM)) (seqM (ifS (andC (orC (tstM (binM eqF (binM ixF (varM 0) (conM (.int 0))) (conM (.str "col")))) (tstM (binM eqF (binM ixF (varM 0) (conM (.int 0))) (conM (.str "agg"))))) (tstM (binM (inD false) (varM 0) (varM 1)))) (rtM (binM getF (varM 1) (varM 0))) (nxM)) (seqM (ifS (orC (tstM (binM eqF (binM ixF (varM 0) (conM (.int 0))) (conM (.str "exists")))) (tstM (binM eqF (binM ixF (varM 0) (conM (.int 0))) (conM (.str "col"))))) (rtM (varM 0)) (nxM)) (seqM (ifS (tstM (binM eqF (binM ixF (varM 0) (conM (.int 0))) (conM (.str "in")))) (rtM (tupM (consA (conM (.str "in")) (consA (callM 2 (F ._law_put) (consA (binM ixF (varM 0) (conM (.int 1))) (consA (varM 1) (nilA)))) (consA (binM ixF (varM 0) (conM (.int 2))) (nilA)))))) (nxM)) (seqM (asgM (lstM (nilA)) (nameG 2)) (seqM (forM (seqI (varM 0)) (nameG 3) (ifS (truC (isiM "tuple" (varM 3))) (exM (metM "list" appendF (varM 2) (consA (callM 2 (F ._law_put) (consA (varM 3) (consA (varM 1) (nilA)))) (nilA)))) (exM (metM "list" appendF (varM 2) (consA (varM 3) (nilA)))))) (rtM (appM tupleF (consA (varM 2) (nilA)))))))))
noncomputable def b__law_table (F : Fn → List D → Sto → Option (D × Sto)) : SvM :=
  seqM (asgM (newD) (nameG 2)) (seqM (forM (seqI (binM addF (callM 2 (F ._law_found) (consA (varM 1) (consA (conM (.str "col")) (nilA)))) (callM 2 (F ._law_found) (consA (varM 1) (consA (conM (.str "agg")) (nilA)))))) (nameG 3) (seqM (asgM (callM 2 (F ._law_take) (consA (varM 0) (consA (conM (.int 7)) (nilA)))) (nameG 4)) (seqM (ifS (tstM (binM eqF (varM 4) (conM (.int 1)))) (asgM (tupM (consA (conM (.str "add")) (consA (varM 3) (consA (tupM (consA (conM (.str "num")) (consA (conM (.int 1)) (nilA)))) (nilA))))) (subD (varM 2) (varM 3))) (nxM)) (seqM (ifS (tstM (binM eqF (varM 4) (conM (.int 2)))) (asgM (callM 1 (F ._law_col) (consA (varM 0) (nilA))) (subD (varM 2) (varM 3))) (nxM)) (seqM (ifS (tstM (binM eqF (varM 4) (conM (.int 3)))) (asgM (tupM (consA (conM (.str "neg")) (consA (tupM (consA (conM (.str "agg")) (consA (conM (.str "sum")) (consA (tupM (consA (conM (.str "col")) (consA (conM (.str "t")) (consA (conM (.str "a")) (nilA))))) (nilA))))) (nilA)))) (subD (varM 2) (varM 3))) (nxM)) (ifS (tstM (binM eqF (varM 4) (conM (.int 4)))) (asgM (tupM (consA (conM (.str "agg")) (consA (callM 2 (F ._law_take) (consA (varM 0) (consA (conM (.int 4)) (nilA)))) (nilA)))) (subD (varM 2) (varM 3))) (nxM))))))) (seqM (asgM (tupM (consA (conM (.str "num")) (consA (conM (.int 0)) (nilA)))) (subD (varM 2) (callM 1 (F ._law_col) (consA (varM 0) (nilA))))) (seqM (asgM (tupM (consA (conM (.str "col")) (consA (conM (.str "s")) (consA (conM (.str "b")) (nilA))))) (subD (varM 2) (callM 1 (F ._law_agg) (consA (varM 0) (nilA))))) (rtM (varM 2)))))
noncomputable def b__law_same (F : Fn → List D → Sto → Option (D × Sto)) : SvM :=
  seqM (ifS (orC (tstM (binM (isF false) (varM 1) (conM .non))) (tstM (binM (isF false) (varM 0) (conM .non)))) (rtM (andV (binM (isF false) (varM 0) (conM .non)) (binM (isF false) (varM 1) (conM .non)))) (nxM)) (seqM (ifS (orC (truC (isiM "bool" (varM 1))) (truC (isiM "bool" (varM 0)))) (rtM (andV (isiM "bool" (varM 1)) (andV (isiM "bool" (varM 0)) (binM eqF (varM 0) (varM 1))))) (nxM)) (seqM (ifS (truC (isiM "int" (varM 1))) (rtM (andV (isiM "int" (varM 0)) (binM eqF (varM 0) (varM 1)))) (nxM)) (seqM (ifS (truC (isiM "str" (varM 1))) (rtM (andV (isiM "str" (varM 0)) (binM eqF (varM 0) (varM 1)))) (nxM)) (seqM (ifS (orC (notC (truC (isiM "tuple" (varM 1)))) (orC (notC (truC (isiM "tuple" (varM 0)))) (tstM (binM neF (appM lenF (consA (varM 0) (nilA))) (appM lenF (consA (varM 1) (nilA))))))) (rtM (conM (.bl false))) (nxM)) (rtM (appM allF (consA (compM (rng1I (consA (appM lenF (consA (varM 1) (nilA))) (nilA))) (.one 2) (yesC) (callM 2 (F ._law_same) (consA (binM ixF (varM 0) (varM 2)) (consA (binM ixF (varM 1) (varM 2)) (nilA)))) [2]) (nilA))))))))
noncomputable def b__law_is_right (F : Fn → List D → Sto → Option (D × Sto)) : SvM :=
  seqM (ifS (notC (truC (callM 2 (F ._law_same) (consA (callM 1 (F .columns_in) (consA (varM 1) (nilA))) (consA (callM 2 (F ._law_found) (consA (varM 1) (consA (conM (.str "col")) (nilA)))) (nilA)))))) (rtM (conM (.bl false))) (nxM)) (seqM (ifS (notC (truC (callM 2 (F ._law_same) (consA (callKM 0 1 1 [0] (F .aggs_in) (nilA) (consA (varM 1) (nilA))) (consA (callM 2 (F ._law_found) (consA (varM 1) (consA (conM (.str "agg")) (nilA)))) (nilA)))))) (rtM (conM (.bl false))) (nxM)) (seqM (ifS (andC (truC (binM ixF (varM 0) (conM (.int 2)))) (notC (truC (callM 2 (F ._law_same) (consA (callKM 0 1 1 [0] (F .height) (nilA) (consA (varM 1) (nilA))) (consA (callM 1 (F ._law_levels) (consA (varM 1) (nilA))) (nilA))))))) (rtM (conM (.bl false))) (nxM)) (seqM (asgM (callM 2 (F ._law_table) (consA (varM 0) (consA (varM 1) (nilA)))) (nameG 2)) (seqM (lockS 2 (asgM (compM (keysI (varM 2)) (.one 5) (yesC) (tupM (consA (varM 5) (consA (binM getF (varM 2) (varM 5)) (nilA)))) [5]) (nameG 3))) (seqM (ifS (notC (truC (callM 2 (F ._law_same) (consA (callM 2 (F .replaced) (consA (varM 1) (consA (varM 2) (nilA)))) (consA (callM 2 (F ._law_put) (consA (varM 1) (consA (appM dictF (consA (varM 3) nilA)) (nilA)))) (nilA)))))) (rtM (conM (.bl false))) (nxM)) (seqM (ifS (notC (truC (callM 2 (F ._law_same) (consA (appM tupleF (consA (lockM 2 (compM (keysI (varM 2)) (.one 5) (yesC) (tupM (consA (varM 5) (consA (binM getF (varM 2) (varM 5)) (nilA)))) [5])) (nilA))) (consA (appM tupleF (consA (varM 3) (nilA))) (nilA)))))) (rtM (conM (.bl false))) (nxM)) (seqM (asgM (tupM (consA (varM 1) (consA (callM 2 (F ._law_found) (consA (varM 1) (consA (conM (.str "col")) (nilA)))) (nilA)))) (nameG 4)) (rtM (callM 2 (F ._law_same) (consA (tupM (consA (callKM 0 2 2 [1, 0] (F .replaced) (nilA) (consA (newD) (consA (varM 1) (nilA)))) (consA (callKM 0 1 1 [0] (F .columns_in) (nilA) (consA (varM 1) (nilA))) (nilA)))) (consA (varM 4) (nilA))))))))))))
noncomputable def b__law_conds_right (F : Fn → List D → Sto → Option (D × Sto)) : SvM :=
  seqM (asgM (conM .non) (nameG 2)) (seqM (forM (seqI (varM 1)) (nameG 3) (ifS (tstM (binM (isF false) (varM 2) (conM .non))) (asgM (varM 3) (nameG 2)) (asgM (tupM (consA (conM (.str "and")) (consA (varM 2) (consA (varM 3) (nilA))))) (nameG 2)))) (seqM (asgM (lstM (nilA)) (nameG 4)) (seqM (forM (seqI (varM 1)) (nameG 3) (asgM (binM addF (varM 4) (appM listF (consA (callM 1 (F ._law_split) (consA (varM 3) (nilA))) (nilA)))) (nameG 4))) (seqM (ifS (orC (notC (truC (callM 2 (F ._law_same) (consA (callKM 0 1 1 [0] (F .joined) (nilA) (consA (appM tupleF (consA (varM 1) (nilA))) (nilA))) (consA (varM 2) (nilA)))))) (notC (truC (callM 2 (F ._law_same) (consA (callKM 0 1 1 [0] (F .members) (nilA) (consA (varM 2) (nilA))) (consA (appM tupleF (consA (varM 4) (nilA))) (nilA))))))) (rtM (conM (.bl false))) (nxM)) (seqM (asgM (callM 1 (F .members) (consA (callM 1 (F .joined) (consA (callM 1 (F .members) (consA (varM 2) (nilA))) (nilA))) (nilA))) (nameG 5)) (rtM (andV (callM 2 (F ._law_same) (consA (varM 5) (consA (appM tupleF (consA (varM 4) (nilA))) (nilA)))) (callM 2 (F ._law_is_right) (consA (varM 0) (consA (varM 2) (nilA)))))))))))
noncomputable def b_law (F : Fn → List D → Sto → Option (D × Sto)) : SvM :=
  seqM (asgM (lstM (consA (callM 1 (F ._law_numbers) (consA (varM 0) (nilA))) (consA (conM (.int 0)) (consA (conM (.bl true)) (consA (conM (.int 40)) (consA (lstM (nilA)) (nilA))))))) (nameG 1)) (seqM (asgM (callM 2 (F ._law_cond) (consA (varM 1) (consA (conM (.int 5)) (nilA)))) (nameG 2)) (seqM (ifS (orC (notC (truC (callM 2 (F ._law_conds_right) (consA (varM 1) (consA (lstM (nilA)) (nilA)))))) (orC (notC (truC (callM 2 (F ._law_same) (consA (callM 1 (F .members) (consA (conM .non) (nilA))) (consA (tupM (nilA)) (nilA)))))) (notC (truC (callM 2 (F ._law_is_right) (consA (varM 1) (consA (conM .non) (nilA)))))))) (rtM (conM (.bl false))) (nxM)) (seqM (ifS (orC (notC (truC (callM 2 (F ._law_is_right) (consA (varM 1) (consA (varM 2) (nilA)))))) (notC (truC (callM 2 (F ._law_same) (consA (callM 1 (F .members) (consA (varM 2) (nilA))) (consA (callM 1 (F ._law_split) (consA (varM 2) (nilA))) (nilA))))))) (rtM (conM (.bl false))) (nxM)) (seqM (forM (seqI (lstM (consA (conM (.int 4)) (consA (conM (.int 5)) (consA (conM (.int 2)) (consA (conM (.int 6)) (nilA))))))) (nameG 3) (seqM (exM (callM 3 (F ._law_begun) (consA (varM 1) (consA (binM eqF (callM 2 (F ._law_take) (consA (varM 1) (consA (conM (.int 3)) (nilA)))) (conM (.int 0))) (consA (conM (.int 40)) (nilA)))))) (ifS (notC (truC (callM 2 (F ._law_is_right) (consA (varM 1) (consA (callM 2 (F ._law_expr) (consA (varM 1) (consA (varM 3) (nilA)))) (nilA)))))) (rtM (conM (.bl false))) (nxM)))) (seqM (forM (seqI (lstM (consA (conM (.int 5)) (consA (conM (.int 2)) (nilA))))) (nameG 3) (seqM (exM (callM 3 (F ._law_begun) (consA (varM 1) (consA (conM (.bl false)) (consA (conM (.int 40)) (nilA)))))) (ifS (notC (truC (callM 2 (F ._law_is_right) (consA (varM 1) (consA (callM 2 (F ._law_cond) (consA (varM 1) (consA (varM 3) (nilA)))) (nilA)))))) (rtM (conM (.bl false))) (nxM)))) (seqM (forM (seqI (lstM (consA (conM (.int 3)) (consA (conM (.int 40)) (nilA))))) (nameG 4) (seqM (asgM (appM minF (consA (varM 4) (consA (binM ixF (lstM (consA (conM (.int 1)) (consA (conM (.int 2)) (consA (conM (.int 3)) (consA (conM (.int 4)) (consA (conM (.int 6)) (consA (conM (.int 40)) (nilA)))))))) (callM 2 (F ._law_take) (consA (varM 1) (consA (conM (.int 6)) (nilA))))) (nilA)))) (nameG 5)) (seqM (exM (callM 3 (F ._law_begun) (consA (varM 1) (consA (conM (.bl true)) (consA (binM subF (conM (.int 41)) (varM 5)) (nilA)))))) (ifS (notC (truC (callM 2 (F ._law_conds_right) (consA (varM 1) (consA (compM (rng1I (consA (varM 5) (nilA))) (.one 6) (yesC) (callM 2 (F ._law_cond) (consA (varM 1) (consA (binM mulF (appM intF (consA (binM ltF (varM 6) (conM (.int 7))) (nilA))) (conM (.int 2))) (nilA)))) [6]) (nilA)))))) (rtM (conM (.bl false))) (nxM))))) (rtM (andV (callM 2 (F ._law_same) (consA (callM 1 (F .columns_in) (consA (varM 2) (nilA))) (consA (callM 2 (F ._law_found) (consA (varM 2) (consA (conM (.str "col")) (nilA)))) (nilA)))) (callM 2 (F ._law_same) (consA (callM 1 (F .members) (consA (varM 2) (nilA))) (consA (callM 1 (F ._law_split) (consA (varM 2) (nilA))) (nilA))))))))))))
noncomputable def b_rebuilt__step (F : Fn → List D → Sto → Option (D × Sto)) : SvM :=
  rtM (callNM 2 tabN (gN F) (consA (callM 2 (F .with_parts) (consA (varM 0) (consA (varM 1) (nilA)))) (nilA)))
noncomputable def b_replaced__change (F : Fn → List D → Sto → Option (D × Sto)) : SvM :=
  rtM (ifM (truC (callM 1 (F .parts_of) (consA (varM 0) (nilA)))) (varM 0) (callM 2 (F .leaf_replaced) (consA (varM 0) (consA (varM 1) (nilA)))))
noncomputable def step (F : Fn → List D → Sto → Option (D × Sto)) : Fn → List D → Sto → Option (D × Sto)
  | .parts_of => bodyM 3 (b_parts_of F)
  | .with_parts => bodyM 4 (b_with_parts F)
  | .reduced => bodyM 7 (b_reduced F)
  | .rebuilt => bodyM 3 (b_rebuilt F)
  | .members => bodyM 4 (b_members F)
  | .joined => bodyM 3 (b_joined F)
  | .height => bodyM 5 (b_height F)
  | .columns_in => bodyM 4 (b_columns_in F)
  | .aggs_in => bodyM 3 (b_aggs_in F)
  | .replaced => bodyM 3 (b_replaced F)
  | .leaf_replaced => bodyM 3 (b_leaf_replaced F)
  | .leaves_of => bodyM 5 (b_leaves_of F)
  | .columns_at => bodyM 2 (b_columns_at F)
  | .is_column => bodyM 1 (b_is_column F)
  | ._law_numbers => bodyM 8 (b__law_numbers F)
  | ._law_take => bodyM 2 (b__law_take F)
  | ._law_begun => bodyM 3 (b__law_begun F)
  | ._law_col => bodyM 2 (b__law_col F)
  | ._law_agg => bodyM 3 (b__law_agg F)
  | ._law_expr => bodyM 4 (b__law_expr F)
  | ._law_question => bodyM 4 (b__law_question F)
  | ._law_cond => bodyM 9 (b__law_cond F)
  | ._law_parts => bodyM 2 (b__law_parts F)
  | ._law_found => bodyM 6 (b__law_found F)
  | ._law_levels => bodyM 6 (b__law_levels F)
  | ._law_split => bodyM 5 (b__law_split F)
  | ._law_put => bodyM 4 (b__law_put F)
  | ._law_table => bodyM 5 (b__law_table F)
  | ._law_same => bodyM 3 (b__law_same F)
  | ._law_is_right => bodyM 6 (b__law_is_right F)
  | ._law_conds_right => bodyM 6 (b__law_conds_right F)
  | .law => bodyM 7 (b_law F)
  | .rebuilt__step => bodyM 3 (b_rebuilt__step F)
  | .replaced__change => bodyM 2 (b_replaced__change F)
noncomputable def den : Nat → Fn → List D → Sto → Option (D × Sto)
  | 0 => fun _ _ _ => none
  | k + 1 => step (den k)
end Gn
namespace Gn
open PySem L2 Ml
/-- what law computes at a script -/
def Good : Prop := ∀ ns : List Int, ns.length ≤ 63 → ∃ S, den 100 .law [.rl (ns.map D.int)] [] = some (.bl true, S)
end Gn
set_option maxHeartbeats 4000000 -- wide
namespace Gn
open L2 PyProof.Rows PySem PySem.Spec Ml
def top (i : Nat) : Stmt := PySem.Challenge.pw_leastplans_k20_trees_gone_through.main.body.getD i (.Pass ⟨0, 0, 0, 0⟩)
abbrev s3 : Stmt := top 3
abbrev s4 : Stmt := top 4
abbrev s5 : Stmt := top 5
abbrev s6 : Stmt := top 6
abbrev s7 : Stmt := top 7
abbrev s8 : Stmt := top 8
abbrev s9 : Stmt := top 9
abbrev s11 : Stmt := top 11
abbrev s12 : Stmt := top 12
abbrev s13 : Stmt := top 13
abbrev s14 : Stmt := top 14
abbrev s15 : Stmt := top 15
abbrev s16 : Stmt := top 16
abbrev s17 : Stmt := top 17
abbrev s19 : Stmt := top 19
abbrev s20 : Stmt := top 20
abbrev s21 : Stmt := top 21
abbrev s22 : Stmt := top 22
abbrev s23 : Stmt := top 23
abbrev s24 : Stmt := top 24
abbrev s25 : Stmt := top 25
abbrev s26 : Stmt := top 26
abbrev s27 : Stmt := top 27
abbrev s28 : Stmt := top 28
abbrev s29 : Stmt := top 29
abbrev s30 : Stmt := top 30
abbrev s31 : Stmt := top 31
abbrev s32 : Stmt := top 32
abbrev s33 : Stmt := top 33
abbrev s34 : Stmt := top 34
abbrev s35 : Stmt := top 35
abbrev s36 : Stmt := top 36
def nm : Fn → Str
  | .parts_of => "parts_of"
  | .with_parts => "with_parts"
  | .reduced => "reduced"
  | .rebuilt => "rebuilt"
  | .members => "members"
  | .joined => "joined"
  | .height => "height"
  | .columns_in => "columns_in"
  | .aggs_in => "aggs_in"
  | .replaced => "replaced"
  | .leaf_replaced => "leaf_replaced"
  | .leaves_of => "leaves_of"
  | .columns_at => "columns_at"
  | .is_column => "is_column"
  | ._law_numbers => "_law_numbers"
  | ._law_take => "_law_take"
  | ._law_begun => "_law_begun"
  | ._law_col => "_law_col"
  | ._law_agg => "_law_agg"
  | ._law_expr => "_law_expr"
  | ._law_question => "_law_question"
  | ._law_cond => "_law_cond"
  | ._law_parts => "_law_parts"
  | ._law_found => "_law_found"
  | ._law_levels => "_law_levels"
  | ._law_split => "_law_split"
  | ._law_put => "_law_put"
  | ._law_table => "_law_table"
  | ._law_same => "_law_same"
  | ._law_is_right => "_law_is_right"
  | ._law_conds_right => "_law_conds_right"
  | .law => "law"
  | .rebuilt__step => "rebuilt__step"
  | .replaced__change => "replaced__change"
def stm : Fn → Stmt
  | .parts_of => s3
  | .with_parts => s4
  | .reduced => s5
  | .rebuilt => s6
  | .members => s7
  | .joined => s8
  | .height => s9
  | .columns_in => s11
  | .aggs_in => s12
  | .replaced => s13
  | .leaf_replaced => s14
  | .leaves_of => s15
  | .columns_at => s16
  | .is_column => s17
  | ._law_numbers => s19
  | ._law_take => s20
  | ._law_begun => s21
  | ._law_col => s22
  | ._law_agg => s23
  | ._law_expr => s24
  | ._law_question => s25
  | ._law_cond => s26
  | ._law_parts => s27
  | ._law_found => s28
  | ._law_levels => s29
  | ._law_split => s30
  | ._law_put => s31
  | ._law_table => s32
  | ._law_same => s33
  | ._law_is_right => s34
  | ._law_conds_right => s35
  | .law => s36
  | .rebuilt__step => nst_rebuilt__step
  | .replaced__change => nst_replaced__change
def par : Fn → List Str
  | .parts_of => ["thing"]
  | .with_parts => ["thing", "new_parts"]
  | .reduced => ["thing", "step"]
  | .rebuilt => ["thing", "change"]
  | .members => ["cond"]
  | .joined => ["conds"]
  | .height => ["thing"]
  | .columns_in => ["thing"]
  | .aggs_in => ["thing"]
  | .replaced => ["thing", "table"]
  | .leaf_replaced => ["leaf", "table"]
  | .leaves_of => ["thing"]
  | .columns_at => ["leaf"]
  | .is_column => ["piece"]
  | ._law_numbers => ["_law_script"]
  | ._law_take => ["_law_box", "_law_many"]
  | ._law_begun => ["_law_box", "_law_plain", "_law_signs"]
  | ._law_col => ["_law_box"]
  | ._law_agg => ["_law_box"]
  | ._law_expr => ["_law_box", "_law_deep"]
  | ._law_question => ["_law_box"]
  | ._law_cond => ["_law_box", "_law_deep"]
  | ._law_parts => ["_law_node"]
  | ._law_found => ["_law_node", "_law_word"]
  | ._law_levels => ["_law_node"]
  | ._law_split => ["_law_test"]
  | ._law_put => ["_law_node", "_law_swaps"]
  | ._law_table => ["_law_box", "_law_node"]
  | ._law_same => ["_law_one", "_law_due"]
  | ._law_is_right => ["_law_box", "_law_node"]
  | ._law_conds_right => ["_law_box", "_law_tests"]
  | .law => ["_law_script"]
  | .rebuilt__step => []
  | .replaced__change => []
structure Txt (K : PySem.W.Frag) (w : World) (g : Str → Option Value) where
  ad : Fn → Addr
  fd : Fn → FuncData
  fn : ∀ f, isTop f = true → Fun K (nm f) (nm f) (stm f) (ad f) (fd f)
  mg : ∀ f, isTop f = true → g (nm f) = some (.ref (ad f))
  ns : ∀ f, isTop f = true → PySem.W.nsIn K mainGlobals (nm f) = some (some (.ref (ad f)))
  bd : ∀ f, isTop f = true → Binds K (fd f) (par f) []
  lawB : ∀ (s : Shared) (u : Value), BindsTo s (fd .law) ⟨[u], []⟩ [("_law_script", u)]
  z_abs : g "abs" = none
  z_all : g "all" = none
  z_bool : g "bool" = none
  z_dict : g "dict" = none
  z_int : g "int" = none
  z_isinstance : g "isinstance" = none
  z_len : g "len" = none
  z_list : g "list" = none
  z_max : g "max" = none
  z_min : g "min" = none
  z_range : g "range" = none
  z_reversed : g "reversed" = none
  z_str : g "str" = none
  z_tuple : g "tuple" = none
  c_rebuilt : Addr
  P_rebuilt : Addr
  fc_rebuilt : FunC K "rebuilt" "rebuilt" s6 (ad .rebuilt) (fd .rebuilt) c_rebuilt
  c_replaced : Addr
  P_replaced : Addr
  fc_replaced : FunC K "replaced" "replaced" s13 (ad .replaced) (fd .replaced) c_replaced
  u_rebuilt : ∀ p ∈ ([(P_rebuilt, fun _ _ => ("rebuilt.<locals>.step" : Str)), (P_replaced, fun _ _ => ("replaced.<locals>.change" : Str))] : List NdefX.NTab), p.1 = P_rebuilt → p.2 = fun _ _ => ("rebuilt.<locals>.step" : Str)
  u_replaced : ∀ p ∈ ([(P_rebuilt, fun _ _ => ("rebuilt.<locals>.step" : Str)), (P_replaced, fun _ _ => ("replaced.<locals>.change" : Str))] : List NdefX.NTab), p.1 = P_replaced → p.2 = fun _ _ => ("replaced.<locals>.change" : Str)
  kb_aggs_in_0_thing : KBind (fd .aggs_in) (par .aggs_in) ["thing"] 0 [0]
  kb_columns_in_0_thing : KBind (fd .columns_in) (par .columns_in) ["thing"] 0 [0]
  kb_height_0_thing : KBind (fd .height) (par .height) ["thing"] 0 [0]
  kb_joined_0_conds : KBind (fd .joined) (par .joined) ["conds"] 0 [0]
  kb_members_0_cond : KBind (fd .members) (par .members) ["cond"] 0 [0]
  kb_replaced_0_table_thing : KBind (fd .replaced) (par .replaced) ["table", "thing"] 0 [1, 0]
  c_NO_PLACESa : Addr
  c_NO_PLACESg : g "NO_PLACES" = some (.ref c_NO_PLACESa)
  c_NO_PLACESr : ∀ P b t H m, Rp ⟨K, P, w, b, t⟩ H m c_NO_PLACES (.ref c_NO_PLACESa)
  c_PART_PLACESa : Addr
  c_PART_PLACESg : g "PART_PLACES" = some (.ref c_PART_PLACESa)
  c_PART_PLACESd : CDict K w c_PART_PLACESa c_PART_PLACES
variable {K : PySem.W.Frag} {w : World} {g : Str → Option Value}
abbrev Txt.tb (T : Txt K w g) : List NdefX.NTab := [(T.P_rebuilt, fun _ _ => ("rebuilt.<locals>.step" : Str)), (T.P_replaced, fun _ _ => ("replaced.<locals>.change" : Str))]
abbrev Txt.cs (T : Txt K w g) : List (Addr × Addr) := [(T.c_rebuilt, T.P_rebuilt), (T.c_replaced, T.P_replaced)]
structure All (P : Program) (T : Txt K w g) (base : Heap) (k : Nat) (F : Fn → List D → Sto → Option (D × Sto)) : Prop where
  f : ∀ f, isTop f = true → FnOk P w K g base CX0 k (T.ad f) (T.fd f) (par f) (spM ⟨K, P, w, base, T.tb⟩ (par f).length (F f))
  n : ∀ id nd, tabN id = some nd → NokM P w K g base T.tb k nd (gN F id)
theorem if_cand {z y : Str} {α : Type} {a G : α} {b : Option α} {C : α → Prop} (h : z = y → C a) (h2 : b = some G → C G) : (if z = y then some a else b) = some G → C G := fun e => by
  split at e
  · rename_i q; cases e; exact h q
  · exact h2 e
theorem if_cand0 {α : Type} {G : α} {C : α → Prop} : (none : Option α) = some G → C G := fun e => nomatch e
end Gn
set_option maxHeartbeats 4000000 -- wide
namespace Gn
open L2 PyProof.Rows PySem PySem.Spec Ml
section
variable {P : Program} {w : World} {K : PySem.W.Frag} {g : Str → Option Value} {base : Heap}
theorem sc_parts_of : FnScope ["thing", "first", "behind"] (par .parts_of) (defScope s3) := ⟨rfl, rfl, rfl, by decide +kernel, rfl, by decide +kernel, by decide +kernel⟩
theorem nd0_parts_of : (["thing", "first", "behind"] : List Str).Nodup := by decide +kernel
theorem ok_parts_of {k : Nat} {F : Fn → List D → Sto → Option (D × Sto)} (T : Txt K w g) (AH : ∀ base, (∀ p ∈ T.cs, LamX.TabB base g p.1 p.2) → All P T base k F) (hTB : ∀ p ∈ T.cs, LamX.TabB base g p.1 p.2) :
    FnOk P w K g base CX0 (k + 1) (T.ad .parts_of) (T.fd .parts_of) (par .parts_of) (spM ⟨K, P, w, base, T.tb⟩ (par .parts_of).length (bodyM 3 (b_parts_of F))) := by
  refine ok_def (N := ["thing", "first", "behind"]) (T.fn .parts_of rfl) sc_parts_of (by decide) fun cdv A outer s0 H E hr => ?_
  have nd := nd0_parts_of
  have IH := AH base hTB
  exact (mss_cons (ms_asg (me_cget T.c_PART_PLACESd rfl T.c_PART_PLACESg (me_ix (me_var 0) me_int) (me_con (pe_glob (v := .ref T.c_NO_PLACESa) rfl T.c_NO_PLACESg rfl) (fun H m => T.c_NO_PLACESr P base T.tb H m))) (mg_tup rfl (mgs_cons (mg_name 1 nd rfl (.inl rfl)) (mgs_cons (mg_name 2 nd rfl (.inl rfl)) mgs_nil))))
    (mss_one (ms_ret (me_slice (me_var 0) (mo_some (me_var 1)) (mo_some (me_var 2))))))
theorem sc_with_parts : FnScope ["thing", "new_parts", "first", "behind"] (par .with_parts) (defScope s4) := ⟨rfl, rfl, rfl, by decide +kernel, rfl, by decide +kernel, by decide +kernel⟩
theorem nd0_with_parts : (["thing", "new_parts", "first", "behind"] : List Str).Nodup := by decide +kernel
theorem ok_with_parts {k : Nat} {F : Fn → List D → Sto → Option (D × Sto)} (T : Txt K w g) (AH : ∀ base, (∀ p ∈ T.cs, LamX.TabB base g p.1 p.2) → All P T base k F) (hTB : ∀ p ∈ T.cs, LamX.TabB base g p.1 p.2) :
    FnOk P w K g base CX0 (k + 1) (T.ad .with_parts) (T.fd .with_parts) (par .with_parts) (spM ⟨K, P, w, base, T.tb⟩ (par .with_parts).length (bodyM 4 (b_with_parts F))) := by
  refine ok_def (N := ["thing", "new_parts", "first", "behind"]) (T.fn .with_parts rfl) sc_with_parts (by decide) fun cdv A outer s0 H E hr => ?_
  have nd := nd0_with_parts
  have IH := AH base hTB
  exact (mss_cons (ms_asg (me_cget T.c_PART_PLACESd rfl T.c_PART_PLACESg (me_ix (me_var 0) me_int) (me_con (pe_glob (v := .ref T.c_NO_PLACESa) rfl T.c_NO_PLACESg rfl) (fun H m => T.c_NO_PLACESr P base T.tb H m))) (mg_tup rfl (mgs_cons (mg_name 2 nd rfl (.inl rfl)) (mgs_cons (mg_name 3 nd rfl (.inl rfl)) mgs_nil))))
    (mss_one (ms_ret (me_add (me_add (me_slice (me_var 0) mo_none (mo_some (me_var 2))) (me_callTy call_tuple_of tupleF_ok rfl T.z_tuple (by decide +kernel) (ma_cons (me_var 1) ma_nil))) (me_slice (me_var 0) (mo_some (me_var 3)) mo_none)))))
theorem sc_reduced : FnScope ["thing", "step", "nodes", "firsts", "at", "made", "many"] (par .reduced) (defScope s5) := ⟨rfl, rfl, rfl, by decide +kernel, rfl, by decide +kernel, by decide +kernel⟩
theorem nd0_reduced : (["thing", "step", "nodes", "firsts", "at", "made", "many"] : List Str).Nodup := by decide +kernel
theorem ok_reduced {k : Nat} {F : Fn → List D → Sto → Option (D × Sto)} (T : Txt K w g) (AH : ∀ base, (∀ p ∈ T.cs, LamX.TabB base g p.1 p.2) → All P T base k F) (hTB : ∀ p ∈ T.cs, LamX.TabB base g p.1 p.2) :
    FnOk P w K g base CX0 (k + 1) (T.ad .reduced) (T.fd .reduced) (par .reduced) (spM ⟨K, P, w, base, T.tb⟩ (par .reduced).length (bodyM 7 (b_reduced F))) := by
  refine ok_def (N := ["thing", "step", "nodes", "firsts", "at", "made", "many"]) (T.fn .reduced rfl) sc_reduced (by decide) fun cdv A outer s0 H E hr => ?_
  have nd := nd0_reduced
  have IH := AH base hTB
  exact (mss_cons (ms_set 2 nd rfl (.inl rfl) (me_lst (ma_cons (me_var 0) ma_nil)))
    (mss_cons (ms_set 3 nd rfl (.inl rfl) (me_lst ma_nil))
    (mss_cons (ms_set 4 nd rfl (.inl rfl) me_int)
    (mss_cons (ms_while PassesOwn.never (mt_cmp or_lt ltF_ok (me_var 4) (me_callB call_len lenF_ok rfl T.z_len (by decide +kernel) (ma_cons (me_var 2) ma_nil)) (nomark _)) (mss_cons (ms_expr (me_bm PySem.F.plainAttrs_list PySem.F.slot_list_append PySem.F.type_list_append mt_append appendF_ok (me_var 3) (ma_cons (me_callB call_len lenF_ok rfl T.z_len (by decide +kernel) (ma_cons (me_var 2) ma_nil)) ma_nil)))
    (mss_cons (ms_expr (me_bm PySem.F.plainAttrs_list PySem.F.slot_list_extend PySem.F.type_list_extend mt_extendA extendF_ok (me_var 2) (ma_cons (me_call (IH.f .parts_of rfl) hr rfl (T.mg .parts_of rfl) (T.fn .parts_of rfl).kp (T.bd .parts_of rfl) (ma_cons (me_ix (me_var 2) (me_var 4)) ma_nil)) ma_nil)))
    (mss_one (ms_aug 4 nd rfl (.inl rfl) me_int ip_add iaddF_ok)))))
    (mss_cons (ms_set 5 nd rfl (.inl rfl) (me_rep (me_lst (ma_cons me_non ma_nil)) (me_callB call_len lenF_ok rfl T.z_len (by decide +kernel) (ma_cons (me_var 2) ma_nil))))
    (mss_cons (ms_for PassesOwn.never rfl (mi_rngD rfl T.z_range (ma_cons (me_sub (me_callB call_len lenF_ok rfl T.z_len (by decide +kernel) (ma_cons (me_var 2) ma_nil)) me_int) (ma_cons (me_neg me_int) (ma_cons (me_neg me_int) ma_nil)))) (mg_name 4 nd rfl (.inl rfl)) (mss_cons (ms_set 6 nd rfl (.inl rfl) (me_callB call_len lenF_ok rfl T.z_len (by decide +kernel) (ma_cons (me_call (IH.f .parts_of rfl) hr rfl (T.mg .parts_of rfl) (T.fn .parts_of rfl).kp (T.bd .parts_of rfl) (ma_cons (me_ix (me_var 2) (me_var 4)) ma_nil)) ma_nil)))
    (mss_one (ms_asg (me_callN (i := 1) IH.n hr rfl (by first | exact Or.inl rfl | exact Or.inr (Or.inl rfl) | exact Or.inr (Or.inr rfl)) (ma_cons (me_ix (me_var 2) (me_var 4)) (ma_cons (me_slice (me_var 5) (mo_some (me_ix (me_var 3) (me_var 4))) (mo_some (me_add (me_ix (me_var 3) (me_var 4)) (me_var 6)))) ma_nil))) (mg_subL (me_var 5) (me_var 4))))))
    (mss_one (ms_ret (me_ix (me_var 5) me_int)))))))))
theorem sc_rebuilt : FnScope ["thing", "change", "step"] (par .rebuilt) (defScope s6) := ⟨rfl, rfl, rfl, by decide +kernel, rfl, by decide +kernel, by decide +kernel⟩
theorem nd0_rebuilt : (["thing", "change", "step"] : List Str).Nodup := by decide +kernel
theorem ok_rebuilt {k : Nat} {F : Fn → List D → Sto → Option (D × Sto)} (T : Txt K w g) (AH : ∀ base, (∀ p ∈ T.cs, LamX.TabB base g p.1 p.2) → All P T base k F) (hTB : ∀ p ∈ T.cs, LamX.TabB base g p.1 p.2) :
    FnOk P w K g base CX0 (k + 1) (T.ad .rebuilt) (T.fd .rebuilt) (par .rebuilt) (spM ⟨K, P, w, base, T.tb⟩ (par .rebuilt).length (bodyM 3 (b_rebuilt F))) := by
  refine ok_defC (N := ["thing", "change", "step"]) T.fc_rebuilt sc_rebuilt (by decide) fun A outer s0 H E hr => ?_
  have nd := nd0_rebuilt
  have IH := AH base hTB
  exact (mss_dret (nd := nd_rebuilt__step) (id := 0) (c := T.c_rebuilt) (P := T.P_rebuilt) (nm := fun _ _ => ("rebuilt.<locals>.step" : Str)) (i := 2) (ia := 0) (js := [1]) rfl (by show ("rebuilt.<locals>.step" : Str) = (("rebuilt" : Str) ++ ".<locals>.") ++ ("step" : Str); decide +kernel) (hTB _ (.head _)) rfl (.head _) (by show ("rebuilt.<locals>.step" : Str) = (("rebuilt" : Str) ++ ".<locals>.") ++ ("step" : Str); decide +kernel) T.u_rebuilt (by show NdefX.ndefB (defScope s6) (C8.fnScope nst_rebuilt__step) nd_rebuilt__step.fr = true; decide +kernel) rfl rfl rfl nd rfl (.inl rfl) (fun _ => rfl) rfl (by decide) rfl (by first | exact Or.inl rfl | exact Or.inr (Or.inl rfl)) (by decide) (fun b hb => (AH b fun p hp => tabB_keeps hb (hTB p hp)).f .reduced rfl) hr rfl (T.mg .reduced rfl) (T.fn .reduced rfl).kp (T.bd .reduced rfl))
theorem sc_members : FnScope ["cond", "found", "waiting", "one"] (par .members) (defScope s7) := ⟨rfl, rfl, rfl, by decide +kernel, rfl, by decide +kernel, by decide +kernel⟩
theorem nd0_members : (["cond", "found", "waiting", "one"] : List Str).Nodup := by decide +kernel
theorem ok_members {k : Nat} {F : Fn → List D → Sto → Option (D × Sto)} (T : Txt K w g) (AH : ∀ base, (∀ p ∈ T.cs, LamX.TabB base g p.1 p.2) → All P T base k F) (hTB : ∀ p ∈ T.cs, LamX.TabB base g p.1 p.2) :
    FnOk P w K g base CX0 (k + 1) (T.ad .members) (T.fd .members) (par .members) (spM ⟨K, P, w, base, T.tb⟩ (par .members).length (bodyM 4 (b_members F))) := by
  refine ok_def (N := ["cond", "found", "waiting", "one"]) (T.fn .members rfl) sc_members (by decide) fun cdv A outer s0 H E hr => ?_
  have nd := nd0_members
  have IH := AH base hTB
  exact (mss_cons (ms_set 1 nd rfl (.inl rfl) (me_lst ma_nil))
    (mss_cons (ms_set 2 nd rfl (.inl rfl) (me_if (mt_cmp op_isN isF_ok (me_var 0) me_non (nomark _)) (me_lst ma_nil) (me_lst (ma_cons (me_var 0) ma_nil))))
    (mss_cons (ms_while PassesOwn.never (mt_truth (me_var 2)) (mss_cons (ms_set 3 nd rfl (.inl rfl) (me_bm0 PySem.F.plainAttrs_list PySem.F.slot_list_pop PySem.F.type_list_pop mt_pop popF_ok (me_var 2)))
    (mss_one (ms_if (mt_cmp (or_eq hr.units) eqF_ok (me_ix (me_var 3) me_int) me_str (nomark _)) (mss_cons (ms_expr (me_bm PySem.F.plainAttrs_list PySem.F.slot_list_append PySem.F.type_list_append mt_append appendF_ok (me_var 2) (ma_cons (me_ix (me_var 3) me_int) ma_nil)))
    (mss_one (ms_expr (me_bm PySem.F.plainAttrs_list PySem.F.slot_list_append PySem.F.type_list_append mt_append appendF_ok (me_var 2) (ma_cons (me_ix (me_var 3) me_int) ma_nil))))) (mss_one (ms_expr (me_bm PySem.F.plainAttrs_list PySem.F.slot_list_append PySem.F.type_list_append mt_append appendF_ok (me_var 1) (ma_cons (me_var 3) ma_nil))))))))
    (mss_one (ms_ret (me_callTy call_tuple_of tupleF_ok rfl T.z_tuple (by decide +kernel) (ma_cons (me_var 1) ma_nil)))))))
theorem sc_joined : FnScope ["conds", "whole", "cond"] (par .joined) (defScope s8) := ⟨rfl, rfl, rfl, by decide +kernel, rfl, by decide +kernel, by decide +kernel⟩
theorem nd0_joined : (["conds", "whole", "cond"] : List Str).Nodup := by decide +kernel
theorem ok_joined {k : Nat} {F : Fn → List D → Sto → Option (D × Sto)} (T : Txt K w g) (AH : ∀ base, (∀ p ∈ T.cs, LamX.TabB base g p.1 p.2) → All P T base k F) (hTB : ∀ p ∈ T.cs, LamX.TabB base g p.1 p.2) :
    FnOk P w K g base CX0 (k + 1) (T.ad .joined) (T.fd .joined) (par .joined) (spM ⟨K, P, w, base, T.tb⟩ (par .joined).length (bodyM 3 (b_joined F))) := by
  refine ok_def (N := ["conds", "whole", "cond"]) (T.fn .joined rfl) sc_joined (by decide) fun cdv A outer s0 H E hr => ?_
  have nd := nd0_joined
  have IH := AH base hTB
  exact (mss_cons (ms_if (mt_not (mt_truth (me_var 0))) (mss_one (ms_ret me_non)) mss_nil)
    (mss_cons (ms_set 1 nd rfl (.inl rfl) (me_ix (me_var 0) me_int))
    (mss_cons (ms_for PassesOwn.never rfl (mi_seq (me_slice (me_var 0) (mo_some me_int) mo_none)) (mg_name 2 nd rfl (.inl rfl)) (mss_one (ms_set 1 nd rfl (.inl rfl) (me_tup (ma_cons me_str (ma_cons (me_var 1) (ma_cons (me_var 2) ma_nil)))))))
    (mss_one (ms_ret (me_var 1))))))
theorem sc_height : FnScope ["thing", "many", "level", "one", "part"] (par .height) (defScope s9) := ⟨rfl, rfl, rfl, by decide +kernel, rfl, by decide +kernel, by decide +kernel⟩
theorem nd0_height : (["thing", "many", "level", "one", "part"] : List Str).Nodup := by decide +kernel
theorem ok_height {k : Nat} {F : Fn → List D → Sto → Option (D × Sto)} (T : Txt K w g) (AH : ∀ base, (∀ p ∈ T.cs, LamX.TabB base g p.1 p.2) → All P T base k F) (hTB : ∀ p ∈ T.cs, LamX.TabB base g p.1 p.2) :
    FnOk P w K g base CX0 (k + 1) (T.ad .height) (T.fd .height) (par .height) (spM ⟨K, P, w, base, T.tb⟩ (par .height).length (bodyM 5 (b_height F))) := by
  refine ok_def (N := ["thing", "many", "level", "one", "part"]) (T.fn .height rfl) sc_height (by decide) fun cdv A outer s0 H E hr => ?_
  have nd := nd0_height
  have IH := AH base hTB
  exact (mss_cons (ms_set 1 nd rfl (.inl rfl) me_int)
    (mss_cons (ms_set 2 nd rfl (.inl rfl) (me_if (mt_cmp op_isN isF_ok (me_var 0) me_non (nomark _)) (me_lst ma_nil) (me_lst (ma_cons (me_var 0) ma_nil))))
    (mss_cons (ms_while PassesOwn.never (mt_truth (me_var 2)) (mss_cons (ms_aug 1 nd rfl (.inl rfl) me_int ip_add iaddF_ok)
    (mss_one (ms_setLc2 2 (own := [("one", 3), ("part", 4)]) (tgt := .one 3) (tgt1 := .one 4) (vs1 := [4]) rfl nd rfl rfl (sw_true rfl rfl rfl (by decide +kernel)) (mi_seq (me_var 2)) (blkOk_by (own := [("one", 3), ("part", 4)]) (N := ["thing", "many", "level", "one", "part"]) (sc := defScope s9) (by decide +kernel)) rfl rfl (by decide) (fun _ _ _ _ _ => pg_name (i := 3) nd rfl (Or.inl rfl)) (fun _ _ _ _ _ => mts_nil) (fun _ _ _ _ _ => (mi_seq (me_call (IH.f .parts_of rfl) hr rfl (T.mg .parts_of rfl) (T.fn .parts_of rfl).kp (T.bd .parts_of rfl) (ma_cons (me_var 3) ma_nil)))) (fun _ _ _ _ _ => pg_name (i := 4) nd rfl (Or.inl rfl)) (fun _ _ _ _ _ => mts_nil) (fun _ _ _ _ _ => (me_var 4))))))
    (mss_one (ms_ret (me_var 1))))))
theorem sc_columns_in : FnScope ["thing", "found", "leaf", "column"] (par .columns_in) (defScope s11) := ⟨rfl, rfl, rfl, by decide +kernel, rfl, by decide +kernel, by decide +kernel⟩
theorem nd0_columns_in : (["thing", "found", "leaf", "column"] : List Str).Nodup := by decide +kernel
theorem ok_columns_in {k : Nat} {F : Fn → List D → Sto → Option (D × Sto)} (T : Txt K w g) (AH : ∀ base, (∀ p ∈ T.cs, LamX.TabB base g p.1 p.2) → All P T base k F) (hTB : ∀ p ∈ T.cs, LamX.TabB base g p.1 p.2) :
    FnOk P w K g base CX0 (k + 1) (T.ad .columns_in) (T.fd .columns_in) (par .columns_in) (spM ⟨K, P, w, base, T.tb⟩ (par .columns_in).length (bodyM 4 (b_columns_in F))) := by
  refine ok_def (N := ["thing", "found", "leaf", "column"]) (T.fn .columns_in rfl) sc_columns_in (by decide) fun cdv A outer s0 H E hr => ?_
  have nd := nd0_columns_in
  have IH := AH base hTB
  exact (mss_cons (ms_set 1 nd rfl (.inl rfl) (me_lst ma_nil))
    (mss_cons (ms_for PassesOwn.never rfl (mi_seq (me_call (IH.f .leaves_of rfl) hr rfl (T.mg .leaves_of rfl) (T.fn .leaves_of rfl).kp (T.bd .leaves_of rfl) (ma_cons (me_var 0) ma_nil))) (mg_name 2 nd rfl (.inl rfl)) (mss_one (ms_for PassesOwn.never rfl (mi_seq (me_call (IH.f .columns_at rfl) hr rfl (T.mg .columns_at rfl) (T.fn .columns_at rfl).kp (T.bd .columns_at rfl) (ma_cons (me_var 2) ma_nil))) (mg_name 3 nd rfl (.inl rfl)) (mss_one (ms_if (mt_cmp (or_notIn (hu65 hr)) notInF_ok (me_var 3) (me_var 1) rfl) (mss_one (ms_expr (me_bm PySem.F.plainAttrs_list PySem.F.slot_list_append PySem.F.type_list_append mt_append appendF_ok (me_var 1) (ma_cons (me_var 3) ma_nil)))) mss_nil)))))
    (mss_one (ms_ret (me_callTy call_tuple_of tupleF_ok rfl T.z_tuple (by decide +kernel) (ma_cons (me_var 1) ma_nil))))))
end
end Gn
set_option maxHeartbeats 4000000 -- wide
namespace Gn
open L2 PyProof.Rows PySem PySem.Spec Ml
section
variable {P : Program} {w : World} {K : PySem.W.Frag} {g : Str → Option Value} {base : Heap}
theorem sc_aggs_in : FnScope ["thing", "found", "leaf"] (par .aggs_in) (defScope s12) := ⟨rfl, rfl, rfl, by decide +kernel, rfl, by decide +kernel, by decide +kernel⟩
theorem nd0_aggs_in : (["thing", "found", "leaf"] : List Str).Nodup := by decide +kernel
theorem ok_aggs_in {k : Nat} {F : Fn → List D → Sto → Option (D × Sto)} (T : Txt K w g) (AH : ∀ base, (∀ p ∈ T.cs, LamX.TabB base g p.1 p.2) → All P T base k F) (hTB : ∀ p ∈ T.cs, LamX.TabB base g p.1 p.2) :
    FnOk P w K g base CX0 (k + 1) (T.ad .aggs_in) (T.fd .aggs_in) (par .aggs_in) (spM ⟨K, P, w, base, T.tb⟩ (par .aggs_in).length (bodyM 3 (b_aggs_in F))) := by
  refine ok_def (N := ["thing", "found", "leaf"]) (T.fn .aggs_in rfl) sc_aggs_in (by decide) fun cdv A outer s0 H E hr => ?_
  have nd := nd0_aggs_in
  have IH := AH base hTB
  exact (mss_cons (ms_set 1 nd rfl (.inl rfl) (me_lst ma_nil))
    (mss_cons (ms_for PassesOwn.never rfl (mi_seq (me_call (IH.f .leaves_of rfl) hr rfl (T.mg .leaves_of rfl) (T.fn .leaves_of rfl).kp (T.bd .leaves_of rfl) (ma_cons (me_var 0) ma_nil))) (mg_name 2 nd rfl (.inl rfl)) (mss_one (ms_if (PW.pt (mw_and (mt_cmp (or_eq hr.units) eqF_ok (me_ix (me_var 2) me_int) me_str (nomark _)) (mw_and1 (mt_cmp (or_notIn (hu65 hr)) notInF_ok (me_var 2) (me_var 1) rfl)))) (mss_one (ms_expr (me_bm PySem.F.plainAttrs_list PySem.F.slot_list_append PySem.F.type_list_append mt_append appendF_ok (me_var 1) (ma_cons (me_var 2) ma_nil)))) mss_nil)))
    (mss_one (ms_ret (me_callTy call_tuple_of tupleF_ok rfl T.z_tuple (by decide +kernel) (ma_cons (me_var 1) ma_nil))))))
theorem sc_replaced : FnScope ["thing", "table", "change"] (par .replaced) (defScope s13) := ⟨rfl, rfl, rfl, by decide +kernel, rfl, by decide +kernel, by decide +kernel⟩
theorem nd0_replaced : (["thing", "table", "change"] : List Str).Nodup := by decide +kernel
theorem ok_replaced {k : Nat} {F : Fn → List D → Sto → Option (D × Sto)} (T : Txt K w g) (AH : ∀ base, (∀ p ∈ T.cs, LamX.TabB base g p.1 p.2) → All P T base k F) (hTB : ∀ p ∈ T.cs, LamX.TabB base g p.1 p.2) :
    FnOk P w K g base CX0 (k + 1) (T.ad .replaced) (T.fd .replaced) (par .replaced) (spM ⟨K, P, w, base, T.tb⟩ (par .replaced).length (bodyM 3 (b_replaced F))) := by
  refine ok_defC (N := ["thing", "table", "change"]) T.fc_replaced sc_replaced (by decide) fun A outer s0 H E hr => ?_
  have nd := nd0_replaced
  have IH := AH base hTB
  exact (mss_cons (ms_if (mt_cmp op_isN isF_ok (me_var 0) me_non (nomark _)) (mss_one (ms_ret me_non)) mss_nil)
    (mss_dret (nd := nd_replaced__change) (id := 1) (c := T.c_replaced) (P := T.P_replaced) (nm := fun _ _ => ("replaced.<locals>.change" : Str)) (i := 2) (ia := 0) (js := [1]) rfl (by show ("replaced.<locals>.change" : Str) = (("replaced" : Str) ++ ".<locals>.") ++ ("change" : Str); decide +kernel) (hTB _ (.tail _ (.head _))) rfl (.tail _ (.head _)) (by show ("replaced.<locals>.change" : Str) = (("replaced" : Str) ++ ".<locals>.") ++ ("change" : Str); decide +kernel) T.u_replaced (by show NdefX.ndefB (defScope s13) (C8.fnScope nst_replaced__change) nd_replaced__change.fr = true; decide +kernel) rfl rfl rfl nd rfl (.inl rfl) (fun _ => rfl) rfl (by decide) rfl (by first | exact Or.inl rfl | exact Or.inr (Or.inl rfl)) (by decide) (fun b hb => (AH b fun p hp => tabB_keeps hb (hTB p hp)).f .rebuilt rfl) hr rfl (T.mg .rebuilt rfl) (T.fn .rebuilt rfl).kp (T.bd .rebuilt rfl)))
theorem sc_leaf_replaced : FnScope ["leaf", "table", "piece"] (par .leaf_replaced) (defScope s14) := ⟨rfl, rfl, rfl, by decide +kernel, rfl, by decide +kernel, by decide +kernel⟩
theorem nd0_leaf_replaced : (["leaf", "table", "piece"] : List Str).Nodup := by decide +kernel
theorem ok_leaf_replaced {k : Nat} {F : Fn → List D → Sto → Option (D × Sto)} (T : Txt K w g) (AH : ∀ base, (∀ p ∈ T.cs, LamX.TabB base g p.1 p.2) → All P T base k F) (hTB : ∀ p ∈ T.cs, LamX.TabB base g p.1 p.2) :
    FnOk P w K g base CX0 (k + 1) (T.ad .leaf_replaced) (T.fd .leaf_replaced) (par .leaf_replaced) (spM ⟨K, P, w, base, T.tb⟩ (par .leaf_replaced).length (bodyM 3 (b_leaf_replaced F))) := by
  refine ok_def (N := ["leaf", "table", "piece"]) (T.fn .leaf_replaced rfl) sc_leaf_replaced (by decide) fun cdv A outer s0 H E hr => ?_
  have nd := nd0_leaf_replaced
  have IH := AH base hTB
  exact (mss_cons (ms_if (mt_cmp (or_eq hr.units) eqF_ok (me_ix (me_var 0) me_int) me_str (nomark _)) (mss_one (ms_ret (me_getOr (hu1 hr) (me_var 1) (me_var 0) (me_var 0)))) mss_nil)
    (mss_cons (ms_if (mt_cmp (or_ne hr.units) neF_ok (me_ix (me_var 0) me_int) me_str (nomark _)) (mss_one (ms_ret (me_var 0))) mss_nil)
    (mss_cons (ms_if (mt_cmp (or_inD (hu1 hr)) inD_ok (me_var 0) (me_var 1) rfl) (mss_one (ms_ret (me_get (hu1 hr) (me_var 1) (me_var 0)))) mss_nil)
    (mss_one (ms_ret (me_callTy call_tuple_of tupleF_ok rfl T.z_tuple (by decide +kernel) (ma_cons (me_lc (tgt := (.one 2)) (own := [("piece", 2)]) rfl nd (mi_seq (me_var 0)) (blkOk_by (own := [("piece", 2)]) (N := ["leaf", "table", "piece"]) (sc := defScope s14) (by decide +kernel)) rfl (fun _ _ _ _ _ => pg_name (i := 2) nd rfl (Or.inl rfl)) (fun _ _ _ _ _ => mts_nil) (fun _ _ _ _ _ => (me_if (mt_truth (me_call (IH.f .is_column rfl) hr rfl (T.mg .is_column rfl) (T.fn .is_column rfl).kp (T.bd .is_column rfl) (ma_cons (me_var 2) ma_nil))) (me_getOr (hu1 hr) (me_var 1) (me_var 2) (me_var 2)) (me_var 2)))) ma_nil)))))))
theorem sc_leaves_of : FnScope ["thing", "found", "waiting", "one", "below"] (par .leaves_of) (defScope s15) := ⟨rfl, rfl, rfl, by decide +kernel, rfl, by decide +kernel, by decide +kernel⟩
theorem nd0_leaves_of : (["thing", "found", "waiting", "one", "below"] : List Str).Nodup := by decide +kernel
theorem ok_leaves_of {k : Nat} {F : Fn → List D → Sto → Option (D × Sto)} (T : Txt K w g) (AH : ∀ base, (∀ p ∈ T.cs, LamX.TabB base g p.1 p.2) → All P T base k F) (hTB : ∀ p ∈ T.cs, LamX.TabB base g p.1 p.2) :
    FnOk P w K g base CX0 (k + 1) (T.ad .leaves_of) (T.fd .leaves_of) (par .leaves_of) (spM ⟨K, P, w, base, T.tb⟩ (par .leaves_of).length (bodyM 5 (b_leaves_of F))) := by
  refine ok_def (N := ["thing", "found", "waiting", "one", "below"]) (T.fn .leaves_of rfl) sc_leaves_of (by decide) fun cdv A outer s0 H E hr => ?_
  have nd := nd0_leaves_of
  have IH := AH base hTB
  exact (mss_cons (ms_set 1 nd rfl (.inl rfl) (me_lst ma_nil))
    (mss_cons (ms_set 2 nd rfl (.inl rfl) (me_if (mt_cmp op_isN isF_ok (me_var 0) me_non (nomark _)) (me_lst ma_nil) (me_lst (ma_cons (me_var 0) ma_nil))))
    (mss_cons (ms_while PassesOwn.never (mt_truth (me_var 2)) (mss_cons (ms_set 3 nd rfl (.inl rfl) (me_bm0 PySem.F.plainAttrs_list PySem.F.slot_list_pop PySem.F.type_list_pop mt_pop popF_ok (me_var 2)))
    (mss_cons (ms_set 4 nd rfl (.inl rfl) (me_call (IH.f .parts_of rfl) hr rfl (T.mg .parts_of rfl) (T.fn .parts_of rfl).kp (T.bd .parts_of rfl) (ma_cons (me_var 3) ma_nil)))
    (mss_cons (ms_expr (me_bm PySem.F.plainAttrs_list PySem.F.slot_list_extend PySem.F.type_list_extend mt_extendA extendF_ok (me_var 2) (ma_cons (me_revT (me_var 4)) ma_nil)))
    (mss_one (ms_if (mt_not (mt_truth (me_var 4))) (mss_one (ms_expr (me_bm PySem.F.plainAttrs_list PySem.F.slot_list_append PySem.F.type_list_append mt_append appendF_ok (me_var 1) (ma_cons (me_var 3) ma_nil)))) mss_nil))))))
    (mss_one (ms_ret (me_var 1))))))
theorem sc_columns_at : FnScope ["leaf", "piece"] (par .columns_at) (defScope s16) := ⟨rfl, rfl, rfl, by decide +kernel, rfl, by decide +kernel, by decide +kernel⟩
theorem nd0_columns_at : (["leaf", "piece"] : List Str).Nodup := by decide +kernel
theorem ok_columns_at {k : Nat} {F : Fn → List D → Sto → Option (D × Sto)} (T : Txt K w g) (AH : ∀ base, (∀ p ∈ T.cs, LamX.TabB base g p.1 p.2) → All P T base k F) (hTB : ∀ p ∈ T.cs, LamX.TabB base g p.1 p.2) :
    FnOk P w K g base CX0 (k + 1) (T.ad .columns_at) (T.fd .columns_at) (par .columns_at) (spM ⟨K, P, w, base, T.tb⟩ (par .columns_at).length (bodyM 2 (b_columns_at F))) := by
  refine ok_def (N := ["leaf", "piece"]) (T.fn .columns_at rfl) sc_columns_at (by decide) fun cdv A outer s0 H E hr => ?_
  have nd := nd0_columns_at
  have IH := AH base hTB
  exact (mss_cons (ms_if (mt_cmp (or_eq hr.units) eqF_ok (me_ix (me_var 0) me_int) me_str (nomark _)) (mss_one (ms_ret (me_lst (ma_cons (me_var 0) ma_nil)))) mss_nil)
    (mss_cons (ms_if (mt_cmp (or_eq hr.units) eqF_ok (me_ix (me_var 0) me_int) me_str (nomark _)) (mss_one (ms_ret (me_lc (tgt := (.one 1)) (own := [("piece", 1)]) rfl nd (mi_seq (me_var 0)) (blkOk_by (own := [("piece", 1)]) (N := ["leaf", "piece"]) (sc := defScope s16) (by decide +kernel)) rfl (fun _ _ _ _ _ => pg_name (i := 1) nd rfl (Or.inl rfl)) (fun _ _ _ _ _ => mts_one (mt_truth (me_call (IH.f .is_column rfl) hr rfl (T.mg .is_column rfl) (T.fn .is_column rfl).kp (T.bd .is_column rfl) (ma_cons (me_var 1) ma_nil)))) (fun _ _ _ _ _ => (me_var 1))))) mss_nil)
    (mss_one (ms_ret (me_lst ma_nil)))))
theorem sc_is_column : FnScope ["piece"] (par .is_column) (defScope s17) := ⟨rfl, rfl, rfl, by decide +kernel, rfl, by decide +kernel, by decide +kernel⟩
theorem nd0_is_column : (["piece"] : List Str).Nodup := by decide +kernel
theorem ok_is_column {k : Nat} {F : Fn → List D → Sto → Option (D × Sto)} (T : Txt K w g) (AH : ∀ base, (∀ p ∈ T.cs, LamX.TabB base g p.1 p.2) → All P T base k F) (hTB : ∀ p ∈ T.cs, LamX.TabB base g p.1 p.2) :
    FnOk P w K g base CX0 (k + 1) (T.ad .is_column) (T.fd .is_column) (par .is_column) (spM ⟨K, P, w, base, T.tb⟩ (par .is_column).length (bodyM 1 (b_is_column F))) := by
  refine ok_def (N := ["piece"]) (T.fn .is_column rfl) sc_is_column (by decide) fun cdv A outer s0 H E hr => ?_
  have nd := nd0_is_column
  have IH := AH base hTB
  exact (mss_one (ms_ret (me_and (me_isi rfl T.z_isinstance (by decide +kernel) (me_var 0) (pe_bltn (v := .ty "tuple") rfl T.z_tuple (by decide +kernel) rfl)) (me_one (me_cmp (or_eq hr.units) eqF_ok (me_ix (me_var 0) me_int) me_str (nomark _))))))
theorem sc__law_numbers : FnScope ["_law_script", "_law_row", "_law_seed", "_law_k", "_law_left", "_law_great", "_law_one", "_law_turn"] (par ._law_numbers) (defScope s19) := ⟨rfl, rfl, rfl, by decide +kernel, rfl, by decide +kernel, by decide +kernel⟩
theorem nd0__law_numbers : (["_law_script", "_law_row", "_law_seed", "_law_k", "_law_left", "_law_great", "_law_one", "_law_turn"] : List Str).Nodup := by decide +kernel
theorem ok__law_numbers {k : Nat} {F : Fn → List D → Sto → Option (D × Sto)} (T : Txt K w g) (AH : ∀ base, (∀ p ∈ T.cs, LamX.TabB base g p.1 p.2) → All P T base k F) (hTB : ∀ p ∈ T.cs, LamX.TabB base g p.1 p.2) :
    FnOk P w K g base CX0 (k + 1) (T.ad ._law_numbers) (T.fd ._law_numbers) (par ._law_numbers) (spM ⟨K, P, w, base, T.tb⟩ (par ._law_numbers).length (bodyM 8 (b__law_numbers F))) := by
  refine ok_def (N := ["_law_script", "_law_row", "_law_seed", "_law_k", "_law_left", "_law_great", "_law_one", "_law_turn"]) (T.fn ._law_numbers rfl) sc__law_numbers (by decide) fun cdv A outer s0 H E hr => ?_
  have nd := nd0__law_numbers
  have IH := AH base hTB
  exact (mss_cons (ms_set 1 nd rfl (.inl rfl) (me_lst ma_nil))
    (mss_cons (ms_set 2 nd rfl (.inl rfl) me_int)
    (mss_cons (ms_for PassesOwn.never rfl (mi_rng1 rfl T.z_range (ma_cons (me_callB call_len lenF_ok rfl T.z_len (by decide +kernel) (ma_cons (me_var 0) ma_nil)) ma_nil)) (mg_name 3 nd rfl (.inl rfl)) (mss_cons (ms_set 4 nd rfl (.inl rfl) (me_callB call_abs absF_ok rfl T.z_abs (by decide +kernel) (ma_cons (me_callTy call_int1 intF_ok rfl T.z_int (by decide +kernel) (ma_cons (me_ix (me_var 0) (me_var 3)) ma_nil)) ma_nil)))
    (mss_cons (ms_set 5 nd rfl (.inl rfl) (me_cmp or_ge geF_ok (me_var 4) (me_pow me_int me_int) (nomark _)))
    (mss_cons (ms_set 6 nd rfl (.inl rfl) (me_add (me_add (me_add (me_mul (me_var 4) me_int) (me_callTy call_int1 intF_ok rfl T.z_int (by decide +kernel) (ma_cons (me_cmp or_lt ltF_ok (me_ix (me_var 0) (me_var 3)) me_int (nomark _)) ma_nil))) (me_mul (me_var 3) me_int)) me_int))
    (mss_cons (ms_set 2 nd rfl (.inl rfl) (me_mod (me_callTy call_int1 intF_ok rfl T.z_int (by decide +kernel) (ma_cons (me_add (me_mul (me_var 2) me_int) (me_var 6)) ma_nil)) me_int))
    (mss_one (ms_for PassesOwn.never rfl (mi_rng1 rfl T.z_range (ma_cons (me_ix (me_lst (ma_cons me_int (ma_cons me_int ma_nil))) (me_callTy call_int1 intF_ok rfl T.z_int (by decide +kernel) (ma_cons (me_var 5) ma_nil))) ma_nil)) (mg_name 7 nd rfl (.inl rfl)) (mss_cons (ms_set 6 nd rfl (.inl rfl) (me_mod (me_callTy call_int1 intF_ok rfl T.z_int (by decide +kernel) (ma_cons (me_add (me_add (me_mul (me_var 6) me_int) (me_mul (me_var 7) me_int)) me_int) ma_nil)) me_int))
    (mss_cons (ms_if (mt_not (mt_truth (me_var 5))) (mss_one (ms_expr (me_bm PySem.F.plainAttrs_list PySem.F.slot_list_append PySem.F.type_list_append mt_append appendF_ok (me_var 1) (ma_cons (me_fdiv (me_mod (me_callTy call_int1 intF_ok rfl T.z_int (by decide +kernel) (ma_cons (me_add (me_add (me_mul (me_var 6) (me_var 6)) (me_mul (me_var 3) me_int)) (me_var 7)) ma_nil)) me_int) me_int) ma_nil)))) (mss_one (ms_if (mt_cmp or_gt gtF_ok (me_var 4) me_int (nomark _)) (mss_one (ms_expr (me_bm PySem.F.plainAttrs_list PySem.F.slot_list_append PySem.F.type_list_append mt_append appendF_ok (me_var 1) (ma_cons (me_mod (me_callTy call_int1 intF_ok rfl T.z_int (by decide +kernel) (ma_cons (me_var 4) ma_nil)) me_int) ma_nil)))) mss_nil)))
    (mss_one (ms_set 4 nd rfl (.inl rfl) (me_fdiv (me_var 4) me_int))))))))))))
    (mss_cons (ms_for PassesOwn.never rfl (mi_rng1 rfl T.z_range (ma_cons (me_callB (call_max2 rfl) maxF_ok rfl T.z_max (by decide +kernel) (ma_cons me_int (ma_cons (me_sub me_int (me_callB call_len lenF_ok rfl T.z_len (by decide +kernel) (ma_cons (me_var 1) ma_nil))) ma_nil))) ma_nil)) (mg_name 7 nd rfl (.inl rfl)) (mss_cons (ms_set 2 nd rfl (.inl rfl) (me_mod (me_callTy call_int1 intF_ok rfl T.z_int (by decide +kernel) (ma_cons (me_add (me_add (me_mul (me_var 2) me_int) (me_mul (me_var 7) me_int)) me_int) ma_nil)) me_int))
    (mss_one (ms_expr (me_bm PySem.F.plainAttrs_list PySem.F.slot_list_append PySem.F.type_list_append mt_append appendF_ok (me_var 1) (ma_cons (me_fdiv (me_mod (me_callTy call_int1 intF_ok rfl T.z_int (by decide +kernel) (ma_cons (me_add (me_mul (me_var 2) (me_var 2)) (me_var 7)) ma_nil)) me_int) me_int) ma_nil))))))
    (mss_one (ms_ret (me_slice (me_var 1) mo_none (mo_some me_int))))))))
theorem sc__law_take : FnScope ["_law_box", "_law_many"] (par ._law_take) (defScope s20) := ⟨rfl, rfl, rfl, by decide +kernel, rfl, by decide +kernel, by decide +kernel⟩
theorem nd0__law_take : (["_law_box", "_law_many"] : List Str).Nodup := by decide +kernel
theorem ok__law_take {k : Nat} {F : Fn → List D → Sto → Option (D × Sto)} (T : Txt K w g) (AH : ∀ base, (∀ p ∈ T.cs, LamX.TabB base g p.1 p.2) → All P T base k F) (hTB : ∀ p ∈ T.cs, LamX.TabB base g p.1 p.2) :
    FnOk P w K g base CX0 (k + 1) (T.ad ._law_take) (T.fd ._law_take) (par ._law_take) (spM ⟨K, P, w, base, T.tb⟩ (par ._law_take).length (bodyM 2 (b__law_take F))) := by
  refine ok_def (N := ["_law_box", "_law_many"]) (T.fn ._law_take rfl) sc__law_take (by decide) fun cdv A outer s0 H E hr => ?_
  have nd := nd0__law_take
  have IH := AH base hTB
  exact (mss_cons (ms_asg (me_add (me_ix (me_var 0) me_int) me_int) (mg_subL (me_var 0) me_int))
    (mss_cons (ms_if (mt_cmp or_gt gtF_ok (me_ix (me_var 0) me_int) (me_callB call_len lenF_ok rfl T.z_len (by decide +kernel) (ma_cons (me_ix (me_var 0) me_int) ma_nil)) (nomark _)) (mss_one (ms_ret me_int)) mss_nil)
    (mss_one (ms_ret (me_mod (me_callTy call_int1 intF_ok rfl T.z_int (by decide +kernel) (ma_cons (me_ix (me_ix (me_var 0) me_int) (me_sub (me_ix (me_var 0) me_int) me_int)) ma_nil)) (me_var 1))))))
end
end Gn
set_option maxHeartbeats 4000000 -- wide
namespace Gn
open L2 PyProof.Rows PySem PySem.Spec Ml
section
variable {P : Program} {w : World} {K : PySem.W.Frag} {g : Str → Option Value} {base : Heap}
theorem sc__law_begun : FnScope ["_law_box", "_law_plain", "_law_signs"] (par ._law_begun) (defScope s21) := ⟨rfl, rfl, rfl, by decide +kernel, rfl, by decide +kernel, by decide +kernel⟩
theorem nd0__law_begun : (["_law_box", "_law_plain", "_law_signs"] : List Str).Nodup := by decide +kernel
theorem ok__law_begun {k : Nat} {F : Fn → List D → Sto → Option (D × Sto)} (T : Txt K w g) (AH : ∀ base, (∀ p ∈ T.cs, LamX.TabB base g p.1 p.2) → All P T base k F) (hTB : ∀ p ∈ T.cs, LamX.TabB base g p.1 p.2) :
    FnOk P w K g base CX0 (k + 1) (T.ad ._law_begun) (T.fd ._law_begun) (par ._law_begun) (spM ⟨K, P, w, base, T.tb⟩ (par ._law_begun).length (bodyM 3 (b__law_begun F))) := by
  refine ok_def (N := ["_law_box", "_law_plain", "_law_signs"]) (T.fn ._law_begun rfl) sc__law_begun (by decide) fun cdv A outer s0 H E hr => ?_
  have nd := nd0__law_begun
  have IH := AH base hTB
  exact (mss_cons (ms_asg (me_var 1) (mg_subL (me_var 0) me_int))
    (mss_cons (ms_asg (me_var 2) (mg_subL (me_var 0) me_int))
    (mss_one (ms_asg (me_lst ma_nil) (mg_subL (me_var 0) me_int)))))
theorem sc__law_col : FnScope ["_law_box", "_law_pick"] (par ._law_col) (defScope s22) := ⟨rfl, rfl, rfl, by decide +kernel, rfl, by decide +kernel, by decide +kernel⟩
theorem nd0__law_col : (["_law_box", "_law_pick"] : List Str).Nodup := by decide +kernel
theorem ok__law_col {k : Nat} {F : Fn → List D → Sto → Option (D × Sto)} (T : Txt K w g) (AH : ∀ base, (∀ p ∈ T.cs, LamX.TabB base g p.1 p.2) → All P T base k F) (hTB : ∀ p ∈ T.cs, LamX.TabB base g p.1 p.2) :
    FnOk P w K g base CX0 (k + 1) (T.ad ._law_col) (T.fd ._law_col) (par ._law_col) (spM ⟨K, P, w, base, T.tb⟩ (par ._law_col).length (bodyM 2 (b__law_col F))) := by
  refine ok_def (N := ["_law_box", "_law_pick"]) (T.fn ._law_col rfl) sc__law_col (by decide) fun cdv A outer s0 H E hr => ?_
  have nd := nd0__law_col
  have IH := AH base hTB
  exact (mss_cons (ms_set 1 nd rfl (.inl rfl) (me_call (IH.f ._law_take rfl) hr rfl (T.mg ._law_take rfl) (T.fn ._law_take rfl).kp (T.bd ._law_take rfl) (ma_cons (me_var 0) (ma_cons me_int ma_nil))))
    (mss_cons (ms_if (PW.pt (mw_or (mt_cmp or_lt ltF_ok (me_var 1) me_int (nomark _)) (mw_or1 (PW.pt (mw_and (mt_truth (me_ix (me_var 0) me_int)) (mw_and1 (mt_cmp or_lt ltF_ok (me_var 1) me_int (nomark _)))))))) (mss_one (ms_ret (me_tup (ma_cons me_str (ma_cons (me_ix (me_lst (ma_cons me_str (ma_cons me_str ma_nil))) (me_mod (me_callTy call_int1 intF_ok rfl T.z_int (by decide +kernel) (ma_cons (me_var 1) ma_nil)) me_int)) (ma_cons (me_ix (me_lst (ma_cons me_str (ma_cons me_str (ma_cons me_str ma_nil)))) (me_call (IH.f ._law_take rfl) hr rfl (T.mg ._law_take rfl) (T.fn ._law_take rfl).kp (T.bd ._law_take rfl) (ma_cons (me_var 0) (ma_cons me_int ma_nil)))) ma_nil)))))) mss_nil)
    (mss_cons (ms_if (mt_cmp or_lt ltF_ok (me_var 1) me_int (nomark _)) (mss_one (ms_ret (me_tup (ma_cons me_str (ma_cons (me_call (IH.f ._law_take rfl) hr rfl (T.mg ._law_take rfl) (T.fn ._law_take rfl).kp (T.bd ._law_take rfl) (ma_cons (me_var 0) (ma_cons me_int ma_nil))) (ma_cons (me_call (IH.f ._law_take rfl) hr rfl (T.mg ._law_take rfl) (T.fn ._law_take rfl).kp (T.bd ._law_take rfl) (ma_cons (me_var 0) (ma_cons me_int ma_nil))) ma_nil)))))) mss_nil)
    (mss_cons (ms_if (mt_cmp (or_eq hr.units) eqF_ok (me_var 1) me_int (nomark _)) (mss_one (ms_ret (me_tup (ma_cons me_str (ma_cons (me_call (IH.f ._law_take rfl) hr rfl (T.mg ._law_take rfl) (T.fn ._law_take rfl).kp (T.bd ._law_take rfl) (ma_cons (me_var 0) (ma_cons me_int ma_nil))) ma_nil))))) mss_nil)
    (mss_one (ms_ret (me_tup (ma_cons me_str (ma_cons (me_add me_str (me_callTy call_str_int strF_ok rfl T.z_str (by decide +kernel) (ma_cons (me_call (IH.f ._law_take rfl) hr rfl (T.mg ._law_take rfl) (T.fn ._law_take rfl).kp (T.bd ._law_take rfl) (ma_cons (me_var 0) (ma_cons me_int ma_nil))) ma_nil))) (ma_cons me_str ma_nil))))))))))
theorem sc__law_agg : FnScope ["_law_box", "_law_pick", "_law_agg_here"] (par ._law_agg) (defScope s23) := ⟨rfl, rfl, rfl, by decide +kernel, rfl, by decide +kernel, by decide +kernel⟩
theorem nd0__law_agg : (["_law_box", "_law_pick", "_law_agg_here"] : List Str).Nodup := by decide +kernel
theorem ok__law_agg {k : Nat} {F : Fn → List D → Sto → Option (D × Sto)} (T : Txt K w g) (AH : ∀ base, (∀ p ∈ T.cs, LamX.TabB base g p.1 p.2) → All P T base k F) (hTB : ∀ p ∈ T.cs, LamX.TabB base g p.1 p.2) :
    FnOk P w K g base CX0 (k + 1) (T.ad ._law_agg) (T.fd ._law_agg) (par ._law_agg) (spM ⟨K, P, w, base, T.tb⟩ (par ._law_agg).length (bodyM 3 (b__law_agg F))) := by
  refine ok_def (N := ["_law_box", "_law_pick", "_law_agg_here"]) (T.fn ._law_agg rfl) sc__law_agg (by decide) fun cdv A outer s0 H E hr => ?_
  have nd := nd0__law_agg
  have IH := AH base hTB
  exact (mss_cons (ms_set 1 nd rfl (.inl rfl) (me_call (IH.f ._law_take rfl) hr rfl (T.mg ._law_take rfl) (T.fn ._law_take rfl).kp (T.bd ._law_take rfl) (ma_cons (me_var 0) (ma_cons me_int ma_nil))))
    (mss_cons (ms_if (mt_cmp or_gt gtF_ok (me_callB call_len lenF_ok rfl T.z_len (by decide +kernel) (ma_cons (me_ix (me_var 0) me_int) ma_nil)) me_int (nomark _)) (mss_one (ms_ret (me_ix (me_ix (me_var 0) me_int) (me_add me_int (me_mod (me_callTy call_int1 intF_ok rfl T.z_int (by decide +kernel) (ma_cons (me_var 1) ma_nil)) me_int))))) mss_nil)
    (mss_cons (ms_set 2 nd rfl (.inl rfl) (me_tup (ma_cons me_str (ma_cons (me_ix (me_lst (ma_cons me_str (ma_cons me_str (ma_cons me_str (ma_cons me_str ma_nil))))) (me_callB (call_max2 rfl) maxF_ok rfl T.z_max (by decide +kernel) (ma_cons me_int (ma_cons (me_sub (me_var 1) me_int) ma_nil)))) (ma_cons (me_call (IH.f ._law_col rfl) hr rfl (T.mg ._law_col rfl) (T.fn ._law_col rfl).kp (T.bd ._law_col rfl) (ma_cons (me_var 0) ma_nil)) ma_nil)))))
    (mss_cons (ms_if (PW.pt (mw_and (mt_cmp (or_eq hr.units) eqF_ok (me_var 1) me_int (nomark _)) (mw_and (mt_cmp or_gt gtF_ok (me_ix (me_var 0) me_int) me_int (nomark _)) (mw_and1 (mt_cmp (or_eq hr.units) eqF_ok (me_callB call_len lenF_ok rfl T.z_len (by decide +kernel) (ma_cons (me_ix (me_var 0) me_int) ma_nil)) me_int (nomark _)))))) (mss_cons (ms_asg (me_sub (me_ix (me_var 0) me_int) me_int) (mg_subL (me_var 0) me_int))
    (mss_one (ms_set 2 nd rfl (.inl rfl) (me_tup (ma_cons me_str (ma_cons me_str (ma_cons me_non ma_nil))))))) mss_nil)
    (mss_cons (ms_if (PW.pt (mw_and (mt_cmp (or_eq hr.units) eqF_ok (me_var 1) me_int (nomark _)) (mw_and1 (mt_not (mt_truth (me_ix (me_var 0) me_int)))))) (mss_one (ms_set 2 nd rfl (.inl rfl) (me_tup (ma_cons me_str (ma_cons (me_call (IH.f ._law_take rfl) hr rfl (T.mg ._law_take rfl) (T.fn ._law_take rfl).kp (T.bd ._law_take rfl) (ma_cons (me_var 0) (ma_cons me_int ma_nil))) ma_nil))))) mss_nil)
    (mss_cons (ms_if (mt_cmp (or_notIn (hu65 hr)) notInF_ok (me_var 2) (me_ix (me_var 0) me_int) rfl) (mss_one (ms_expr (me_bm PySem.F.plainAttrs_list PySem.F.slot_list_append PySem.F.type_list_append mt_append appendF_ok (me_ix (me_var 0) me_int) (ma_cons (me_var 2) ma_nil)))) mss_nil)
    (mss_one (ms_ret (me_var 2)))))))))
theorem sc__law_expr : FnScope ["_law_box", "_law_deep", "_law_pick", "_law_left"] (par ._law_expr) (defScope s24) := ⟨rfl, rfl, rfl, by decide +kernel, rfl, by decide +kernel, by decide +kernel⟩
theorem nd0__law_expr : (["_law_box", "_law_deep", "_law_pick", "_law_left"] : List Str).Nodup := by decide +kernel
theorem ok__law_expr {k : Nat} {F : Fn → List D → Sto → Option (D × Sto)} (T : Txt K w g) (AH : ∀ base, (∀ p ∈ T.cs, LamX.TabB base g p.1 p.2) → All P T base k F) (hTB : ∀ p ∈ T.cs, LamX.TabB base g p.1 p.2) :
    FnOk P w K g base CX0 (k + 1) (T.ad ._law_expr) (T.fd ._law_expr) (par ._law_expr) (spM ⟨K, P, w, base, T.tb⟩ (par ._law_expr).length (bodyM 4 (b__law_expr F))) := by
  refine ok_def (N := ["_law_box", "_law_deep", "_law_pick", "_law_left"]) (T.fn ._law_expr rfl) sc__law_expr (by decide) fun cdv A outer s0 H E hr => ?_
  have nd := nd0__law_expr
  have IH := AH base hTB
  exact (mss_cons (ms_set 2 nd rfl (.inl rfl) (me_call (IH.f ._law_take rfl) hr rfl (T.mg ._law_take rfl) (T.fn ._law_take rfl).kp (T.bd ._law_take rfl) (ma_cons (me_var 0) (ma_cons me_int ma_nil))))
    (mss_cons (ms_if (PW.pt (mw_and (mt_cmp or_gt gtF_ok (me_var 1) me_int (nomark _)) (mw_and (mt_cmp or_gt gtF_ok (me_var 2) me_int (nomark _)) (mw_and1 (mt_cmp or_gt gtF_ok (me_ix (me_var 0) me_int) me_int (nomark _)))))) (mss_cons (ms_asg (me_sub (me_ix (me_var 0) me_int) me_int) (mg_subL (me_var 0) me_int))
    (mss_cons (ms_if (mt_cmp or_gt gtF_ok (me_var 2) me_int (nomark _)) (mss_one (ms_ret (me_tup (ma_cons me_str (ma_cons (me_call (IH.f ._law_expr rfl) hr rfl (T.mg ._law_expr rfl) (T.fn ._law_expr rfl).kp (T.bd ._law_expr rfl) (ma_cons (me_var 0) (ma_cons (me_sub (me_var 1) me_int) ma_nil))) ma_nil))))) mss_nil)
    (mss_cons (ms_set 3 nd rfl (.inl rfl) (me_call (IH.f ._law_expr rfl) hr rfl (T.mg ._law_expr rfl) (T.fn ._law_expr rfl).kp (T.bd ._law_expr rfl) (ma_cons (me_var 0) (ma_cons (me_sub (me_var 1) me_int) ma_nil))))
    (mss_one (ms_ret (me_tup (ma_cons (me_ix (me_lst (ma_cons me_str (ma_cons me_str (ma_cons me_str (ma_cons me_str ma_nil))))) (me_sub (me_var 2) me_int)) (ma_cons (me_var 3) (ma_cons (me_call (IH.f ._law_expr rfl) hr rfl (T.mg ._law_expr rfl) (T.fn ._law_expr rfl).kp (T.bd ._law_expr rfl) (ma_cons (me_var 0) (ma_cons (me_sub (me_var 1) me_int) ma_nil))) ma_nil))))))))) mss_nil)
    (mss_cons (ms_if (mt_cmp (or_eq hr.units) eqF_ok (me_var 2) me_int (nomark _)) (mss_one (ms_ret (me_tup (ma_cons me_str (ma_cons (me_call (IH.f ._law_take rfl) hr rfl (T.mg ._law_take rfl) (T.fn ._law_take rfl).kp (T.bd ._law_take rfl) (ma_cons (me_var 0) (ma_cons me_int ma_nil))) ma_nil))))) mss_nil)
    (mss_cons (ms_if (mt_cmp (or_eq hr.units) eqF_ok (me_var 2) me_int (nomark _)) (mss_one (ms_ret (me_tup (ma_cons me_str (ma_cons (me_ix (me_lst (ma_cons me_str (ma_cons me_str (ma_cons me_str (ma_cons me_str (ma_cons me_str (ma_cons me_str (ma_cons me_str (ma_cons me_str ma_nil))))))))) (me_call (IH.f ._law_take rfl) hr rfl (T.mg ._law_take rfl) (T.fn ._law_take rfl).kp (T.bd ._law_take rfl) (ma_cons (me_var 0) (ma_cons me_int ma_nil)))) ma_nil))))) mss_nil)
    (mss_cons (ms_if (mt_cmp or_gt gtF_ok (me_var 2) me_int (nomark _)) (mss_one (ms_ret (me_call (IH.f ._law_agg rfl) hr rfl (T.mg ._law_agg rfl) (T.fn ._law_agg rfl).kp (T.bd ._law_agg rfl) (ma_cons (me_var 0) ma_nil)))) mss_nil)
    (mss_one (ms_ret (me_call (IH.f ._law_col rfl) hr rfl (T.mg ._law_col rfl) (T.fn ._law_col rfl).kp (T.bd ._law_col rfl) (ma_cons (me_var 0) ma_nil)))))))))
theorem sc__law_question : FnScope ["_law_box", "_law_expr_here", "_law_where", "_law_source"] (par ._law_question) (defScope s25) := ⟨rfl, rfl, rfl, by decide +kernel, rfl, by decide +kernel, by decide +kernel⟩
theorem nd0__law_question : (["_law_box", "_law_expr_here", "_law_where", "_law_source"] : List Str).Nodup := by decide +kernel
theorem ok__law_question {k : Nat} {F : Fn → List D → Sto → Option (D × Sto)} (T : Txt K w g) (AH : ∀ base, (∀ p ∈ T.cs, LamX.TabB base g p.1 p.2) → All P T base k F) (hTB : ∀ p ∈ T.cs, LamX.TabB base g p.1 p.2) :
    FnOk P w K g base CX0 (k + 1) (T.ad ._law_question) (T.fd ._law_question) (par ._law_question) (spM ⟨K, P, w, base, T.tb⟩ (par ._law_question).length (bodyM 4 (b__law_question F))) := by
  refine ok_def (N := ["_law_box", "_law_expr_here", "_law_where", "_law_source"]) (T.fn ._law_question rfl) sc__law_question (by decide) fun cdv A outer s0 H E hr => ?_
  have nd := nd0__law_question
  have IH := AH base hTB
  exact (mss_cons (ms_set 1 nd rfl (.inl rfl) (me_call (IH.f ._law_expr rfl) hr rfl (T.mg ._law_expr rfl) (T.fn ._law_expr rfl).kp (T.bd ._law_expr rfl) (ma_cons (me_var 0) (ma_cons me_int ma_nil))))
    (mss_cons (ms_set 2 nd rfl (.inl rfl) me_non)
    (mss_cons (ms_if (mt_cmp (or_eq hr.units) eqF_ok (me_call (IH.f ._law_take rfl) hr rfl (T.mg ._law_take rfl) (T.fn ._law_take rfl).kp (T.bd ._law_take rfl) (ma_cons (me_var 0) (ma_cons me_int ma_nil))) me_int (nomark _)) (mss_one (ms_set 2 nd rfl (.inl rfl) (me_tup (ma_cons me_str (ma_cons (me_call (IH.f ._law_expr rfl) hr rfl (T.mg ._law_expr rfl) (T.fn ._law_expr rfl).kp (T.bd ._law_expr rfl) (ma_cons (me_var 0) (ma_cons me_int ma_nil))) ma_nil))))) mss_nil)
    (mss_cons (ms_set 3 nd rfl (.inl rfl) (me_tup (ma_cons me_str (ma_cons (me_tup (ma_cons me_str (ma_cons me_str ma_nil))) (ma_cons me_str (ma_cons me_non ma_nil))))))
    (mss_one (ms_ret (me_tup (ma_cons me_str (ma_cons (me_tup ma_nil) (ma_cons me_bl (ma_cons (me_tup (ma_cons (me_tup (ma_cons (me_var 1) (ma_cons me_str ma_nil))) ma_nil)) (ma_cons (me_tup (ma_cons (me_var 3) ma_nil)) (ma_cons (me_var 2) (ma_cons (me_tup (ma_cons (me_call (IH.f ._law_col rfl) hr rfl (T.mg ._law_col rfl) (T.fn ._law_col rfl).kp (T.bd ._law_col rfl) (ma_cons (me_var 0) ma_nil)) ma_nil)) (ma_cons me_non (ma_cons (me_tup ma_nil) (ma_cons me_non ma_nil)))))))))))))))))
theorem sc__law_cond : FnScope ["_law_box", "_law_deep", "_law_pick", "_law_word", "_law_left", "_law_on", "_law_where", "_law_source", "_law_op"] (par ._law_cond) (defScope s26) := ⟨rfl, rfl, rfl, by decide +kernel, rfl, by decide +kernel, by decide +kernel⟩
theorem nd0__law_cond : (["_law_box", "_law_deep", "_law_pick", "_law_word", "_law_left", "_law_on", "_law_where", "_law_source", "_law_op"] : List Str).Nodup := by decide +kernel
theorem ok__law_cond {k : Nat} {F : Fn → List D → Sto → Option (D × Sto)} (T : Txt K w g) (AH : ∀ base, (∀ p ∈ T.cs, LamX.TabB base g p.1 p.2) → All P T base k F) (hTB : ∀ p ∈ T.cs, LamX.TabB base g p.1 p.2) :
    FnOk P w K g base CX0 (k + 1) (T.ad ._law_cond) (T.fd ._law_cond) (par ._law_cond) (spM ⟨K, P, w, base, T.tb⟩ (par ._law_cond).length (bodyM 9 (b__law_cond F))) := by
  refine ok_def (N := ["_law_box", "_law_deep", "_law_pick", "_law_word", "_law_left", "_law_on", "_law_where", "_law_source", "_law_op"]) (T.fn ._law_cond rfl) sc__law_cond (by decide) fun cdv A outer s0 H E hr => ?_
  have nd := nd0__law_cond
  have IH := AH base hTB
  exact (mss_cons (ms_set 2 nd rfl (.inl rfl) (me_call (IH.f ._law_take rfl) hr rfl (T.mg ._law_take rfl) (T.fn ._law_take rfl).kp (T.bd ._law_take rfl) (ma_cons (me_var 0) (ma_cons me_int ma_nil))))
    (mss_cons (ms_if (PW.pt (mw_and (mt_cmp or_gt gtF_ok (me_var 1) me_int (nomark _)) (mw_and (mt_cmp or_gt gtF_ok (me_var 2) me_int (nomark _)) (mw_and1 (mt_cmp or_gt gtF_ok (me_ix (me_var 0) me_int) me_int (nomark _)))))) (mss_cons (ms_asg (me_sub (me_ix (me_var 0) me_int) me_int) (mg_subL (me_var 0) me_int))
    (mss_cons (ms_set 3 nd rfl (.inl rfl) (me_ix (me_lst (ma_cons me_str (ma_cons me_str ma_nil))) (me_call (IH.f ._law_take rfl) hr rfl (T.mg ._law_take rfl) (T.fn ._law_take rfl).kp (T.bd ._law_take rfl) (ma_cons (me_var 0) (ma_cons me_int ma_nil)))))
    (mss_cons (ms_set 4 nd rfl (.inl rfl) (me_call (IH.f ._law_cond rfl) hr rfl (T.mg ._law_cond rfl) (T.fn ._law_cond rfl).kp (T.bd ._law_cond rfl) (ma_cons (me_var 0) (ma_cons (me_sub (me_var 1) me_int) ma_nil))))
    (mss_one (ms_ret (me_tup (ma_cons (me_var 3) (ma_cons (me_var 4) (ma_cons (me_call (IH.f ._law_cond rfl) hr rfl (T.mg ._law_cond rfl) (T.fn ._law_cond rfl).kp (T.bd ._law_cond rfl) (ma_cons (me_var 0) (ma_cons (me_sub (me_var 1) me_int) ma_nil))) ma_nil))))))))) mss_nil)
    (mss_cons (ms_if (PW.pt (mw_and (mt_cmp or_gt gtF_ok (me_var 1) me_int (nomark _)) (mw_and1 (mt_cmp or_gt gtF_ok (me_var 2) me_int (nomark _))))) (mss_cons (ms_set 3 nd rfl (.inl rfl) (me_ix (me_lst (ma_cons me_str (ma_cons me_str ma_nil))) (me_mod (me_callTy call_int1 intF_ok rfl T.z_int (by decide +kernel) (ma_cons (me_var 2) ma_nil)) me_int)))
    (mss_one (ms_ret (me_tup (ma_cons (me_var 3) (ma_cons (me_call (IH.f ._law_cond rfl) hr rfl (T.mg ._law_cond rfl) (T.fn ._law_cond rfl).kp (T.bd ._law_cond rfl) (ma_cons (me_var 0) (ma_cons (me_sub (me_var 1) me_int) ma_nil))) ma_nil)))))) mss_nil)
    (mss_cons (ms_if (PW.pt (mw_and (mt_cmp or_gt gtF_ok (me_var 2) me_int (nomark _)) (mw_and1 (mt_cmp or_gt gtF_ok (me_var 1) me_int (nomark _))))) (mss_cons (ms_set 5 nd rfl (.inl rfl) (me_tup (ma_cons me_str (ma_cons me_str (ma_cons (me_call (IH.f ._law_col rfl) hr rfl (T.mg ._law_col rfl) (T.fn ._law_col rfl).kp (T.bd ._law_col rfl) (ma_cons (me_var 0) ma_nil)) (ma_cons (me_call (IH.f ._law_expr rfl) hr rfl (T.mg ._law_expr rfl) (T.fn ._law_expr rfl).kp (T.bd ._law_expr rfl) (ma_cons (me_var 0) (ma_cons me_int ma_nil))) ma_nil))))))
    (mss_cons (ms_set 6 nd rfl (.inl rfl) (me_ix (me_lst (ma_cons me_non (ma_cons (me_call (IH.f ._law_cond rfl) hr rfl (T.mg ._law_cond rfl) (T.fn ._law_cond rfl).kp (T.bd ._law_cond rfl) (ma_cons (me_var 0) (ma_cons (me_sub (me_var 1) me_int) ma_nil))) ma_nil))) (me_call (IH.f ._law_take rfl) hr rfl (T.mg ._law_take rfl) (T.fn ._law_take rfl).kp (T.bd ._law_take rfl) (ma_cons (me_var 0) (ma_cons me_int ma_nil)))))
    (mss_cons (ms_set 7 nd rfl (.inl rfl) (me_tup (ma_cons me_str (ma_cons (me_tup (ma_cons me_str (ma_cons me_str ma_nil))) (ma_cons me_str (ma_cons me_non ma_nil))))))
    (mss_one (ms_ret (me_tup (ma_cons me_str (ma_cons (me_tup (ma_cons (me_var 7) (ma_cons (me_tup (ma_cons me_str (ma_cons (me_call (IH.f ._law_question rfl) hr rfl (T.mg ._law_question rfl) (T.fn ._law_question rfl).kp (T.bd ._law_question rfl) (ma_cons (me_var 0) ma_nil)) (ma_cons me_str (ma_cons (me_var 5) ma_nil))))) ma_nil))) (ma_cons (me_var 6) ma_nil))))))))) mss_nil)
    (mss_cons (ms_if (PW.pt (mw_or (mt_cmp (or_eq hr.units) eqF_ok (me_var 2) me_int (nomark _)) (mw_or1 (mt_cmp (or_eq hr.units) eqF_ok (me_var 2) me_int (nomark _))))) (mss_one (ms_ret (me_tup (ma_cons me_str (ma_cons (me_call (IH.f ._law_expr rfl) hr rfl (T.mg ._law_expr rfl) (T.fn ._law_expr rfl).kp (T.bd ._law_expr rfl) (ma_cons (me_var 0) (ma_cons me_int ma_nil))) (ma_cons (me_call (IH.f ._law_question rfl) hr rfl (T.mg ._law_question rfl) (T.fn ._law_question rfl).kp (T.bd ._law_question rfl) (ma_cons (me_var 0) ma_nil)) ma_nil)))))) mss_nil)
    (mss_cons (ms_if (mt_cmp (or_eq hr.units) eqF_ok (me_var 2) me_int (nomark _)) (mss_one (ms_ret (me_tup (ma_cons me_str (ma_cons (me_call (IH.f ._law_expr rfl) hr rfl (T.mg ._law_expr rfl) (T.fn ._law_expr rfl).kp (T.bd ._law_expr rfl) (ma_cons (me_var 0) (ma_cons me_int ma_nil))) ma_nil))))) mss_nil)
    (mss_cons (ms_set 4 nd rfl (.inl rfl) (me_call (IH.f ._law_expr rfl) hr rfl (T.mg ._law_expr rfl) (T.fn ._law_expr rfl).kp (T.bd ._law_expr rfl) (ma_cons (me_var 0) (ma_cons me_int ma_nil))))
    (mss_cons (ms_set 8 nd rfl (.inl rfl) (me_ix (me_lst (ma_cons me_str (ma_cons me_str (ma_cons me_str (ma_cons me_str (ma_cons me_str (ma_cons me_str ma_nil))))))) (me_call (IH.f ._law_take rfl) hr rfl (T.mg ._law_take rfl) (T.fn ._law_take rfl).kp (T.bd ._law_take rfl) (ma_cons (me_var 0) (ma_cons me_int ma_nil)))))
    (mss_one (ms_ret (me_tup (ma_cons me_str (ma_cons (me_var 8) (ma_cons (me_var 4) (ma_cons (me_call (IH.f ._law_expr rfl) hr rfl (T.mg ._law_expr rfl) (T.fn ._law_expr rfl).kp (T.bd ._law_expr rfl) (ma_cons (me_var 0) (ma_cons me_int ma_nil))) ma_nil)))))))))))))))
theorem sc__law_parts : FnScope ["_law_node", "_law_part"] (par ._law_parts) (defScope s27) := ⟨rfl, rfl, rfl, by decide +kernel, rfl, by decide +kernel, by decide +kernel⟩
theorem nd0__law_parts : (["_law_node", "_law_part"] : List Str).Nodup := by decide +kernel
theorem ok__law_parts {k : Nat} {F : Fn → List D → Sto → Option (D × Sto)} (T : Txt K w g) (AH : ∀ base, (∀ p ∈ T.cs, LamX.TabB base g p.1 p.2) → All P T base k F) (hTB : ∀ p ∈ T.cs, LamX.TabB base g p.1 p.2) :
    FnOk P w K g base CX0 (k + 1) (T.ad ._law_parts) (T.fd ._law_parts) (par ._law_parts) (spM ⟨K, P, w, base, T.tb⟩ (par ._law_parts).length (bodyM 2 (b__law_parts F))) := by
  refine ok_def (N := ["_law_node", "_law_part"]) (T.fn ._law_parts rfl) sc__law_parts (by decide) fun cdv A outer s0 H E hr => ?_
  have nd := nd0__law_parts
  have IH := AH base hTB
  exact (mss_cons (ms_if (PW.pt (mw_or (mt_cmp op_isN isF_ok (me_var 0) me_non (nomark _)) (mw_or (mt_cmp (or_eq hr.units) eqF_ok (me_ix (me_var 0) me_int) me_str (nomark _)) (mw_or1 (mt_cmp (or_eq hr.units) eqF_ok (me_ix (me_var 0) me_int) me_str (nomark _)))))) (mss_one (ms_ret (me_lst ma_nil))) mss_nil)
    (mss_cons (ms_if (mt_cmp (or_eq hr.units) eqF_ok (me_ix (me_var 0) me_int) me_str (nomark _)) (mss_one (ms_ret (me_lst (ma_cons (me_ix (me_var 0) me_int) ma_nil)))) mss_nil)
    (mss_one (ms_ret (me_lc (tgt := (.one 1)) (own := [("_law_part", 1)]) rfl nd (mi_seq (me_slice (me_var 0) (mo_some me_int) mo_none)) (blkOk_by (own := [("_law_part", 1)]) (N := ["_law_node", "_law_part"]) (sc := defScope s27) (by decide +kernel)) rfl (fun _ _ _ _ _ => pg_name (i := 1) nd rfl (Or.inl rfl)) (fun _ _ _ _ _ => mts_one (mt_truth (me_isi rfl T.z_isinstance (by decide +kernel) (me_var 1) (pe_bltn (v := .ty "tuple") rfl T.z_tuple (by decide +kernel) rfl)))) (fun _ _ _ _ _ => (me_var 1)))))))
theorem sc__law_found : FnScope ["_law_node", "_law_word", "_law_found_here", "_law_stack", "_law_turn", "_law_part"] (par ._law_found) (defScope s28) := ⟨rfl, rfl, rfl, by decide +kernel, rfl, by decide +kernel, by decide +kernel⟩
theorem nd0__law_found : (["_law_node", "_law_word", "_law_found_here", "_law_stack", "_law_turn", "_law_part"] : List Str).Nodup := by decide +kernel
theorem ok__law_found {k : Nat} {F : Fn → List D → Sto → Option (D × Sto)} (T : Txt K w g) (AH : ∀ base, (∀ p ∈ T.cs, LamX.TabB base g p.1 p.2) → All P T base k F) (hTB : ∀ p ∈ T.cs, LamX.TabB base g p.1 p.2) :
    FnOk P w K g base CX0 (k + 1) (T.ad ._law_found) (T.fd ._law_found) (par ._law_found) (spM ⟨K, P, w, base, T.tb⟩ (par ._law_found).length (bodyM 6 (b__law_found F))) := by
  refine ok_def (N := ["_law_node", "_law_word", "_law_found_here", "_law_stack", "_law_turn", "_law_part"]) (T.fn ._law_found rfl) sc__law_found (by decide) fun cdv A outer s0 H E hr => ?_
  have nd := nd0__law_found
  have IH := AH base hTB
  exact (mss_cons (ms_set 2 nd rfl (.inl rfl) (me_lst ma_nil))
    (mss_cons (ms_set 3 nd rfl (.inl rfl) (me_lst (ma_cons (me_var 0) ma_nil)))
    (mss_cons (ms_for PassesOwn.never rfl (mi_rng1 rfl T.z_range (ma_cons me_int ma_nil)) (mg_name 4 nd rfl (.inl rfl)) (mss_cons (ms_if (mt_cmp (or_eq hr.units) eqF_ok (me_callB call_len lenF_ok rfl T.z_len (by decide +kernel) (ma_cons (me_var 3) ma_nil)) me_int (nomark _)) (mss_one ms_break) mss_nil)
    (mss_cons (ms_set 5 nd rfl (.inl rfl) (me_bm0 PySem.F.plainAttrs_list PySem.F.slot_list_pop PySem.F.type_list_pop mt_pop popF_ok (me_var 3)))
    (mss_cons (ms_if (PW.pt (mw_and (mt_cmp op_notN notF_ok (me_var 5) me_non (nomark _)) (mw_and (mt_cmp (or_eq hr.units) eqF_ok (me_ix (me_var 5) me_int) (me_var 1) (nomark _)) (mw_and1 (mt_cmp (or_notIn (hu65 hr)) notInF_ok (me_var 5) (me_var 2) rfl))))) (mss_one (ms_expr (me_bm PySem.F.plainAttrs_list PySem.F.slot_list_append PySem.F.type_list_append mt_append appendF_ok (me_var 2) (ma_cons (me_var 5) ma_nil)))) mss_nil)
    (mss_one (ms_set 3 nd rfl (.inl rfl) (me_add (me_var 3) (me_lrev rfl rfl T.z_list rfl T.z_reversed (me_call (IH.f ._law_parts rfl) hr rfl (T.mg ._law_parts rfl) (T.fn ._law_parts rfl).kp (T.bd ._law_parts rfl) (ma_cons (me_var 5) ma_nil))))))))))
    (mss_one (ms_ret (me_callTy call_tuple_of tupleF_ok rfl T.z_tuple (by decide +kernel) (ma_cons (me_var 2) ma_nil)))))))
end
end Gn
set_option maxHeartbeats 4000000 -- wide
namespace Gn
open L2 PyProof.Rows PySem PySem.Spec Ml
section
variable {P : Program} {w : World} {K : PySem.W.Frag} {g : Str → Option Value} {base : Heap}
theorem sc__law_levels : FnScope ["_law_node", "_law_row", "_law_many", "_law_turn", "_law_below", "_law_part"] (par ._law_levels) (defScope s29) := ⟨rfl, rfl, rfl, by decide +kernel, rfl, by decide +kernel, by decide +kernel⟩
theorem nd0__law_levels : (["_law_node", "_law_row", "_law_many", "_law_turn", "_law_below", "_law_part"] : List Str).Nodup := by decide +kernel
theorem ok__law_levels {k : Nat} {F : Fn → List D → Sto → Option (D × Sto)} (T : Txt K w g) (AH : ∀ base, (∀ p ∈ T.cs, LamX.TabB base g p.1 p.2) → All P T base k F) (hTB : ∀ p ∈ T.cs, LamX.TabB base g p.1 p.2) :
    FnOk P w K g base CX0 (k + 1) (T.ad ._law_levels) (T.fd ._law_levels) (par ._law_levels) (spM ⟨K, P, w, base, T.tb⟩ (par ._law_levels).length (bodyM 6 (b__law_levels F))) := by
  refine ok_def (N := ["_law_node", "_law_row", "_law_many", "_law_turn", "_law_below", "_law_part"]) (T.fn ._law_levels rfl) sc__law_levels (by decide) fun cdv A outer s0 H E hr => ?_
  have nd := nd0__law_levels
  have IH := AH base hTB
  exact (mss_cons (ms_setLc 1 (tgt := (.one 5)) (own := [("_law_part", 5)]) rfl nd rfl rfl (sw_true rfl rfl rfl (by decide +kernel)) (mi_seq (me_lst (ma_cons (me_var 0) ma_nil))) (blkOk_by (own := [("_law_part", 5)]) (N := ["_law_node", "_law_row", "_law_many", "_law_turn", "_law_below", "_law_part"]) (sc := defScope s29) (by decide +kernel)) rfl (fun _ _ _ _ _ => pg_name (i := 5) nd rfl (Or.inl rfl)) (fun _ _ _ _ _ => mts_one (mt_cmp op_notN notF_ok (me_var 5) me_non (nomark _))) (fun _ _ _ _ _ => (me_var 5)))
    (mss_cons (ms_set 2 nd rfl (.inl rfl) me_int)
    (mss_cons (ms_for PassesOwn.never rfl (mi_rng1 rfl T.z_range (ma_cons me_int ma_nil)) (mg_name 3 nd rfl (.inl rfl)) (mss_cons (ms_if (mt_cmp (or_eq hr.units) eqF_ok (me_callB call_len lenF_ok rfl T.z_len (by decide +kernel) (ma_cons (me_var 1) ma_nil)) me_int (nomark _)) (mss_one ms_break) mss_nil)
    (mss_cons (ms_set 2 nd rfl (.inl rfl) (me_add (me_var 2) me_int))
    (mss_cons (ms_set 4 nd rfl (.inl rfl) (me_lst ma_nil))
    (mss_cons (ms_for PassesOwn.never rfl (mi_seq (me_var 1)) (mg_name 5 nd rfl (.inl rfl)) (mss_one (ms_if (mt_cmp (or_ne hr.units) neF_ok (me_ix (me_var 5) me_int) me_str (nomark _)) (mss_one (ms_set 4 nd rfl (.inl rfl) (me_add (me_var 4) (me_call (IH.f ._law_parts rfl) hr rfl (T.mg ._law_parts rfl) (T.fn ._law_parts rfl).kp (T.bd ._law_parts rfl) (ma_cons (me_var 5) ma_nil))))) mss_nil)))
    (mss_one (ms_set 1 nd rfl (.inl rfl) (me_var 4))))))))
    (mss_one (ms_ret (me_var 2))))))
theorem sc__law_split : FnScope ["_law_test", "_law_rows", "_law_stack", "_law_turn", "_law_part"] (par ._law_split) (defScope s30) := ⟨rfl, rfl, rfl, by decide +kernel, rfl, by decide +kernel, by decide +kernel⟩
theorem nd0__law_split : (["_law_test", "_law_rows", "_law_stack", "_law_turn", "_law_part"] : List Str).Nodup := by decide +kernel
theorem ok__law_split {k : Nat} {F : Fn → List D → Sto → Option (D × Sto)} (T : Txt K w g) (AH : ∀ base, (∀ p ∈ T.cs, LamX.TabB base g p.1 p.2) → All P T base k F) (hTB : ∀ p ∈ T.cs, LamX.TabB base g p.1 p.2) :
    FnOk P w K g base CX0 (k + 1) (T.ad ._law_split) (T.fd ._law_split) (par ._law_split) (spM ⟨K, P, w, base, T.tb⟩ (par ._law_split).length (bodyM 5 (b__law_split F))) := by
  refine ok_def (N := ["_law_test", "_law_rows", "_law_stack", "_law_turn", "_law_part"]) (T.fn ._law_split rfl) sc__law_split (by decide) fun cdv A outer s0 H E hr => ?_
  have nd := nd0__law_split
  have IH := AH base hTB
  exact (mss_cons (ms_set 1 nd rfl (.inl rfl) (me_lst ma_nil))
    (mss_cons (ms_set 2 nd rfl (.inl rfl) (me_lst (ma_cons (me_var 0) ma_nil)))
    (mss_cons (ms_for PassesOwn.never rfl (mi_rng1 rfl T.z_range (ma_cons me_int ma_nil)) (mg_name 3 nd rfl (.inl rfl)) (mss_cons (ms_if (mt_cmp (or_eq hr.units) eqF_ok (me_callB call_len lenF_ok rfl T.z_len (by decide +kernel) (ma_cons (me_var 2) ma_nil)) me_int (nomark _)) (mss_one ms_break) mss_nil)
    (mss_cons (ms_set 4 nd rfl (.inl rfl) (me_bm0 PySem.F.plainAttrs_list PySem.F.slot_list_pop PySem.F.type_list_pop mt_pop popF_ok (me_var 2)))
    (mss_one (ms_if (mt_cmp (or_eq hr.units) eqF_ok (me_ix (me_var 4) me_int) me_str (nomark _)) (mss_cons (ms_expr (me_bm PySem.F.plainAttrs_list PySem.F.slot_list_append PySem.F.type_list_append mt_append appendF_ok (me_var 2) (ma_cons (me_ix (me_var 4) me_int) ma_nil)))
    (mss_one (ms_expr (me_bm PySem.F.plainAttrs_list PySem.F.slot_list_append PySem.F.type_list_append mt_append appendF_ok (me_var 2) (ma_cons (me_ix (me_var 4) me_int) ma_nil))))) (mss_one (ms_expr (me_bm PySem.F.plainAttrs_list PySem.F.slot_list_append PySem.F.type_list_append mt_append appendF_ok (me_var 1) (ma_cons (me_var 4) ma_nil)))))))))
    (mss_one (ms_ret (me_callTy call_tuple_of tupleF_ok rfl T.z_tuple (by decide +kernel) (ma_cons (me_var 1) ma_nil)))))))
theorem sc__law_put : FnScope ["_law_node", "_law_swaps", "_law_row", "_law_part"] (par ._law_put) (defScope s31) := ⟨rfl, rfl, rfl, by decide +kernel, rfl, by decide +kernel, by decide +kernel⟩
theorem nd0__law_put : (["_law_node", "_law_swaps", "_law_row", "_law_part"] : List Str).Nodup := by decide +kernel
theorem ok__law_put {k : Nat} {F : Fn → List D → Sto → Option (D × Sto)} (T : Txt K w g) (AH : ∀ base, (∀ p ∈ T.cs, LamX.TabB base g p.1 p.2) → All P T base k F) (hTB : ∀ p ∈ T.cs, LamX.TabB base g p.1 p.2) :
    FnOk P w K g base CX0 (k + 1) (T.ad ._law_put) (T.fd ._law_put) (par ._law_put) (spM ⟨K, P, w, base, T.tb⟩ (par ._law_put).length (bodyM 4 (b__law_put F))) := by
  refine ok_def (N := ["_law_node", "_law_swaps", "_law_row", "_law_part"]) (T.fn ._law_put rfl) sc__law_put (by decide) fun cdv A outer s0 H E hr => ?_
  have nd := nd0__law_put
  have IH := AH base hTB
  exact (mss_cons (ms_if (mt_cmp op_isN isF_ok (me_var 0) me_non (nomark _)) (mss_one (ms_ret me_non)) mss_nil)
    (mss_cons (ms_if (PW.pt (mw_and (PW.pt (mw_or (mt_cmp (or_eq hr.units) eqF_ok (me_ix (me_var 0) me_int) me_str (nomark _)) (mw_or1 (mt_cmp (or_eq hr.units) eqF_ok (me_ix (me_var 0) me_int) me_str (nomark _))))) (mw_and1 (mt_cmp (or_inD (hu1 hr)) inD_ok (me_var 0) (me_var 1) rfl)))) (mss_one (ms_ret (me_get (hu1 hr) (me_var 1) (me_var 0)))) mss_nil)
    (mss_cons (ms_if (PW.pt (mw_or (mt_cmp (or_eq hr.units) eqF_ok (me_ix (me_var 0) me_int) me_str (nomark _)) (mw_or1 (mt_cmp (or_eq hr.units) eqF_ok (me_ix (me_var 0) me_int) me_str (nomark _))))) (mss_one (ms_ret (me_var 0))) mss_nil)
    (mss_cons (ms_if (mt_cmp (or_eq hr.units) eqF_ok (me_ix (me_var 0) me_int) me_str (nomark _)) (mss_one (ms_ret (me_tup (ma_cons me_str (ma_cons (me_call (IH.f ._law_put rfl) hr rfl (T.mg ._law_put rfl) (T.fn ._law_put rfl).kp (T.bd ._law_put rfl) (ma_cons (me_ix (me_var 0) me_int) (ma_cons (me_var 1) ma_nil))) (ma_cons (me_ix (me_var 0) me_int) ma_nil)))))) mss_nil)
    (mss_cons (ms_set 2 nd rfl (.inl rfl) (me_lst ma_nil))
    (mss_cons (ms_for PassesOwn.never rfl (mi_seq (me_var 0)) (mg_name 3 nd rfl (.inl rfl)) (mss_one (ms_if (mt_truth (me_isi rfl T.z_isinstance (by decide +kernel) (me_var 3) (pe_bltn (v := .ty "tuple") rfl T.z_tuple (by decide +kernel) rfl))) (mss_one (ms_expr (me_bm PySem.F.plainAttrs_list PySem.F.slot_list_append PySem.F.type_list_append mt_append appendF_ok (me_var 2) (ma_cons (me_call (IH.f ._law_put rfl) hr rfl (T.mg ._law_put rfl) (T.fn ._law_put rfl).kp (T.bd ._law_put rfl) (ma_cons (me_var 3) (ma_cons (me_var 1) ma_nil))) ma_nil)))) (mss_one (ms_expr (me_bm PySem.F.plainAttrs_list PySem.F.slot_list_append PySem.F.type_list_append mt_append appendF_ok (me_var 2) (ma_cons (me_var 3) ma_nil)))))))
    (mss_one (ms_ret (me_callTy call_tuple_of tupleF_ok rfl T.z_tuple (by decide +kernel) (ma_cons (me_var 2) ma_nil))))))))))
theorem sc__law_table : FnScope ["_law_box", "_law_node", "_law_swaps", "_law_key", "_law_pick"] (par ._law_table) (defScope s32) := ⟨rfl, rfl, rfl, by decide +kernel, rfl, by decide +kernel, by decide +kernel⟩
theorem nd0__law_table : (["_law_box", "_law_node", "_law_swaps", "_law_key", "_law_pick"] : List Str).Nodup := by decide +kernel
theorem ok__law_table {k : Nat} {F : Fn → List D → Sto → Option (D × Sto)} (T : Txt K w g) (AH : ∀ base, (∀ p ∈ T.cs, LamX.TabB base g p.1 p.2) → All P T base k F) (hTB : ∀ p ∈ T.cs, LamX.TabB base g p.1 p.2) :
    FnOk P w K g base CX0 (k + 1) (T.ad ._law_table) (T.fd ._law_table) (par ._law_table) (spM ⟨K, P, w, base, T.tb⟩ (par ._law_table).length (bodyM 5 (b__law_table F))) := by
  refine ok_def (N := ["_law_box", "_law_node", "_law_swaps", "_law_key", "_law_pick"]) (T.fn ._law_table rfl) sc__law_table (by decide) fun cdv A outer s0 H E hr => ?_
  have nd := nd0__law_table
  have IH := AH base hTB
  exact (mss_cons (ms_set 2 nd rfl (.inl rfl) me_newD)
    (mss_cons (ms_for PassesOwn.never rfl (mi_seq (me_add (me_call (IH.f ._law_found rfl) hr rfl (T.mg ._law_found rfl) (T.fn ._law_found rfl).kp (T.bd ._law_found rfl) (ma_cons (me_var 1) (ma_cons me_str ma_nil))) (me_call (IH.f ._law_found rfl) hr rfl (T.mg ._law_found rfl) (T.fn ._law_found rfl).kp (T.bd ._law_found rfl) (ma_cons (me_var 1) (ma_cons me_str ma_nil))))) (mg_name 3 nd rfl (.inl rfl)) (mss_cons (ms_set 4 nd rfl (.inl rfl) (me_call (IH.f ._law_take rfl) hr rfl (T.mg ._law_take rfl) (T.fn ._law_take rfl).kp (T.bd ._law_take rfl) (ma_cons (me_var 0) (ma_cons me_int ma_nil))))
    (mss_cons (ms_if (mt_cmp (or_eq hr.units) eqF_ok (me_var 4) me_int (nomark _)) (mss_one (ms_asg (me_tup (ma_cons me_str (ma_cons (me_var 3) (ma_cons (me_tup (ma_cons me_str (ma_cons me_int ma_nil))) ma_nil)))) (mg_subD (hu1 hr) (me_var 2) (me_var 3)))) mss_nil)
    (mss_cons (ms_if (mt_cmp (or_eq hr.units) eqF_ok (me_var 4) me_int (nomark _)) (mss_one (ms_asg (me_call (IH.f ._law_col rfl) hr rfl (T.mg ._law_col rfl) (T.fn ._law_col rfl).kp (T.bd ._law_col rfl) (ma_cons (me_var 0) ma_nil)) (mg_subD (hu1 hr) (me_var 2) (me_var 3)))) mss_nil)
    (mss_cons (ms_if (mt_cmp (or_eq hr.units) eqF_ok (me_var 4) me_int (nomark _)) (mss_one (ms_asg (me_tup (ma_cons me_str (ma_cons (me_tup (ma_cons me_str (ma_cons me_str (ma_cons (me_tup (ma_cons me_str (ma_cons me_str (ma_cons me_str ma_nil)))) ma_nil)))) ma_nil))) (mg_subD (hu1 hr) (me_var 2) (me_var 3)))) mss_nil)
    (mss_one (ms_if (mt_cmp (or_eq hr.units) eqF_ok (me_var 4) me_int (nomark _)) (mss_one (ms_asg (me_tup (ma_cons me_str (ma_cons (me_call (IH.f ._law_take rfl) hr rfl (T.mg ._law_take rfl) (T.fn ._law_take rfl).kp (T.bd ._law_take rfl) (ma_cons (me_var 0) (ma_cons me_int ma_nil))) ma_nil))) (mg_subD (hu1 hr) (me_var 2) (me_var 3)))) mss_nil)))))))
    (mss_cons (ms_asg (me_tup (ma_cons me_str (ma_cons me_int ma_nil))) (mg_subD (hu1 hr) (me_var 2) (me_call (IH.f ._law_col rfl) hr rfl (T.mg ._law_col rfl) (T.fn ._law_col rfl).kp (T.bd ._law_col rfl) (ma_cons (me_var 0) ma_nil))))
    (mss_cons (ms_asg (me_tup (ma_cons me_str (ma_cons me_str (ma_cons me_str ma_nil)))) (mg_subD (hu1 hr) (me_var 2) (me_call (IH.f ._law_agg rfl) hr rfl (T.mg ._law_agg rfl) (T.fn ._law_agg rfl).kp (T.bd ._law_agg rfl) (ma_cons (me_var 0) ma_nil))))
    (mss_one (ms_ret (me_var 2)))))))
theorem sc__law_same : FnScope ["_law_one", "_law_due", "_law_k"] (par ._law_same) (defScope s33) := ⟨rfl, rfl, rfl, by decide +kernel, rfl, by decide +kernel, by decide +kernel⟩
theorem nd0__law_same : (["_law_one", "_law_due", "_law_k"] : List Str).Nodup := by decide +kernel
theorem ok__law_same {k : Nat} {F : Fn → List D → Sto → Option (D × Sto)} (T : Txt K w g) (AH : ∀ base, (∀ p ∈ T.cs, LamX.TabB base g p.1 p.2) → All P T base k F) (hTB : ∀ p ∈ T.cs, LamX.TabB base g p.1 p.2) :
    FnOk P w K g base CX0 (k + 1) (T.ad ._law_same) (T.fd ._law_same) (par ._law_same) (spM ⟨K, P, w, base, T.tb⟩ (par ._law_same).length (bodyM 3 (b__law_same F))) := by
  refine ok_def (N := ["_law_one", "_law_due", "_law_k"]) (T.fn ._law_same rfl) sc__law_same (by decide) fun cdv A outer s0 H E hr => ?_
  have nd := nd0__law_same
  have IH := AH base hTB
  exact (mss_cons (ms_if (PW.pt (mw_or (mt_cmp op_isN isF_ok (me_var 1) me_non (nomark _)) (mw_or1 (mt_cmp op_isN isF_ok (me_var 0) me_non (nomark _))))) (mss_one (ms_ret (me_and (me_cmp op_isN isF_ok (me_var 0) me_non (nomark _)) (me_one (me_cmp op_isN isF_ok (me_var 1) me_non (nomark _)))))) mss_nil)
    (mss_cons (ms_if (PW.pt (mw_or (mt_truth (me_isi rfl T.z_isinstance (by decide +kernel) (me_var 1) (pe_bltn (v := .ty "bool") rfl T.z_bool (by decide +kernel) rfl))) (mw_or1 (mt_truth (me_isi rfl T.z_isinstance (by decide +kernel) (me_var 0) (pe_bltn (v := .ty "bool") rfl T.z_bool (by decide +kernel) rfl)))))) (mss_one (ms_ret (me_and (me_isi rfl T.z_isinstance (by decide +kernel) (me_var 1) (pe_bltn (v := .ty "bool") rfl T.z_bool (by decide +kernel) rfl)) (me_and (me_isi rfl T.z_isinstance (by decide +kernel) (me_var 0) (pe_bltn (v := .ty "bool") rfl T.z_bool (by decide +kernel) rfl)) (me_one (me_cmp (or_eq hr.units) eqF_ok (me_var 0) (me_var 1) (nomark _))))))) mss_nil)
    (mss_cons (ms_if (mt_truth (me_isi rfl T.z_isinstance (by decide +kernel) (me_var 1) (pe_bltn (v := .ty "int") rfl T.z_int (by decide +kernel) rfl))) (mss_one (ms_ret (me_and (me_isi rfl T.z_isinstance (by decide +kernel) (me_var 0) (pe_bltn (v := .ty "int") rfl T.z_int (by decide +kernel) rfl)) (me_one (me_cmp (or_eq hr.units) eqF_ok (me_var 0) (me_var 1) (nomark _)))))) mss_nil)
    (mss_cons (ms_if (mt_truth (me_isi rfl T.z_isinstance (by decide +kernel) (me_var 1) (pe_bltn (v := .ty "str") rfl T.z_str (by decide +kernel) rfl))) (mss_one (ms_ret (me_and (me_isi rfl T.z_isinstance (by decide +kernel) (me_var 0) (pe_bltn (v := .ty "str") rfl T.z_str (by decide +kernel) rfl)) (me_one (me_cmp (or_eq hr.units) eqF_ok (me_var 0) (me_var 1) (nomark _)))))) mss_nil)
    (mss_cons (ms_if (PW.pt (mw_or (mt_not (mt_truth (me_isi rfl T.z_isinstance (by decide +kernel) (me_var 1) (pe_bltn (v := .ty "tuple") rfl T.z_tuple (by decide +kernel) rfl)))) (mw_or (mt_not (mt_truth (me_isi rfl T.z_isinstance (by decide +kernel) (me_var 0) (pe_bltn (v := .ty "tuple") rfl T.z_tuple (by decide +kernel) rfl)))) (mw_or1 (mt_cmp (or_ne hr.units) neF_ok (me_callB call_len lenF_ok rfl T.z_len (by decide +kernel) (ma_cons (me_var 0) ma_nil)) (me_callB call_len lenF_ok rfl T.z_len (by decide +kernel) (ma_cons (me_var 1) ma_nil)) (nomark _)))))) (mss_one (ms_ret me_bl)) mss_nil)
    (mss_one (ms_ret (me_callB (cr_all rfl) allF_ok rfl T.z_all (by decide +kernel) (ma_cons (me_lc (tgt := (.one 2)) (own := [("_law_k", 2)]) rfl nd (mi_rng1 rfl T.z_range (ma_cons (me_callB call_len lenF_ok rfl T.z_len (by decide +kernel) (ma_cons (me_var 1) ma_nil)) ma_nil)) (blkOk_by (own := [("_law_k", 2)]) (N := ["_law_one", "_law_due", "_law_k"]) (sc := defScope s33) (by decide +kernel)) rfl (fun _ _ _ _ _ => pg_name (i := 2) nd rfl (Or.inl rfl)) (fun _ _ _ _ _ => mts_nil) (fun _ _ _ _ _ => (me_call (IH.f ._law_same rfl) hr rfl (T.mg ._law_same rfl) (T.fn ._law_same rfl).kp (T.bd ._law_same rfl) (ma_cons (me_ix (me_var 0) (me_var 2)) (ma_cons (me_ix (me_var 1) (me_var 2)) ma_nil))))) ma_nil)))))))))
theorem sc__law_is_right : FnScope ["_law_box", "_law_node", "_law_swaps", "_law_kept", "_law_due", "_law_key"] (par ._law_is_right) (defScope s34) := ⟨rfl, rfl, rfl, by decide +kernel, rfl, by decide +kernel, by decide +kernel⟩
theorem nd0__law_is_right : (["_law_box", "_law_node", "_law_swaps", "_law_kept", "_law_due", "_law_key"] : List Str).Nodup := by decide +kernel
theorem ok__law_is_right {k : Nat} {F : Fn → List D → Sto → Option (D × Sto)} (T : Txt K w g) (AH : ∀ base, (∀ p ∈ T.cs, LamX.TabB base g p.1 p.2) → All P T base k F) (hTB : ∀ p ∈ T.cs, LamX.TabB base g p.1 p.2) :
    FnOk P w K g base CX0 (k + 1) (T.ad ._law_is_right) (T.fd ._law_is_right) (par ._law_is_right) (spM ⟨K, P, w, base, T.tb⟩ (par ._law_is_right).length (bodyM 6 (b__law_is_right F))) := by
  refine ok_def (N := ["_law_box", "_law_node", "_law_swaps", "_law_kept", "_law_due", "_law_key"]) (T.fn ._law_is_right rfl) sc__law_is_right (by decide) fun cdv A outer s0 H E hr => ?_
  have nd := nd0__law_is_right
  have IH := AH base hTB
  exact (mss_cons (ms_if (mt_not (mt_truth (me_call (IH.f ._law_same rfl) hr rfl (T.mg ._law_same rfl) (T.fn ._law_same rfl).kp (T.bd ._law_same rfl) (ma_cons (me_call (IH.f .columns_in rfl) hr rfl (T.mg .columns_in rfl) (T.fn .columns_in rfl).kp (T.bd .columns_in rfl) (ma_cons (me_var 1) ma_nil)) (ma_cons (me_call (IH.f ._law_found rfl) hr rfl (T.mg ._law_found rfl) (T.fn ._law_found rfl).kp (T.bd ._law_found rfl) (ma_cons (me_var 1) (ma_cons me_str ma_nil))) ma_nil))))) (mss_one (ms_ret me_bl)) mss_nil)
    (mss_cons (ms_if (mt_not (mt_truth (me_call (IH.f ._law_same rfl) hr rfl (T.mg ._law_same rfl) (T.fn ._law_same rfl).kp (T.bd ._law_same rfl) (ma_cons (me_callK0 (ks := ["thing"]) (IH.f .aggs_in rfl) hr rfl (T.mg .aggs_in rfl) (T.fn .aggs_in rfl).kp (T.kb_aggs_in_0_thing) (mk_cons (me_var 1) mk_nil)) (ma_cons (me_call (IH.f ._law_found rfl) hr rfl (T.mg ._law_found rfl) (T.fn ._law_found rfl).kp (T.bd ._law_found rfl) (ma_cons (me_var 1) (ma_cons me_str ma_nil))) ma_nil))))) (mss_one (ms_ret me_bl)) mss_nil)
    (mss_cons (ms_if (PW.pt (mw_and (mt_truth (me_ix (me_var 0) me_int)) (mw_and1 (mt_not (mt_truth (me_call (IH.f ._law_same rfl) hr rfl (T.mg ._law_same rfl) (T.fn ._law_same rfl).kp (T.bd ._law_same rfl) (ma_cons (me_callK0 (ks := ["thing"]) (IH.f .height rfl) hr rfl (T.mg .height rfl) (T.fn .height rfl).kp (T.kb_height_0_thing) (mk_cons (me_var 1) mk_nil)) (ma_cons (me_call (IH.f ._law_levels rfl) hr rfl (T.mg ._law_levels rfl) (T.fn ._law_levels rfl).kp (T.bd ._law_levels rfl) (ma_cons (me_var 1) ma_nil)) ma_nil)))))))) (mss_one (ms_ret me_bl)) mss_nil)
    (mss_cons (ms_set 2 nd rfl (.inr rfl) (me_call (IH.f ._law_table rfl) hr rfl (T.mg ._law_table rfl) (T.fn ._law_table rfl).kp (T.bd ._law_table rfl) (ma_cons (me_var 0) (ma_cons (me_var 1) ma_nil))))
    (mss_cons (ms_lock 2 (ms_setLc 3 (tgt := (.one 5)) (own := [("_law_key", 5)]) rfl nd rfl rfl (sw_true rfl rfl rfl (by decide +kernel)) (mi_keys (me_var 2)) (blkOk_by (own := [("_law_key", 5)]) (N := ["_law_box", "_law_node", "_law_swaps", "_law_kept", "_law_due", "_law_key"]) (sc := defScope s34) (by decide +kernel)) rfl (fun _ _ _ _ _ => pg_name (i := 5) nd rfl (Or.inl rfl)) (fun _ _ _ _ _ => mts_nil) (fun _ _ _ _ _ => (me_tup (ma_cons (me_var 5) (ma_cons (me_get (hu1 hr) (me_var 2) (me_var 5)) ma_nil))))))
    (mss_cons (ms_if (mt_not (mt_truth (me_call (IH.f ._law_same rfl) hr rfl (T.mg ._law_same rfl) (T.fn ._law_same rfl).kp (T.bd ._law_same rfl) (ma_cons (me_call (IH.f .replaced rfl) hr rfl (T.mg .replaced rfl) (T.fn .replaced rfl).kp (T.bd .replaced rfl) (ma_cons (me_var 1) (ma_cons (me_var 2) ma_nil))) (ma_cons (me_call (IH.f ._law_put rfl) hr rfl (T.mg ._law_put rfl) (T.fn ._law_put rfl).kp (T.bd ._law_put rfl) (ma_cons (me_var 1) (ma_cons (me_callTy (call_dictN rfl (hu65 hr)) dictF_ok rfl T.z_dict (by decide +kernel) (ma_cons (me_var 3) ma_nil)) ma_nil))) ma_nil))))) (mss_one (ms_ret me_bl)) mss_nil)
    (mss_cons (ms_if (mt_not (mt_truth (me_call (IH.f ._law_same rfl) hr rfl (T.mg ._law_same rfl) (T.fn ._law_same rfl).kp (T.bd ._law_same rfl) (ma_cons (me_callTy call_tuple_of tupleF_ok rfl T.z_tuple (by decide +kernel) (ma_cons (me_lock 2 (me_lc (tgt := (.one 5)) (own := [("_law_key", 5)]) rfl nd (mi_keys (me_var 2)) (blkOk_by (own := [("_law_key", 5)]) (N := ["_law_box", "_law_node", "_law_swaps", "_law_kept", "_law_due", "_law_key"]) (sc := defScope s34) (by decide +kernel)) rfl (fun _ _ _ _ _ => pg_name (i := 5) nd rfl (Or.inl rfl)) (fun _ _ _ _ _ => mts_nil) (fun _ _ _ _ _ => (me_tup (ma_cons (me_var 5) (ma_cons (me_get (hu1 hr) (me_var 2) (me_var 5)) ma_nil)))))) ma_nil)) (ma_cons (me_callTy call_tuple_of tupleF_ok rfl T.z_tuple (by decide +kernel) (ma_cons (me_var 3) ma_nil)) ma_nil))))) (mss_one (ms_ret me_bl)) mss_nil)
    (mss_cons (ms_set 4 nd rfl (.inl rfl) (me_tup (ma_cons (me_var 1) (ma_cons (me_call (IH.f ._law_found rfl) hr rfl (T.mg ._law_found rfl) (T.fn ._law_found rfl).kp (T.bd ._law_found rfl) (ma_cons (me_var 1) (ma_cons me_str ma_nil))) ma_nil))))
    (mss_one (ms_ret (me_call (IH.f ._law_same rfl) hr rfl (T.mg ._law_same rfl) (T.fn ._law_same rfl).kp (T.bd ._law_same rfl) (ma_cons (me_tup (ma_cons (me_callK0 (ks := ["table", "thing"]) (IH.f .replaced rfl) hr rfl (T.mg .replaced rfl) (T.fn .replaced rfl).kp (T.kb_replaced_0_table_thing) (mk_cons me_newD (mk_cons (me_var 1) mk_nil))) (ma_cons (me_callK0 (ks := ["thing"]) (IH.f .columns_in rfl) hr rfl (T.mg .columns_in rfl) (T.fn .columns_in rfl).kp (T.kb_columns_in_0_thing) (mk_cons (me_var 1) mk_nil)) ma_nil))) (ma_cons (me_var 4) ma_nil)))))))))))))
theorem sc__law_conds_right : FnScope ["_law_box", "_law_tests", "_law_tree", "_law_test", "_law_rows", "_law_again"] (par ._law_conds_right) (defScope s35) := ⟨rfl, rfl, rfl, by decide +kernel, rfl, by decide +kernel, by decide +kernel⟩
theorem nd0__law_conds_right : (["_law_box", "_law_tests", "_law_tree", "_law_test", "_law_rows", "_law_again"] : List Str).Nodup := by decide +kernel
theorem ok__law_conds_right {k : Nat} {F : Fn → List D → Sto → Option (D × Sto)} (T : Txt K w g) (AH : ∀ base, (∀ p ∈ T.cs, LamX.TabB base g p.1 p.2) → All P T base k F) (hTB : ∀ p ∈ T.cs, LamX.TabB base g p.1 p.2) :
    FnOk P w K g base CX0 (k + 1) (T.ad ._law_conds_right) (T.fd ._law_conds_right) (par ._law_conds_right) (spM ⟨K, P, w, base, T.tb⟩ (par ._law_conds_right).length (bodyM 6 (b__law_conds_right F))) := by
  refine ok_def (N := ["_law_box", "_law_tests", "_law_tree", "_law_test", "_law_rows", "_law_again"]) (T.fn ._law_conds_right rfl) sc__law_conds_right (by decide) fun cdv A outer s0 H E hr => ?_
  have nd := nd0__law_conds_right
  have IH := AH base hTB
  exact (mss_cons (ms_set 2 nd rfl (.inl rfl) me_non)
    (mss_cons (ms_for PassesOwn.never rfl (mi_seq (me_var 1)) (mg_name 3 nd rfl (.inl rfl)) (mss_one (ms_if (mt_cmp op_isN isF_ok (me_var 2) me_non (nomark _)) (mss_one (ms_set 2 nd rfl (.inl rfl) (me_var 3))) (mss_one (ms_set 2 nd rfl (.inl rfl) (me_tup (ma_cons me_str (ma_cons (me_var 2) (ma_cons (me_var 3) ma_nil)))))))))
    (mss_cons (ms_set 4 nd rfl (.inl rfl) (me_lst ma_nil))
    (mss_cons (ms_for PassesOwn.never rfl (mi_seq (me_var 1)) (mg_name 3 nd rfl (.inl rfl)) (mss_one (ms_set 4 nd rfl (.inl rfl) (me_add (me_var 4) (me_callTy call_list_of listF_ok rfl T.z_list (by decide +kernel) (ma_cons (me_call (IH.f ._law_split rfl) hr rfl (T.mg ._law_split rfl) (T.fn ._law_split rfl).kp (T.bd ._law_split rfl) (ma_cons (me_var 3) ma_nil)) ma_nil))))))
    (mss_cons (ms_if (PW.pt (mw_or (mt_not (mt_truth (me_call (IH.f ._law_same rfl) hr rfl (T.mg ._law_same rfl) (T.fn ._law_same rfl).kp (T.bd ._law_same rfl) (ma_cons (me_callK0 (ks := ["conds"]) (IH.f .joined rfl) hr rfl (T.mg .joined rfl) (T.fn .joined rfl).kp (T.kb_joined_0_conds) (mk_cons (me_callTy call_tuple_of tupleF_ok rfl T.z_tuple (by decide +kernel) (ma_cons (me_var 1) ma_nil)) mk_nil)) (ma_cons (me_var 2) ma_nil))))) (mw_or1 (mt_not (mt_truth (me_call (IH.f ._law_same rfl) hr rfl (T.mg ._law_same rfl) (T.fn ._law_same rfl).kp (T.bd ._law_same rfl) (ma_cons (me_callK0 (ks := ["cond"]) (IH.f .members rfl) hr rfl (T.mg .members rfl) (T.fn .members rfl).kp (T.kb_members_0_cond) (mk_cons (me_var 2) mk_nil)) (ma_cons (me_callTy call_tuple_of tupleF_ok rfl T.z_tuple (by decide +kernel) (ma_cons (me_var 4) ma_nil)) ma_nil)))))))) (mss_one (ms_ret me_bl)) mss_nil)
    (mss_cons (ms_set 5 nd rfl (.inl rfl) (me_call (IH.f .members rfl) hr rfl (T.mg .members rfl) (T.fn .members rfl).kp (T.bd .members rfl) (ma_cons (me_call (IH.f .joined rfl) hr rfl (T.mg .joined rfl) (T.fn .joined rfl).kp (T.bd .joined rfl) (ma_cons (me_call (IH.f .members rfl) hr rfl (T.mg .members rfl) (T.fn .members rfl).kp (T.bd .members rfl) (ma_cons (me_var 2) ma_nil)) ma_nil)) ma_nil)))
    (mss_one (ms_ret (me_and (me_call (IH.f ._law_same rfl) hr rfl (T.mg ._law_same rfl) (T.fn ._law_same rfl).kp (T.bd ._law_same rfl) (ma_cons (me_var 5) (ma_cons (me_callTy call_tuple_of tupleF_ok rfl T.z_tuple (by decide +kernel) (ma_cons (me_var 4) ma_nil)) ma_nil))) (me_one (me_call (IH.f ._law_is_right rfl) hr rfl (T.mg ._law_is_right rfl) (T.fn ._law_is_right rfl).kp (T.bd ._law_is_right rfl) (ma_cons (me_var 0) (ma_cons (me_var 2) ma_nil)))))))))))))
theorem sc_law : FnScope ["_law_script", "_law_box", "_law_first", "_law_deep", "_law_most", "_law_many", "_law_k"] (par .law) (defScope s36) := ⟨rfl, rfl, rfl, by decide +kernel, rfl, by decide +kernel, by decide +kernel⟩
theorem nd0_law : (["_law_script", "_law_box", "_law_first", "_law_deep", "_law_most", "_law_many", "_law_k"] : List Str).Nodup := by decide +kernel
theorem ok_law {k : Nat} {F : Fn → List D → Sto → Option (D × Sto)} (T : Txt K w g) (AH : ∀ base, (∀ p ∈ T.cs, LamX.TabB base g p.1 p.2) → All P T base k F) (hTB : ∀ p ∈ T.cs, LamX.TabB base g p.1 p.2) :
    FnOk P w K g base CX0 (k + 1) (T.ad .law) (T.fd .law) (par .law) (spM ⟨K, P, w, base, T.tb⟩ (par .law).length (bodyM 7 (b_law F))) := by
  refine ok_def (N := ["_law_script", "_law_box", "_law_first", "_law_deep", "_law_most", "_law_many", "_law_k"]) (T.fn .law rfl) sc_law (by decide) fun cdv A outer s0 H E hr => ?_
  have nd := nd0_law
  have IH := AH base hTB
  exact (mss_cons (ms_set 1 nd rfl (.inr rfl) (me_lst (ma_cons (me_call (IH.f ._law_numbers rfl) hr rfl (T.mg ._law_numbers rfl) (T.fn ._law_numbers rfl).kp (T.bd ._law_numbers rfl) (ma_cons (me_var 0) ma_nil)) (ma_cons me_int (ma_cons me_bl (ma_cons me_int (ma_cons (me_lst ma_nil) ma_nil)))))))
    (mss_cons (ms_set 2 nd rfl (.inl rfl) (me_call (IH.f ._law_cond rfl) hr rfl (T.mg ._law_cond rfl) (T.fn ._law_cond rfl).kp (T.bd ._law_cond rfl) (ma_cons (me_var 1) (ma_cons me_int ma_nil))))
    (mss_cons (ms_if (PW.pt (mw_or (mt_not (mt_truth (me_call (IH.f ._law_conds_right rfl) hr rfl (T.mg ._law_conds_right rfl) (T.fn ._law_conds_right rfl).kp (T.bd ._law_conds_right rfl) (ma_cons (me_var 1) (ma_cons (me_lst ma_nil) ma_nil))))) (mw_or (mt_not (mt_truth (me_call (IH.f ._law_same rfl) hr rfl (T.mg ._law_same rfl) (T.fn ._law_same rfl).kp (T.bd ._law_same rfl) (ma_cons (me_call (IH.f .members rfl) hr rfl (T.mg .members rfl) (T.fn .members rfl).kp (T.bd .members rfl) (ma_cons me_non ma_nil)) (ma_cons (me_tup ma_nil) ma_nil))))) (mw_or1 (mt_not (mt_truth (me_call (IH.f ._law_is_right rfl) hr rfl (T.mg ._law_is_right rfl) (T.fn ._law_is_right rfl).kp (T.bd ._law_is_right rfl) (ma_cons (me_var 1) (ma_cons me_non ma_nil))))))))) (mss_one (ms_ret me_bl)) mss_nil)
    (mss_cons (ms_if (PW.pt (mw_or (mt_not (mt_truth (me_call (IH.f ._law_is_right rfl) hr rfl (T.mg ._law_is_right rfl) (T.fn ._law_is_right rfl).kp (T.bd ._law_is_right rfl) (ma_cons (me_var 1) (ma_cons (me_var 2) ma_nil))))) (mw_or1 (mt_not (mt_truth (me_call (IH.f ._law_same rfl) hr rfl (T.mg ._law_same rfl) (T.fn ._law_same rfl).kp (T.bd ._law_same rfl) (ma_cons (me_call (IH.f .members rfl) hr rfl (T.mg .members rfl) (T.fn .members rfl).kp (T.bd .members rfl) (ma_cons (me_var 2) ma_nil)) (ma_cons (me_call (IH.f ._law_split rfl) hr rfl (T.mg ._law_split rfl) (T.fn ._law_split rfl).kp (T.bd ._law_split rfl) (ma_cons (me_var 2) ma_nil)) ma_nil)))))))) (mss_one (ms_ret me_bl)) mss_nil)
    (mss_cons (ms_for PassesOwn.never rfl (mi_seq (me_lst (ma_cons me_int (ma_cons me_int (ma_cons me_int (ma_cons me_int ma_nil)))))) (mg_name 3 nd rfl (.inl rfl)) (mss_cons (ms_expr (me_call (IH.f ._law_begun rfl) hr rfl (T.mg ._law_begun rfl) (T.fn ._law_begun rfl).kp (T.bd ._law_begun rfl) (ma_cons (me_var 1) (ma_cons (me_cmp (or_eq hr.units) eqF_ok (me_call (IH.f ._law_take rfl) hr rfl (T.mg ._law_take rfl) (T.fn ._law_take rfl).kp (T.bd ._law_take rfl) (ma_cons (me_var 1) (ma_cons me_int ma_nil))) me_int (nomark _)) (ma_cons me_int ma_nil)))))
    (mss_one (ms_if (mt_not (mt_truth (me_call (IH.f ._law_is_right rfl) hr rfl (T.mg ._law_is_right rfl) (T.fn ._law_is_right rfl).kp (T.bd ._law_is_right rfl) (ma_cons (me_var 1) (ma_cons (me_call (IH.f ._law_expr rfl) hr rfl (T.mg ._law_expr rfl) (T.fn ._law_expr rfl).kp (T.bd ._law_expr rfl) (ma_cons (me_var 1) (ma_cons (me_var 3) ma_nil))) ma_nil))))) (mss_one (ms_ret me_bl)) mss_nil))))
    (mss_cons (ms_for PassesOwn.never rfl (mi_seq (me_lst (ma_cons me_int (ma_cons me_int ma_nil)))) (mg_name 3 nd rfl (.inl rfl)) (mss_cons (ms_expr (me_call (IH.f ._law_begun rfl) hr rfl (T.mg ._law_begun rfl) (T.fn ._law_begun rfl).kp (T.bd ._law_begun rfl) (ma_cons (me_var 1) (ma_cons me_bl (ma_cons me_int ma_nil)))))
    (mss_one (ms_if (mt_not (mt_truth (me_call (IH.f ._law_is_right rfl) hr rfl (T.mg ._law_is_right rfl) (T.fn ._law_is_right rfl).kp (T.bd ._law_is_right rfl) (ma_cons (me_var 1) (ma_cons (me_call (IH.f ._law_cond rfl) hr rfl (T.mg ._law_cond rfl) (T.fn ._law_cond rfl).kp (T.bd ._law_cond rfl) (ma_cons (me_var 1) (ma_cons (me_var 3) ma_nil))) ma_nil))))) (mss_one (ms_ret me_bl)) mss_nil))))
    (mss_cons (ms_for PassesOwn.never rfl (mi_seq (me_lst (ma_cons me_int (ma_cons me_int ma_nil)))) (mg_name 4 nd rfl (.inl rfl)) (mss_cons (ms_set 5 nd rfl (.inl rfl) (me_callB (call_min2 rfl) minF_ok rfl T.z_min (by decide +kernel) (ma_cons (me_var 4) (ma_cons (me_ix (me_lst (ma_cons me_int (ma_cons me_int (ma_cons me_int (ma_cons me_int (ma_cons me_int (ma_cons me_int ma_nil))))))) (me_call (IH.f ._law_take rfl) hr rfl (T.mg ._law_take rfl) (T.fn ._law_take rfl).kp (T.bd ._law_take rfl) (ma_cons (me_var 1) (ma_cons me_int ma_nil)))) ma_nil))))
    (mss_cons (ms_expr (me_call (IH.f ._law_begun rfl) hr rfl (T.mg ._law_begun rfl) (T.fn ._law_begun rfl).kp (T.bd ._law_begun rfl) (ma_cons (me_var 1) (ma_cons me_bl (ma_cons (me_sub me_int (me_var 5)) ma_nil)))))
    (mss_one (ms_if (mt_not (mt_truth (me_call (IH.f ._law_conds_right rfl) hr rfl (T.mg ._law_conds_right rfl) (T.fn ._law_conds_right rfl).kp (T.bd ._law_conds_right rfl) (ma_cons (me_var 1) (ma_cons (me_lc (tgt := (.one 6)) (own := [("_law_k", 6)]) rfl nd (mi_rng1 rfl T.z_range (ma_cons (me_var 5) ma_nil)) (blkOk_by (own := [("_law_k", 6)]) (N := ["_law_script", "_law_box", "_law_first", "_law_deep", "_law_most", "_law_many", "_law_k"]) (sc := defScope s36) (by decide +kernel)) rfl (fun _ _ _ _ _ => pg_name (i := 6) nd rfl (Or.inl rfl)) (fun _ _ _ _ _ => mts_nil) (fun _ _ _ _ _ => (me_call (IH.f ._law_cond rfl) hr rfl (T.mg ._law_cond rfl) (T.fn ._law_cond rfl).kp (T.bd ._law_cond rfl) (ma_cons (me_var 1) (ma_cons (me_mul (me_callTy call_int1 intF_ok rfl T.z_int (by decide +kernel) (ma_cons (me_cmp or_lt ltF_ok (me_var 6) me_int (nomark _)) ma_nil)) me_int) ma_nil))))) ma_nil))))) (mss_one (ms_ret me_bl)) mss_nil)))))
    (mss_one (ms_ret (me_and (me_call (IH.f ._law_same rfl) hr rfl (T.mg ._law_same rfl) (T.fn ._law_same rfl).kp (T.bd ._law_same rfl) (ma_cons (me_call (IH.f .columns_in rfl) hr rfl (T.mg .columns_in rfl) (T.fn .columns_in rfl).kp (T.bd .columns_in rfl) (ma_cons (me_var 2) ma_nil)) (ma_cons (me_call (IH.f ._law_found rfl) hr rfl (T.mg ._law_found rfl) (T.fn ._law_found rfl).kp (T.bd ._law_found rfl) (ma_cons (me_var 2) (ma_cons me_str ma_nil))) ma_nil))) (me_one (me_call (IH.f ._law_same rfl) hr rfl (T.mg ._law_same rfl) (T.fn ._law_same rfl).kp (T.bd ._law_same rfl) (ma_cons (me_call (IH.f .members rfl) hr rfl (T.mg .members rfl) (T.fn .members rfl).kp (T.bd .members rfl) (ma_cons (me_var 2) ma_nil)) (ma_cons (me_call (IH.f ._law_split rfl) hr rfl (T.mg ._law_split rfl) (T.fn ._law_split rfl).kp (T.bd ._law_split rfl) (ma_cons (me_var 2) ma_nil)) ma_nil))))))))))))))
end
end Gn
set_option maxHeartbeats 4000000 -- wide
namespace Gn
open L2 PyProof.Rows PySem PySem.Spec Ml
section
variable {P : Program} {w : World} {K : PySem.W.Frag} {g : Str → Option Value} {base : Heap}
theorem sc_rebuilt__step : NdefX.NScope ["one", "new_parts", "change"] nd_rebuilt__step.ps nd_rebuilt__step.fr (C8.fnScope nst_rebuilt__step) := NdefX.nscope_by (by decide +kernel)
theorem nd0_rebuilt__step : (["one", "new_parts", "change"] : List Str).Nodup := by decide +kernel
theorem ok_rebuilt__step {k : Nat} {F : Fn → List D → Sto → Option (D × Sto)} (T : Txt K w g) (AH : ∀ base, (∀ p ∈ T.cs, LamX.TabB base g p.1 p.2) → All P T base k F) (hTB : ∀ p ∈ T.cs, LamX.TabB base g p.1 p.2) :
    NokM P w K g base T.tb (k + 1) nd_rebuilt__step (bodyM 3 (b_rebuilt__step F)) := by
  refine nok_def (N := ["one", "new_parts", "change"]) sc_rebuilt__step (by decide) (fun _ _ _ _ _ us hl => match us, hl with | [_, _], _ => rfl) fun cl c f A outer s0 H E hr => ?_
  have nd := nd0_rebuilt__step
  have IH := AH base hTB
  exact (mss_one (ms_ret (me_callN (i := 2) IH.n hr rfl (by first | exact Or.inl rfl | exact Or.inr (Or.inl rfl) | exact Or.inr (Or.inr rfl)) (ma_cons (me_call (IH.f .with_parts rfl) hr rfl (T.mg .with_parts rfl) (T.fn .with_parts rfl).kp (T.bd .with_parts rfl) (ma_cons (me_var 0) (ma_cons (me_var 1) ma_nil))) ma_nil))))
theorem sc_replaced__change : NdefX.NScope ["one", "table"] nd_replaced__change.ps nd_replaced__change.fr (C8.fnScope nst_replaced__change) := NdefX.nscope_by (by decide +kernel)
theorem nd0_replaced__change : (["one", "table"] : List Str).Nodup := by decide +kernel
theorem ok_replaced__change {k : Nat} {F : Fn → List D → Sto → Option (D × Sto)} (T : Txt K w g) (AH : ∀ base, (∀ p ∈ T.cs, LamX.TabB base g p.1 p.2) → All P T base k F) (hTB : ∀ p ∈ T.cs, LamX.TabB base g p.1 p.2) :
    NokM P w K g base T.tb (k + 1) nd_replaced__change (bodyM 2 (b_replaced__change F)) := by
  refine nok_def (N := ["one", "table"]) sc_replaced__change (by decide) (fun _ _ _ _ _ us hl => match us, hl with | [_], _ => rfl) fun cl c f A outer s0 H E hr => ?_
  have nd := nd0_replaced__change
  have IH := AH base hTB
  exact (mss_one (ms_ret (me_if (mt_truth (me_call (IH.f .parts_of rfl) hr rfl (T.mg .parts_of rfl) (T.fn .parts_of rfl).kp (T.bd .parts_of rfl) (ma_cons (me_var 0) ma_nil))) (me_var 0) (me_call (IH.f .leaf_replaced rfl) hr rfl (T.mg .leaf_replaced rfl) (T.fn .leaf_replaced rfl).kp (T.bd .leaf_replaced rfl) (ma_cons (me_var 0) (ma_cons (me_var 1) ma_nil))))))
end
end Gn
set_option maxHeartbeats 4000000 -- wide
namespace Gn
open L2 PyProof.Rows PySem PySem.Spec Ml
section
variable {P : Program} {w : World} {K : PySem.W.Frag} {g : Str → Option Value} {base : Heap}
theorem all_ok (T : Txt K w g) : ∀ (k : Nat) (base : Heap), (∀ p ∈ T.cs, LamX.TabB base g p.1 p.2) → All P T base k (den k)
  | 0, base, hTB => by
    refine ⟨fun f _ => ok_zero, fun id nd h => ?_⟩
    match id, h with
    | 0, h => cases h; exact nok_zero
    | 1, h => cases h; exact nok_zero
    | q + 2, h => cases h
  | k + 1, base, hTB => by
    have AH := all_ok T k
    refine ⟨fun f hf => ?_, fun id nd h => ?_⟩
    · cases f
      · exact ok_parts_of T AH hTB
      · exact ok_with_parts T AH hTB
      · exact ok_reduced T AH hTB
      · exact ok_rebuilt T AH hTB
      · exact ok_members T AH hTB
      · exact ok_joined T AH hTB
      · exact ok_height T AH hTB
      · exact ok_columns_in T AH hTB
      · exact ok_aggs_in T AH hTB
      · exact ok_replaced T AH hTB
      · exact ok_leaf_replaced T AH hTB
      · exact ok_leaves_of T AH hTB
      · exact ok_columns_at T AH hTB
      · exact ok_is_column T AH hTB
      · exact ok__law_numbers T AH hTB
      · exact ok__law_take T AH hTB
      · exact ok__law_begun T AH hTB
      · exact ok__law_col T AH hTB
      · exact ok__law_agg T AH hTB
      · exact ok__law_expr T AH hTB
      · exact ok__law_question T AH hTB
      · exact ok__law_cond T AH hTB
      · exact ok__law_parts T AH hTB
      · exact ok__law_found T AH hTB
      · exact ok__law_levels T AH hTB
      · exact ok__law_split T AH hTB
      · exact ok__law_put T AH hTB
      · exact ok__law_table T AH hTB
      · exact ok__law_same T AH hTB
      · exact ok__law_is_right T AH hTB
      · exact ok__law_conds_right T AH hTB
      · exact ok_law T AH hTB
      · cases hf
      · cases hf
    · match id, h with
      | 0, h => cases h; exact ok_rebuilt__step T AH hTB
      | 1, h => cases h; exact ok_replaced__change T AH hTB
      | q + 2, h => cases h
end
end Gn
set_option maxHeartbeats 4000000 -- wide
namespace Gn
open L2 PyProof.Rows PySem PySem.Spec Ml
theorem rp_lit {K : PySem.W.Frag} {P : Program} {w : World} {a : Addr} {oc : Value} {dd : Option Addr} {its : Array Value} {n : Nat} {sl : Array (Option Value)} {xs : List D} {vs : List V} (h : K.lookup a = some ⟨oc, dd, .seq its n, sl⟩) (hc : oc = .type "tuple")
    (hz : its.size ≤ sizeLine) (hv : Vals vs its.toList) (hr : ∀ (P : Program) (b : Heap) (t : List NdefX.NTab) (H : Hp) (m : List Addr), Rps ⟨K, P, w, b, t⟩ H m xs vs) (P : Program) (b : Heap) (t : List NdefX.NTab) (H : Hp) (m : List Addr) : Rp ⟨K, P, w, b, t⟩ H m (.tup xs) (.ref a) := by
  rw [Rp]
  exact ⟨a, vs, rfl, .inr ⟨_, its, n, h, hc, rfl, hz, hv⟩, hr P b t H m⟩
theorem mk_txt {w : World} {K : PySem.W.Frag} {h : Heap} {g : Str → Option Value} (X : K.In h) (G : h.Ns mainGlobals g)
    {f0 f1 f2 f3 f4 f5 f6 f7 f8 f9 f10 f11 f12 f13 f14 f15 f16 f17 f18 f19 f20 f21 f22 f23 f24 f25 f26 f27 f28 f29 f30 f31 : Addr}
    {od0 an0 od1 an1 od2 an2 od3 an3 od4 an4 od5 an5 od6 an6 od7 an7 od8 an8 od9 an9 od10 an10 od11 an11 od12 an12 od13 an13 od14 an14 od15 an15 od16 an16 od17 an17 od18 an18 od19 an19 od20 an20 od21 an21 od22 an22 od23 an23 od24 an24 od25 an25 od26 an26 od27 an27 od28 an28 od29 an29 od30 an30 od31 an31 : Option Addr}
    {sl0 sl1 sl2 sl3 sl4 sl5 sl6 sl7 sl8 sl9 sl10 sl11 sl12 sl13 sl14 sl15 sl16 sl17 sl18 sl19 sl20 sl21 sl22 sl23 sl24 sl25 sl26 sl27 sl28 sl29 sl30 sl31 : Array (Option Value)}
    {oc0 kV0 dc0 pm0 cd0 ct0 oc1 kV1 dc1 pm1 cd1 ct1 oc2 kV2 dc2 pm2 cd2 ct2 oc3 kV3 dc3 pm3 ct3 oc4 kV4 dc4 pm4 cd4 ct4 oc5 kV5 dc5 pm5 cd5 ct5 oc6 kV6 dc6 pm6 cd6 ct6 oc7 kV7 dc7 pm7 cd7 ct7 oc8 kV8 dc8 pm8 cd8 ct8 oc9 kV9 dc9 pm9 ct9 oc10 kV10 dc10 pm10 cd10 ct10 oc11 kV11 dc11 pm11 cd11 ct11 oc12 kV12 dc12 pm12 cd12 ct12 oc13 kV13 dc13 pm13 cd13 ct13 oc14 kV14 dc14 pm14 cd14 ct14 oc15 kV15 dc15 pm15 cd15 ct15 oc16 kV16 dc16 pm16 cd16 ct16 oc17 kV17 dc17 pm17 cd17 ct17 oc18 kV18 dc18 pm18 cd18 ct18 oc19 kV19 dc19 pm19 cd19 ct19 oc20 kV20 dc20 pm20 cd20 ct20 oc21 kV21 dc21 pm21 cd21 ct21 oc22 kV22 dc22 pm22 cd22 ct22 oc23 kV23 dc23 pm23 cd23 ct23 oc24 kV24 dc24 pm24 cd24 ct24 oc25 kV25 dc25 pm25 cd25 ct25 oc26 kV26 dc26 pm26 cd26 ct26 oc27 kV27 dc27 pm27 cd27 ct27 oc28 kV28 dc28 pm28 cd28 ct28 oc29 kV29 dc29 pm29 cd29 ct29 oc30 kV30 dc30 pm30 cd30 ct30 oc31 kV31 dc31 pm31 cd31 ct31 : Value}
    {cc3 pt3 : Addr} {lod3 : Option Addr} {lvs3 : Array Value} {lsl3 : Array (Option Value)}
    {cc9 pt9 : Addr} {lod9 : Option Addr} {lvs9 : Array Value} {lsl9 : Array (Option Value)}
    {ta_NO_PLACES : Addr} {dd_NO_PLACES : Option Addr} {n_NO_PLACES : Nat} {sl_NO_PLACES : Array (Option Value)}
    {u_NO_PLACES_0 u_NO_PLACES_1 : Tok}
    {da_PART_PLACES : Addr} {es_PART_PLACES : Array DictEntry} {dn_PART_PLACES : Nat}
    {ta_PART_PLACES_0 : Addr} {dd_PART_PLACES_0 : Option Addr} {n_PART_PLACES_0 : Nat} {sl_PART_PLACES_0 : Array (Option Value)}
    {u_PART_PLACES_0_0 u_PART_PLACES_0_1 : Tok}
    {ta_PART_PLACES_1 : Addr} {dd_PART_PLACES_1 : Option Addr} {n_PART_PLACES_1 : Nat} {sl_PART_PLACES_1 : Array (Option Value)}
    {u_PART_PLACES_1_0 u_PART_PLACES_1_1 : Tok}
    {ta_PART_PLACES_2 : Addr} {dd_PART_PLACES_2 : Option Addr} {n_PART_PLACES_2 : Nat} {sl_PART_PLACES_2 : Array (Option Value)}
    {u_PART_PLACES_2_0 u_PART_PLACES_2_1 : Tok}
    {ta_PART_PLACES_3 : Addr} {dd_PART_PLACES_3 : Option Addr} {n_PART_PLACES_3 : Nat} {sl_PART_PLACES_3 : Array (Option Value)}
    {u_PART_PLACES_3_0 u_PART_PLACES_3_1 : Tok}
    {ta_PART_PLACES_4 : Addr} {dd_PART_PLACES_4 : Option Addr} {n_PART_PLACES_4 : Nat} {sl_PART_PLACES_4 : Array (Option Value)}
    {u_PART_PLACES_4_0 u_PART_PLACES_4_1 : Tok}
    {ta_PART_PLACES_5 : Addr} {dd_PART_PLACES_5 : Option Addr} {n_PART_PLACES_5 : Nat} {sl_PART_PLACES_5 : Array (Option Value)}
    {u_PART_PLACES_5_0 u_PART_PLACES_5_1 : Tok}
    {ta_PART_PLACES_6 : Addr} {dd_PART_PLACES_6 : Option Addr} {n_PART_PLACES_6 : Nat} {sl_PART_PLACES_6 : Array (Option Value)}
    {u_PART_PLACES_6_0 u_PART_PLACES_6_1 : Tok}
    {ta_PART_PLACES_7 : Addr} {dd_PART_PLACES_7 : Option Addr} {n_PART_PLACES_7 : Nat} {sl_PART_PLACES_7 : Array (Option Value)}
    {u_PART_PLACES_7_0 u_PART_PLACES_7_1 : Tok}
    {ta_PART_PLACES_8 : Addr} {dd_PART_PLACES_8 : Option Addr} {n_PART_PLACES_8 : Nat} {sl_PART_PLACES_8 : Array (Option Value)}
    {u_PART_PLACES_8_0 u_PART_PLACES_8_1 : Tok}
    {ta_PART_PLACES_9 : Addr} {dd_PART_PLACES_9 : Option Addr} {n_PART_PLACES_9 : Nat} {sl_PART_PLACES_9 : Array (Option Value)}
    {u_PART_PLACES_9_0 u_PART_PLACES_9_1 : Tok}
    {ta_PART_PLACES_10 : Addr} {dd_PART_PLACES_10 : Option Addr} {n_PART_PLACES_10 : Nat} {sl_PART_PLACES_10 : Array (Option Value)}
    {u_PART_PLACES_10_0 u_PART_PLACES_10_1 : Tok}
    (a0 : PySem.W.nsIn K mainGlobals "parts_of" = some (some (.ref f0))) (l0 : K.lookup f0 = some ⟨oc0, od0, .func (PySem.W.fnOf "parts_of" "parts_of" (defArgs s3) (defBody s3) (defScope s3) .none kV0 dc0 pm0 an0 cd0 ct0), sl0⟩) (c0 : PySem.W.codeIn K cd0 "parts_of" = true) (k0 : PySem.W.keepIn K (.ref f0) = true)
    (a1 : PySem.W.nsIn K mainGlobals "with_parts" = some (some (.ref f1))) (l1 : K.lookup f1 = some ⟨oc1, od1, .func (PySem.W.fnOf "with_parts" "with_parts" (defArgs s4) (defBody s4) (defScope s4) .none kV1 dc1 pm1 an1 cd1 ct1), sl1⟩) (c1 : PySem.W.codeIn K cd1 "with_parts" = true) (k1 : PySem.W.keepIn K (.ref f1) = true)
    (a2 : PySem.W.nsIn K mainGlobals "reduced" = some (some (.ref f2))) (l2 : K.lookup f2 = some ⟨oc2, od2, .func (PySem.W.fnOf "reduced" "reduced" (defArgs s5) (defBody s5) (defScope s5) .none kV2 dc2 pm2 an2 cd2 ct2), sl2⟩) (c2 : PySem.W.codeIn K cd2 "reduced" = true) (k2 : PySem.W.keepIn K (.ref f2) = true)
    (a3 : PySem.W.nsIn K mainGlobals "rebuilt" = some (some (.ref f3))) (l3 : K.lookup f3 = some ⟨oc3, od3, .func (PySem.W.fnOf "rebuilt" "rebuilt" (defArgs s6) (defBody s6) (defScope s6) .none kV3 dc3 pm3 an3 (.ref cc3) ct3), sl3⟩) (c3 : PySem.W.codeIn K (.ref cc3) "rebuilt" = true) (k3 : PySem.W.keepIn K (.ref f3) = true)
    (lc3 : K.lookup cc3 = some ⟨.type "code", lod3, .fields lvs3, lsl3⟩) (lp3 : (lvs3[11]? : Option Value) = some (.ref pt3)) (lh3 : PySem.W.codeHdIn K cc3 pt3 = true) (ln3 : K.lookup pt3 = none) (lt3 : h.get? pt3 = some (PySem.W.tabObj #[]))
    (a4 : PySem.W.nsIn K mainGlobals "members" = some (some (.ref f4))) (l4 : K.lookup f4 = some ⟨oc4, od4, .func (PySem.W.fnOf "members" "members" (defArgs s7) (defBody s7) (defScope s7) .none kV4 dc4 pm4 an4 cd4 ct4), sl4⟩) (c4 : PySem.W.codeIn K cd4 "members" = true) (k4 : PySem.W.keepIn K (.ref f4) = true)
    (a5 : PySem.W.nsIn K mainGlobals "joined" = some (some (.ref f5))) (l5 : K.lookup f5 = some ⟨oc5, od5, .func (PySem.W.fnOf "joined" "joined" (defArgs s8) (defBody s8) (defScope s8) .none kV5 dc5 pm5 an5 cd5 ct5), sl5⟩) (c5 : PySem.W.codeIn K cd5 "joined" = true) (k5 : PySem.W.keepIn K (.ref f5) = true)
    (a6 : PySem.W.nsIn K mainGlobals "height" = some (some (.ref f6))) (l6 : K.lookup f6 = some ⟨oc6, od6, .func (PySem.W.fnOf "height" "height" (defArgs s9) (defBody s9) (defScope s9) .none kV6 dc6 pm6 an6 cd6 ct6), sl6⟩) (c6 : PySem.W.codeIn K cd6 "height" = true) (k6 : PySem.W.keepIn K (.ref f6) = true)
    (a7 : PySem.W.nsIn K mainGlobals "columns_in" = some (some (.ref f7))) (l7 : K.lookup f7 = some ⟨oc7, od7, .func (PySem.W.fnOf "columns_in" "columns_in" (defArgs s11) (defBody s11) (defScope s11) .none kV7 dc7 pm7 an7 cd7 ct7), sl7⟩) (c7 : PySem.W.codeIn K cd7 "columns_in" = true) (k7 : PySem.W.keepIn K (.ref f7) = true)
    (a8 : PySem.W.nsIn K mainGlobals "aggs_in" = some (some (.ref f8))) (l8 : K.lookup f8 = some ⟨oc8, od8, .func (PySem.W.fnOf "aggs_in" "aggs_in" (defArgs s12) (defBody s12) (defScope s12) .none kV8 dc8 pm8 an8 cd8 ct8), sl8⟩) (c8 : PySem.W.codeIn K cd8 "aggs_in" = true) (k8 : PySem.W.keepIn K (.ref f8) = true)
    (a9 : PySem.W.nsIn K mainGlobals "replaced" = some (some (.ref f9))) (l9 : K.lookup f9 = some ⟨oc9, od9, .func (PySem.W.fnOf "replaced" "replaced" (defArgs s13) (defBody s13) (defScope s13) .none kV9 dc9 pm9 an9 (.ref cc9) ct9), sl9⟩) (c9 : PySem.W.codeIn K (.ref cc9) "replaced" = true) (k9 : PySem.W.keepIn K (.ref f9) = true)
    (lc9 : K.lookup cc9 = some ⟨.type "code", lod9, .fields lvs9, lsl9⟩) (lp9 : (lvs9[11]? : Option Value) = some (.ref pt9)) (lh9 : PySem.W.codeHdIn K cc9 pt9 = true) (ln9 : K.lookup pt9 = none) (lt9 : h.get? pt9 = some (PySem.W.tabObj #[]))
    (ne3_9 : pt3 ≠ pt9)
    (a10 : PySem.W.nsIn K mainGlobals "leaf_replaced" = some (some (.ref f10))) (l10 : K.lookup f10 = some ⟨oc10, od10, .func (PySem.W.fnOf "leaf_replaced" "leaf_replaced" (defArgs s14) (defBody s14) (defScope s14) .none kV10 dc10 pm10 an10 cd10 ct10), sl10⟩) (c10 : PySem.W.codeIn K cd10 "leaf_replaced" = true) (k10 : PySem.W.keepIn K (.ref f10) = true)
    (a11 : PySem.W.nsIn K mainGlobals "leaves_of" = some (some (.ref f11))) (l11 : K.lookup f11 = some ⟨oc11, od11, .func (PySem.W.fnOf "leaves_of" "leaves_of" (defArgs s15) (defBody s15) (defScope s15) .none kV11 dc11 pm11 an11 cd11 ct11), sl11⟩) (c11 : PySem.W.codeIn K cd11 "leaves_of" = true) (k11 : PySem.W.keepIn K (.ref f11) = true)
    (a12 : PySem.W.nsIn K mainGlobals "columns_at" = some (some (.ref f12))) (l12 : K.lookup f12 = some ⟨oc12, od12, .func (PySem.W.fnOf "columns_at" "columns_at" (defArgs s16) (defBody s16) (defScope s16) .none kV12 dc12 pm12 an12 cd12 ct12), sl12⟩) (c12 : PySem.W.codeIn K cd12 "columns_at" = true) (k12 : PySem.W.keepIn K (.ref f12) = true)
    (a13 : PySem.W.nsIn K mainGlobals "is_column" = some (some (.ref f13))) (l13 : K.lookup f13 = some ⟨oc13, od13, .func (PySem.W.fnOf "is_column" "is_column" (defArgs s17) (defBody s17) (defScope s17) .none kV13 dc13 pm13 an13 cd13 ct13), sl13⟩) (c13 : PySem.W.codeIn K cd13 "is_column" = true) (k13 : PySem.W.keepIn K (.ref f13) = true)
    (a14 : PySem.W.nsIn K mainGlobals "_law_numbers" = some (some (.ref f14))) (l14 : K.lookup f14 = some ⟨oc14, od14, .func (PySem.W.fnOf "_law_numbers" "_law_numbers" (defArgs s19) (defBody s19) (defScope s19) .none kV14 dc14 pm14 an14 cd14 ct14), sl14⟩) (c14 : PySem.W.codeIn K cd14 "_law_numbers" = true) (k14 : PySem.W.keepIn K (.ref f14) = true)
    (a15 : PySem.W.nsIn K mainGlobals "_law_take" = some (some (.ref f15))) (l15 : K.lookup f15 = some ⟨oc15, od15, .func (PySem.W.fnOf "_law_take" "_law_take" (defArgs s20) (defBody s20) (defScope s20) .none kV15 dc15 pm15 an15 cd15 ct15), sl15⟩) (c15 : PySem.W.codeIn K cd15 "_law_take" = true) (k15 : PySem.W.keepIn K (.ref f15) = true)
    (a16 : PySem.W.nsIn K mainGlobals "_law_begun" = some (some (.ref f16))) (l16 : K.lookup f16 = some ⟨oc16, od16, .func (PySem.W.fnOf "_law_begun" "_law_begun" (defArgs s21) (defBody s21) (defScope s21) .none kV16 dc16 pm16 an16 cd16 ct16), sl16⟩) (c16 : PySem.W.codeIn K cd16 "_law_begun" = true) (k16 : PySem.W.keepIn K (.ref f16) = true)
    (a17 : PySem.W.nsIn K mainGlobals "_law_col" = some (some (.ref f17))) (l17 : K.lookup f17 = some ⟨oc17, od17, .func (PySem.W.fnOf "_law_col" "_law_col" (defArgs s22) (defBody s22) (defScope s22) .none kV17 dc17 pm17 an17 cd17 ct17), sl17⟩) (c17 : PySem.W.codeIn K cd17 "_law_col" = true) (k17 : PySem.W.keepIn K (.ref f17) = true)
    (a18 : PySem.W.nsIn K mainGlobals "_law_agg" = some (some (.ref f18))) (l18 : K.lookup f18 = some ⟨oc18, od18, .func (PySem.W.fnOf "_law_agg" "_law_agg" (defArgs s23) (defBody s23) (defScope s23) .none kV18 dc18 pm18 an18 cd18 ct18), sl18⟩) (c18 : PySem.W.codeIn K cd18 "_law_agg" = true) (k18 : PySem.W.keepIn K (.ref f18) = true)
    (a19 : PySem.W.nsIn K mainGlobals "_law_expr" = some (some (.ref f19))) (l19 : K.lookup f19 = some ⟨oc19, od19, .func (PySem.W.fnOf "_law_expr" "_law_expr" (defArgs s24) (defBody s24) (defScope s24) .none kV19 dc19 pm19 an19 cd19 ct19), sl19⟩) (c19 : PySem.W.codeIn K cd19 "_law_expr" = true) (k19 : PySem.W.keepIn K (.ref f19) = true)
    (a20 : PySem.W.nsIn K mainGlobals "_law_question" = some (some (.ref f20))) (l20 : K.lookup f20 = some ⟨oc20, od20, .func (PySem.W.fnOf "_law_question" "_law_question" (defArgs s25) (defBody s25) (defScope s25) .none kV20 dc20 pm20 an20 cd20 ct20), sl20⟩) (c20 : PySem.W.codeIn K cd20 "_law_question" = true) (k20 : PySem.W.keepIn K (.ref f20) = true)
    (a21 : PySem.W.nsIn K mainGlobals "_law_cond" = some (some (.ref f21))) (l21 : K.lookup f21 = some ⟨oc21, od21, .func (PySem.W.fnOf "_law_cond" "_law_cond" (defArgs s26) (defBody s26) (defScope s26) .none kV21 dc21 pm21 an21 cd21 ct21), sl21⟩) (c21 : PySem.W.codeIn K cd21 "_law_cond" = true) (k21 : PySem.W.keepIn K (.ref f21) = true)
    (a22 : PySem.W.nsIn K mainGlobals "_law_parts" = some (some (.ref f22))) (l22 : K.lookup f22 = some ⟨oc22, od22, .func (PySem.W.fnOf "_law_parts" "_law_parts" (defArgs s27) (defBody s27) (defScope s27) .none kV22 dc22 pm22 an22 cd22 ct22), sl22⟩) (c22 : PySem.W.codeIn K cd22 "_law_parts" = true) (k22 : PySem.W.keepIn K (.ref f22) = true)
    (a23 : PySem.W.nsIn K mainGlobals "_law_found" = some (some (.ref f23))) (l23 : K.lookup f23 = some ⟨oc23, od23, .func (PySem.W.fnOf "_law_found" "_law_found" (defArgs s28) (defBody s28) (defScope s28) .none kV23 dc23 pm23 an23 cd23 ct23), sl23⟩) (c23 : PySem.W.codeIn K cd23 "_law_found" = true) (k23 : PySem.W.keepIn K (.ref f23) = true)
    (a24 : PySem.W.nsIn K mainGlobals "_law_levels" = some (some (.ref f24))) (l24 : K.lookup f24 = some ⟨oc24, od24, .func (PySem.W.fnOf "_law_levels" "_law_levels" (defArgs s29) (defBody s29) (defScope s29) .none kV24 dc24 pm24 an24 cd24 ct24), sl24⟩) (c24 : PySem.W.codeIn K cd24 "_law_levels" = true) (k24 : PySem.W.keepIn K (.ref f24) = true)
    (a25 : PySem.W.nsIn K mainGlobals "_law_split" = some (some (.ref f25))) (l25 : K.lookup f25 = some ⟨oc25, od25, .func (PySem.W.fnOf "_law_split" "_law_split" (defArgs s30) (defBody s30) (defScope s30) .none kV25 dc25 pm25 an25 cd25 ct25), sl25⟩) (c25 : PySem.W.codeIn K cd25 "_law_split" = true) (k25 : PySem.W.keepIn K (.ref f25) = true)
    (a26 : PySem.W.nsIn K mainGlobals "_law_put" = some (some (.ref f26))) (l26 : K.lookup f26 = some ⟨oc26, od26, .func (PySem.W.fnOf "_law_put" "_law_put" (defArgs s31) (defBody s31) (defScope s31) .none kV26 dc26 pm26 an26 cd26 ct26), sl26⟩) (c26 : PySem.W.codeIn K cd26 "_law_put" = true) (k26 : PySem.W.keepIn K (.ref f26) = true)
    (a27 : PySem.W.nsIn K mainGlobals "_law_table" = some (some (.ref f27))) (l27 : K.lookup f27 = some ⟨oc27, od27, .func (PySem.W.fnOf "_law_table" "_law_table" (defArgs s32) (defBody s32) (defScope s32) .none kV27 dc27 pm27 an27 cd27 ct27), sl27⟩) (c27 : PySem.W.codeIn K cd27 "_law_table" = true) (k27 : PySem.W.keepIn K (.ref f27) = true)
    (a28 : PySem.W.nsIn K mainGlobals "_law_same" = some (some (.ref f28))) (l28 : K.lookup f28 = some ⟨oc28, od28, .func (PySem.W.fnOf "_law_same" "_law_same" (defArgs s33) (defBody s33) (defScope s33) .none kV28 dc28 pm28 an28 cd28 ct28), sl28⟩) (c28 : PySem.W.codeIn K cd28 "_law_same" = true) (k28 : PySem.W.keepIn K (.ref f28) = true)
    (a29 : PySem.W.nsIn K mainGlobals "_law_is_right" = some (some (.ref f29))) (l29 : K.lookup f29 = some ⟨oc29, od29, .func (PySem.W.fnOf "_law_is_right" "_law_is_right" (defArgs s34) (defBody s34) (defScope s34) .none kV29 dc29 pm29 an29 cd29 ct29), sl29⟩) (c29 : PySem.W.codeIn K cd29 "_law_is_right" = true) (k29 : PySem.W.keepIn K (.ref f29) = true)
    (a30 : PySem.W.nsIn K mainGlobals "_law_conds_right" = some (some (.ref f30))) (l30 : K.lookup f30 = some ⟨oc30, od30, .func (PySem.W.fnOf "_law_conds_right" "_law_conds_right" (defArgs s35) (defBody s35) (defScope s35) .none kV30 dc30 pm30 an30 cd30 ct30), sl30⟩) (c30 : PySem.W.codeIn K cd30 "_law_conds_right" = true) (k30 : PySem.W.keepIn K (.ref f30) = true)
    (a31 : PySem.W.nsIn K mainGlobals "law" = some (some (.ref f31))) (l31 : K.lookup f31 = some ⟨oc31, od31, .func (PySem.W.fnOf "law" "law" (defArgs s36) (defBody s36) (defScope s36) .none kV31 dc31 pm31 an31 cd31 ct31), sl31⟩) (c31 : PySem.W.codeIn K cd31 "law" = true) (k31 : PySem.W.keepIn K (.ref f31) = true)
    (z_abs : PySem.W.nsIn K mainGlobals "abs" = some none)
    (z_all : PySem.W.nsIn K mainGlobals "all" = some none)
    (z_bool : PySem.W.nsIn K mainGlobals "bool" = some none)
    (z_dict : PySem.W.nsIn K mainGlobals "dict" = some none)
    (z_int : PySem.W.nsIn K mainGlobals "int" = some none)
    (z_isinstance : PySem.W.nsIn K mainGlobals "isinstance" = some none)
    (z_len : PySem.W.nsIn K mainGlobals "len" = some none)
    (z_list : PySem.W.nsIn K mainGlobals "list" = some none)
    (z_max : PySem.W.nsIn K mainGlobals "max" = some none)
    (z_min : PySem.W.nsIn K mainGlobals "min" = some none)
    (z_range : PySem.W.nsIn K mainGlobals "range" = some none)
    (z_reversed : PySem.W.nsIn K mainGlobals "reversed" = some none)
    (z_str : PySem.W.nsIn K mainGlobals "str" = some none)
    (z_tuple : PySem.W.nsIn K mainGlobals "tuple" = some none)
    (dg_NO_PLACES : PySem.W.nsIn K mainGlobals "NO_PLACES" = some (some (.ref ta_NO_PLACES)))
    (tl_NO_PLACES : K.lookup ta_NO_PLACES = some ⟨.type "tuple", dd_NO_PLACES, .seq #[.int 1 u_NO_PLACES_0, .int 1 u_NO_PLACES_1] n_NO_PLACES, sl_NO_PLACES⟩)
    (dg_PART_PLACES : PySem.W.nsIn K mainGlobals "PART_PLACES" = some (some (.ref da_PART_PLACES)))
    (dl_PART_PLACES : K.lookup da_PART_PLACES = some ⟨.type "dict", none, .dict es_PART_PLACES dn_PART_PLACES, #[]⟩)
    (dk_PART_PLACES : PySem.W.KeysLit w.params es_PART_PLACES.toList)
    (dw_PART_PLACES : (da_PART_PLACES == sysModules) = false)
    (e_PART_PLACES_0 : PySem.W.nsIn K da_PART_PLACES "add" = some (some (.ref ta_PART_PLACES_0)))
    (tl_PART_PLACES_0 : K.lookup ta_PART_PLACES_0 = some ⟨.type "tuple", dd_PART_PLACES_0, .seq #[.int 1 u_PART_PLACES_0_0, .int 3 u_PART_PLACES_0_1] n_PART_PLACES_0, sl_PART_PLACES_0⟩)
    (e_PART_PLACES_1 : PySem.W.nsIn K da_PART_PLACES "sub" = some (some (.ref ta_PART_PLACES_1)))
    (tl_PART_PLACES_1 : K.lookup ta_PART_PLACES_1 = some ⟨.type "tuple", dd_PART_PLACES_1, .seq #[.int 1 u_PART_PLACES_1_0, .int 3 u_PART_PLACES_1_1] n_PART_PLACES_1, sl_PART_PLACES_1⟩)
    (e_PART_PLACES_2 : PySem.W.nsIn K da_PART_PLACES "mul" = some (some (.ref ta_PART_PLACES_2)))
    (tl_PART_PLACES_2 : K.lookup ta_PART_PLACES_2 = some ⟨.type "tuple", dd_PART_PLACES_2, .seq #[.int 1 u_PART_PLACES_2_0, .int 3 u_PART_PLACES_2_1] n_PART_PLACES_2, sl_PART_PLACES_2⟩)
    (e_PART_PLACES_3 : PySem.W.nsIn K da_PART_PLACES "neg" = some (some (.ref ta_PART_PLACES_3)))
    (tl_PART_PLACES_3 : K.lookup ta_PART_PLACES_3 = some ⟨.type "tuple", dd_PART_PLACES_3, .seq #[.int 1 u_PART_PLACES_3_0, .int 2 u_PART_PLACES_3_1] n_PART_PLACES_3, sl_PART_PLACES_3⟩)
    (e_PART_PLACES_4 : PySem.W.nsIn K da_PART_PLACES "cmp" = some (some (.ref ta_PART_PLACES_4)))
    (tl_PART_PLACES_4 : K.lookup ta_PART_PLACES_4 = some ⟨.type "tuple", dd_PART_PLACES_4, .seq #[.int 2 u_PART_PLACES_4_0, .int 4 u_PART_PLACES_4_1] n_PART_PLACES_4, sl_PART_PLACES_4⟩)
    (e_PART_PLACES_5 : PySem.W.nsIn K da_PART_PLACES "null" = some (some (.ref ta_PART_PLACES_5)))
    (tl_PART_PLACES_5 : K.lookup ta_PART_PLACES_5 = some ⟨.type "tuple", dd_PART_PLACES_5, .seq #[.int 1 u_PART_PLACES_5_0, .int 2 u_PART_PLACES_5_1] n_PART_PLACES_5, sl_PART_PLACES_5⟩)
    (e_PART_PLACES_6 : PySem.W.nsIn K da_PART_PLACES "in" = some (some (.ref ta_PART_PLACES_6)))
    (tl_PART_PLACES_6 : K.lookup ta_PART_PLACES_6 = some ⟨.type "tuple", dd_PART_PLACES_6, .seq #[.int 1 u_PART_PLACES_6_0, .int 2 u_PART_PLACES_6_1] n_PART_PLACES_6, sl_PART_PLACES_6⟩)
    (e_PART_PLACES_7 : PySem.W.nsIn K da_PART_PLACES "not" = some (some (.ref ta_PART_PLACES_7)))
    (tl_PART_PLACES_7 : K.lookup ta_PART_PLACES_7 = some ⟨.type "tuple", dd_PART_PLACES_7, .seq #[.int 1 u_PART_PLACES_7_0, .int 2 u_PART_PLACES_7_1] n_PART_PLACES_7, sl_PART_PLACES_7⟩)
    (e_PART_PLACES_8 : PySem.W.nsIn K da_PART_PLACES "maybe" = some (some (.ref ta_PART_PLACES_8)))
    (tl_PART_PLACES_8 : K.lookup ta_PART_PLACES_8 = some ⟨.type "tuple", dd_PART_PLACES_8, .seq #[.int 1 u_PART_PLACES_8_0, .int 2 u_PART_PLACES_8_1] n_PART_PLACES_8, sl_PART_PLACES_8⟩)
    (e_PART_PLACES_9 : PySem.W.nsIn K da_PART_PLACES "and" = some (some (.ref ta_PART_PLACES_9)))
    (tl_PART_PLACES_9 : K.lookup ta_PART_PLACES_9 = some ⟨.type "tuple", dd_PART_PLACES_9, .seq #[.int 1 u_PART_PLACES_9_0, .int 3 u_PART_PLACES_9_1] n_PART_PLACES_9, sl_PART_PLACES_9⟩)
    (e_PART_PLACES_10 : PySem.W.nsIn K da_PART_PLACES "or" = some (some (.ref ta_PART_PLACES_10)))
    (tl_PART_PLACES_10 : K.lookup ta_PART_PLACES_10 = some ⟨.type "tuple", dd_PART_PLACES_10, .seq #[.int 1 u_PART_PLACES_10_0, .int 3 u_PART_PLACES_10_1] n_PART_PLACES_10, sl_PART_PLACES_10⟩)
    (m_PART_PLACES_0 : PySem.W.nsIn K da_PART_PLACES "num" = some none)
    (m_PART_PLACES_1 : PySem.W.nsIn K da_PART_PLACES "text" = some none)
    (m_PART_PLACES_2 : PySem.W.nsIn K da_PART_PLACES "col" = some none)
    (m_PART_PLACES_3 : PySem.W.nsIn K da_PART_PLACES "agg" = some none)
    (m_PART_PLACES_4 : PySem.W.nsIn K da_PART_PLACES "exists" = some none) :
    ∃ T : Txt K w g, ∀ p ∈ T.cs, h.get? p.2 = some (PySem.W.tabObj #[]) ∧ K.lookup p.2 = none ∧ PySem.W.CodeHd h p.1 p.2 := by
  have F0 := fun_mk (st := s3) l0 c0 k0
  have b0 := F0.binds (ps := par .parts_of) fun _ _ _ _ _ _ us hl => match us, hl with | [_], _ => rfl
  have F1 := fun_mk (st := s4) l1 c1 k1
  have b1 := F1.binds (ps := par .with_parts) fun _ _ _ _ _ _ us hl => match us, hl with | [_, _], _ => rfl
  have F2 := fun_mk (st := s5) l2 c2 k2
  have b2 := F2.binds (ps := par .reduced) fun _ _ _ _ _ _ us hl => match us, hl with | [_, _], _ => rfl
  have F3 := fun_mk (st := s6) l3 c3 k3
  have b3 := F3.binds (ps := par .rebuilt) fun _ _ _ _ _ _ us hl => match us, hl with | [_, _], _ => rfl
  have F4 := fun_mk (st := s7) l4 c4 k4
  have b4 := F4.binds (ps := par .members) fun _ _ _ _ _ _ us hl => match us, hl with | [_], _ => rfl
  have F5 := fun_mk (st := s8) l5 c5 k5
  have b5 := F5.binds (ps := par .joined) fun _ _ _ _ _ _ us hl => match us, hl with | [_], _ => rfl
  have F6 := fun_mk (st := s9) l6 c6 k6
  have b6 := F6.binds (ps := par .height) fun _ _ _ _ _ _ us hl => match us, hl with | [_], _ => rfl
  have F7 := fun_mk (st := s11) l7 c7 k7
  have b7 := F7.binds (ps := par .columns_in) fun _ _ _ _ _ _ us hl => match us, hl with | [_], _ => rfl
  have F8 := fun_mk (st := s12) l8 c8 k8
  have b8 := F8.binds (ps := par .aggs_in) fun _ _ _ _ _ _ us hl => match us, hl with | [_], _ => rfl
  have F9 := fun_mk (st := s13) l9 c9 k9
  have b9 := F9.binds (ps := par .replaced) fun _ _ _ _ _ _ us hl => match us, hl with | [_, _], _ => rfl
  have F10 := fun_mk (st := s14) l10 c10 k10
  have b10 := F10.binds (ps := par .leaf_replaced) fun _ _ _ _ _ _ us hl => match us, hl with | [_, _], _ => rfl
  have F11 := fun_mk (st := s15) l11 c11 k11
  have b11 := F11.binds (ps := par .leaves_of) fun _ _ _ _ _ _ us hl => match us, hl with | [_], _ => rfl
  have F12 := fun_mk (st := s16) l12 c12 k12
  have b12 := F12.binds (ps := par .columns_at) fun _ _ _ _ _ _ us hl => match us, hl with | [_], _ => rfl
  have F13 := fun_mk (st := s17) l13 c13 k13
  have b13 := F13.binds (ps := par .is_column) fun _ _ _ _ _ _ us hl => match us, hl with | [_], _ => rfl
  have F14 := fun_mk (st := s19) l14 c14 k14
  have b14 := F14.binds (ps := par ._law_numbers) fun _ _ _ _ _ _ us hl => match us, hl with | [_], _ => rfl
  have F15 := fun_mk (st := s20) l15 c15 k15
  have b15 := F15.binds (ps := par ._law_take) fun _ _ _ _ _ _ us hl => match us, hl with | [_, _], _ => rfl
  have F16 := fun_mk (st := s21) l16 c16 k16
  have b16 := F16.binds (ps := par ._law_begun) fun _ _ _ _ _ _ us hl => match us, hl with | [_, _, _], _ => rfl
  have F17 := fun_mk (st := s22) l17 c17 k17
  have b17 := F17.binds (ps := par ._law_col) fun _ _ _ _ _ _ us hl => match us, hl with | [_], _ => rfl
  have F18 := fun_mk (st := s23) l18 c18 k18
  have b18 := F18.binds (ps := par ._law_agg) fun _ _ _ _ _ _ us hl => match us, hl with | [_], _ => rfl
  have F19 := fun_mk (st := s24) l19 c19 k19
  have b19 := F19.binds (ps := par ._law_expr) fun _ _ _ _ _ _ us hl => match us, hl with | [_, _], _ => rfl
  have F20 := fun_mk (st := s25) l20 c20 k20
  have b20 := F20.binds (ps := par ._law_question) fun _ _ _ _ _ _ us hl => match us, hl with | [_], _ => rfl
  have F21 := fun_mk (st := s26) l21 c21 k21
  have b21 := F21.binds (ps := par ._law_cond) fun _ _ _ _ _ _ us hl => match us, hl with | [_, _], _ => rfl
  have F22 := fun_mk (st := s27) l22 c22 k22
  have b22 := F22.binds (ps := par ._law_parts) fun _ _ _ _ _ _ us hl => match us, hl with | [_], _ => rfl
  have F23 := fun_mk (st := s28) l23 c23 k23
  have b23 := F23.binds (ps := par ._law_found) fun _ _ _ _ _ _ us hl => match us, hl with | [_, _], _ => rfl
  have F24 := fun_mk (st := s29) l24 c24 k24
  have b24 := F24.binds (ps := par ._law_levels) fun _ _ _ _ _ _ us hl => match us, hl with | [_], _ => rfl
  have F25 := fun_mk (st := s30) l25 c25 k25
  have b25 := F25.binds (ps := par ._law_split) fun _ _ _ _ _ _ us hl => match us, hl with | [_], _ => rfl
  have F26 := fun_mk (st := s31) l26 c26 k26
  have b26 := F26.binds (ps := par ._law_put) fun _ _ _ _ _ _ us hl => match us, hl with | [_, _], _ => rfl
  have F27 := fun_mk (st := s32) l27 c27 k27
  have b27 := F27.binds (ps := par ._law_table) fun _ _ _ _ _ _ us hl => match us, hl with | [_, _], _ => rfl
  have F28 := fun_mk (st := s33) l28 c28 k28
  have b28 := F28.binds (ps := par ._law_same) fun _ _ _ _ _ _ us hl => match us, hl with | [_, _], _ => rfl
  have F29 := fun_mk (st := s34) l29 c29 k29
  have b29 := F29.binds (ps := par ._law_is_right) fun _ _ _ _ _ _ us hl => match us, hl with | [_, _], _ => rfl
  have F30 := fun_mk (st := s35) l30 c30 k30
  have b30 := F30.binds (ps := par ._law_conds_right) fun _ _ _ _ _ _ us hl => match us, hl with | [_, _], _ => rfl
  have F31 := fun_mk (st := s36) l31 c31 k31
  have b31 := F31.binds (ps := par .law) fun _ _ _ _ _ _ us hl => match us, hl with | [_], _ => rfl
  refine ⟨{
    ad := (fun f => match f with
      | .parts_of => f0
      | .with_parts => f1
      | .reduced => f2
      | .rebuilt => f3
      | .members => f4
      | .joined => f5
      | .height => f6
      | .columns_in => f7
      | .aggs_in => f8
      | .replaced => f9
      | .leaf_replaced => f10
      | .leaves_of => f11
      | .columns_at => f12
      | .is_column => f13
      | ._law_numbers => f14
      | ._law_take => f15
      | ._law_begun => f16
      | ._law_col => f17
      | ._law_agg => f18
      | ._law_expr => f19
      | ._law_question => f20
      | ._law_cond => f21
      | ._law_parts => f22
      | ._law_found => f23
      | ._law_levels => f24
      | ._law_split => f25
      | ._law_put => f26
      | ._law_table => f27
      | ._law_same => f28
      | ._law_is_right => f29
      | ._law_conds_right => f30
      | .law => f31
      | .rebuilt__step => 0
      | .replaced__change => 0)
    fd := (fun f => match f with
      | .parts_of => _
      | .with_parts => _
      | .reduced => _
      | .rebuilt => _
      | .members => _
      | .joined => _
      | .height => _
      | .columns_in => _
      | .aggs_in => _
      | .replaced => _
      | .leaf_replaced => _
      | .leaves_of => _
      | .columns_at => _
      | .is_column => _
      | ._law_numbers => _
      | ._law_take => _
      | ._law_begun => _
      | ._law_col => _
      | ._law_agg => _
      | ._law_expr => _
      | ._law_question => _
      | ._law_cond => _
      | ._law_parts => _
      | ._law_found => _
      | ._law_levels => _
      | ._law_split => _
      | ._law_put => _
      | ._law_table => _
      | ._law_same => _
      | ._law_is_right => _
      | ._law_conds_right => _
      | .law => _
      | .rebuilt__step => PySem.W.fnOf "x" "x" (defArgs s3) (defBody s3) (defScope s3) .none .none .none .none none .none .none
      | .replaced__change => PySem.W.fnOf "x" "x" (defArgs s3) (defBody s3) (defScope s3) .none .none .none .none none .none .none)
    fn := (fun f hf => match f, hf with
      | .parts_of, _ => F0
      | .with_parts, _ => F1
      | .reduced, _ => F2
      | .rebuilt, _ => F3
      | .members, _ => F4
      | .joined, _ => F5
      | .height, _ => F6
      | .columns_in, _ => F7
      | .aggs_in, _ => F8
      | .replaced, _ => F9
      | .leaf_replaced, _ => F10
      | .leaves_of, _ => F11
      | .columns_at, _ => F12
      | .is_column, _ => F13
      | ._law_numbers, _ => F14
      | ._law_take, _ => F15
      | ._law_begun, _ => F16
      | ._law_col, _ => F17
      | ._law_agg, _ => F18
      | ._law_expr, _ => F19
      | ._law_question, _ => F20
      | ._law_cond, _ => F21
      | ._law_parts, _ => F22
      | ._law_found, _ => F23
      | ._law_levels, _ => F24
      | ._law_split, _ => F25
      | ._law_put, _ => F26
      | ._law_table, _ => F27
      | ._law_same, _ => F28
      | ._law_is_right, _ => F29
      | ._law_conds_right, _ => F30
      | .law, _ => F31
      | .rebuilt__step, h => by cases h
      | .replaced__change, h => by cases h)
    mg := (fun f hf => match f, hf with
      | .parts_of, _ => PySem.W.mg_of X G a0
      | .with_parts, _ => PySem.W.mg_of X G a1
      | .reduced, _ => PySem.W.mg_of X G a2
      | .rebuilt, _ => PySem.W.mg_of X G a3
      | .members, _ => PySem.W.mg_of X G a4
      | .joined, _ => PySem.W.mg_of X G a5
      | .height, _ => PySem.W.mg_of X G a6
      | .columns_in, _ => PySem.W.mg_of X G a7
      | .aggs_in, _ => PySem.W.mg_of X G a8
      | .replaced, _ => PySem.W.mg_of X G a9
      | .leaf_replaced, _ => PySem.W.mg_of X G a10
      | .leaves_of, _ => PySem.W.mg_of X G a11
      | .columns_at, _ => PySem.W.mg_of X G a12
      | .is_column, _ => PySem.W.mg_of X G a13
      | ._law_numbers, _ => PySem.W.mg_of X G a14
      | ._law_take, _ => PySem.W.mg_of X G a15
      | ._law_begun, _ => PySem.W.mg_of X G a16
      | ._law_col, _ => PySem.W.mg_of X G a17
      | ._law_agg, _ => PySem.W.mg_of X G a18
      | ._law_expr, _ => PySem.W.mg_of X G a19
      | ._law_question, _ => PySem.W.mg_of X G a20
      | ._law_cond, _ => PySem.W.mg_of X G a21
      | ._law_parts, _ => PySem.W.mg_of X G a22
      | ._law_found, _ => PySem.W.mg_of X G a23
      | ._law_levels, _ => PySem.W.mg_of X G a24
      | ._law_split, _ => PySem.W.mg_of X G a25
      | ._law_put, _ => PySem.W.mg_of X G a26
      | ._law_table, _ => PySem.W.mg_of X G a27
      | ._law_same, _ => PySem.W.mg_of X G a28
      | ._law_is_right, _ => PySem.W.mg_of X G a29
      | ._law_conds_right, _ => PySem.W.mg_of X G a30
      | .law, _ => PySem.W.mg_of X G a31
      | .rebuilt__step, h => by cases h
      | .replaced__change, h => by cases h)
    ns := (fun f hf => match f, hf with
      | .parts_of, _ => a0
      | .with_parts, _ => a1
      | .reduced, _ => a2
      | .rebuilt, _ => a3
      | .members, _ => a4
      | .joined, _ => a5
      | .height, _ => a6
      | .columns_in, _ => a7
      | .aggs_in, _ => a8
      | .replaced, _ => a9
      | .leaf_replaced, _ => a10
      | .leaves_of, _ => a11
      | .columns_at, _ => a12
      | .is_column, _ => a13
      | ._law_numbers, _ => a14
      | ._law_take, _ => a15
      | ._law_begun, _ => a16
      | ._law_col, _ => a17
      | ._law_agg, _ => a18
      | ._law_expr, _ => a19
      | ._law_question, _ => a20
      | ._law_cond, _ => a21
      | ._law_parts, _ => a22
      | ._law_found, _ => a23
      | ._law_levels, _ => a24
      | ._law_split, _ => a25
      | ._law_put, _ => a26
      | ._law_table, _ => a27
      | ._law_same, _ => a28
      | ._law_is_right, _ => a29
      | ._law_conds_right, _ => a30
      | .law, _ => a31
      | .rebuilt__step, h => by cases h
      | .replaced__change, h => by cases h)
    bd := (fun f hf => match f, hf with
      | .parts_of, _ => b0
      | .with_parts, _ => b1
      | .reduced, _ => b2
      | .rebuilt, _ => b3
      | .members, _ => b4
      | .joined, _ => b5
      | .height, _ => b6
      | .columns_in, _ => b7
      | .aggs_in, _ => b8
      | .replaced, _ => b9
      | .leaf_replaced, _ => b10
      | .leaves_of, _ => b11
      | .columns_at, _ => b12
      | .is_column, _ => b13
      | ._law_numbers, _ => b14
      | ._law_take, _ => b15
      | ._law_begun, _ => b16
      | ._law_col, _ => b17
      | ._law_agg, _ => b18
      | ._law_expr, _ => b19
      | ._law_question, _ => b20
      | ._law_cond, _ => b21
      | ._law_parts, _ => b22
      | ._law_found, _ => b23
      | ._law_levels, _ => b24
      | ._law_split, _ => b25
      | ._law_put, _ => b26
      | ._law_table, _ => b27
      | ._law_same, _ => b28
      | ._law_is_right, _ => b29
      | ._law_conds_right, _ => b30
      | .law, _ => b31
      | .rebuilt__step, h => by cases h
      | .replaced__change, h => by cases h)
    lawB := fun s u => .of_eq rfl
    c_rebuilt := cc3
    P_rebuilt := pt3
    fc_rebuilt := ⟨_, _, _, _, _, _, _, _, rfl, l3, c3⟩
    u_rebuilt := by
      intro p hp e
      simp only [List.mem_cons, List.not_mem_nil, or_false] at hp
      rcases hp with rfl | rfl
      · rfl
      · exact (ne3_9 e.symm).elim
    c_replaced := cc9
    P_replaced := pt9
    fc_replaced := ⟨_, _, _, _, _, _, _, _, rfl, l9, c9⟩
    u_replaced := by
      intro p hp e
      simp only [List.mem_cons, List.not_mem_nil, or_false] at hp
      rcases hp with rfl | rfl
      · exact (ne3_9 e).elim
      · rfl
    z_abs := PySem.W.mg_none_of X G z_abs
    z_all := PySem.W.mg_none_of X G z_all
    z_bool := PySem.W.mg_none_of X G z_bool
    z_dict := PySem.W.mg_none_of X G z_dict
    z_int := PySem.W.mg_none_of X G z_int
    z_isinstance := PySem.W.mg_none_of X G z_isinstance
    z_len := PySem.W.mg_none_of X G z_len
    z_list := PySem.W.mg_none_of X G z_list
    z_max := PySem.W.mg_none_of X G z_max
    z_min := PySem.W.mg_none_of X G z_min
    z_range := PySem.W.mg_none_of X G z_range
    z_reversed := PySem.W.mg_none_of X G z_reversed
    z_str := PySem.W.mg_none_of X G z_str
    z_tuple := PySem.W.mg_none_of X G z_tuple
    kb_aggs_in_0_thing := fun us ws h1 h2 => match us, ws, h1, h2 with | [], [_], _, _ => rfl
    kb_columns_in_0_thing := fun us ws h1 h2 => match us, ws, h1, h2 with | [], [_], _, _ => rfl
    kb_height_0_thing := fun us ws h1 h2 => match us, ws, h1, h2 with | [], [_], _, _ => rfl
    kb_joined_0_conds := fun us ws h1 h2 => match us, ws, h1, h2 with | [], [_], _, _ => rfl
    kb_members_0_cond := fun us ws h1 h2 => match us, ws, h1, h2 with | [], [_], _, _ => rfl
    kb_replaced_0_table_thing := fun us ws h1 h2 => match us, ws, h1, h2 with | [], [_, _], _, _ => rfl
    c_NO_PLACESa := ta_NO_PLACES
    c_NO_PLACESg := PySem.W.mg_of X G dg_NO_PLACES
    c_NO_PLACESr := (fun P b t H m => rp_lit (P := P) (w := w) (vs := [.int 1, .int 1]) tl_NO_PLACES rfl (by show 2 ≤ sizeLine; decide) (.cons ⟨_, rfl⟩ (.cons ⟨_, rfl⟩ .nil)) (fun _ _ _ _ _ => (Rps.cons (by rw [Rp]) (Rps.cons (by rw [Rp]) Rps.nil))) P b t H m)
    c_PART_PLACESa := da_PART_PLACES
    c_PART_PLACESg := PySem.W.mg_of X G dg_PART_PLACES
    c_PART_PLACESd := ⟨⟨_, _, dl_PART_PLACES, dk_PART_PLACES⟩, dw_PART_PLACES, by
      unfold c_PART_PLACES
      simp only [List.mem_cons, Prod.mk.injEq, List.not_mem_nil, or_false]
      rintro z r (⟨rfl, rfl⟩ | ⟨rfl, rfl⟩ | ⟨rfl, rfl⟩ | ⟨rfl, rfl⟩ | ⟨rfl, rfl⟩ | ⟨rfl, rfl⟩ | ⟨rfl, rfl⟩ | ⟨rfl, rfl⟩ | ⟨rfl, rfl⟩ | ⟨rfl, rfl⟩ | ⟨rfl, rfl⟩ | ⟨rfl, rfl⟩ | ⟨rfl, rfl⟩ | ⟨rfl, rfl⟩ | ⟨rfl, rfl⟩ | ⟨rfl, rfl⟩)
      · exact ⟨_, .ref ta_PART_PLACES_0, e_PART_PLACES_0, rfl, (fun P b t H m => rp_lit (P := P) (w := w) (vs := [.int 1, .int 3]) tl_PART_PLACES_0 rfl (by show 2 ≤ sizeLine; decide) (.cons ⟨_, rfl⟩ (.cons ⟨_, rfl⟩ .nil)) (fun _ _ _ _ _ => (Rps.cons (by rw [Rp]) (Rps.cons (by rw [Rp]) Rps.nil))) P b t H m)⟩
      · exact ⟨_, .ref ta_PART_PLACES_1, e_PART_PLACES_1, rfl, (fun P b t H m => rp_lit (P := P) (w := w) (vs := [.int 1, .int 3]) tl_PART_PLACES_1 rfl (by show 2 ≤ sizeLine; decide) (.cons ⟨_, rfl⟩ (.cons ⟨_, rfl⟩ .nil)) (fun _ _ _ _ _ => (Rps.cons (by rw [Rp]) (Rps.cons (by rw [Rp]) Rps.nil))) P b t H m)⟩
      · exact ⟨_, .ref ta_PART_PLACES_2, e_PART_PLACES_2, rfl, (fun P b t H m => rp_lit (P := P) (w := w) (vs := [.int 1, .int 3]) tl_PART_PLACES_2 rfl (by show 2 ≤ sizeLine; decide) (.cons ⟨_, rfl⟩ (.cons ⟨_, rfl⟩ .nil)) (fun _ _ _ _ _ => (Rps.cons (by rw [Rp]) (Rps.cons (by rw [Rp]) Rps.nil))) P b t H m)⟩
      · exact ⟨_, .ref ta_PART_PLACES_3, e_PART_PLACES_3, rfl, (fun P b t H m => rp_lit (P := P) (w := w) (vs := [.int 1, .int 2]) tl_PART_PLACES_3 rfl (by show 2 ≤ sizeLine; decide) (.cons ⟨_, rfl⟩ (.cons ⟨_, rfl⟩ .nil)) (fun _ _ _ _ _ => (Rps.cons (by rw [Rp]) (Rps.cons (by rw [Rp]) Rps.nil))) P b t H m)⟩
      · exact ⟨_, .ref ta_PART_PLACES_4, e_PART_PLACES_4, rfl, (fun P b t H m => rp_lit (P := P) (w := w) (vs := [.int 2, .int 4]) tl_PART_PLACES_4 rfl (by show 2 ≤ sizeLine; decide) (.cons ⟨_, rfl⟩ (.cons ⟨_, rfl⟩ .nil)) (fun _ _ _ _ _ => (Rps.cons (by rw [Rp]) (Rps.cons (by rw [Rp]) Rps.nil))) P b t H m)⟩
      · exact ⟨_, .ref ta_PART_PLACES_5, e_PART_PLACES_5, rfl, (fun P b t H m => rp_lit (P := P) (w := w) (vs := [.int 1, .int 2]) tl_PART_PLACES_5 rfl (by show 2 ≤ sizeLine; decide) (.cons ⟨_, rfl⟩ (.cons ⟨_, rfl⟩ .nil)) (fun _ _ _ _ _ => (Rps.cons (by rw [Rp]) (Rps.cons (by rw [Rp]) Rps.nil))) P b t H m)⟩
      · exact ⟨_, .ref ta_PART_PLACES_6, e_PART_PLACES_6, rfl, (fun P b t H m => rp_lit (P := P) (w := w) (vs := [.int 1, .int 2]) tl_PART_PLACES_6 rfl (by show 2 ≤ sizeLine; decide) (.cons ⟨_, rfl⟩ (.cons ⟨_, rfl⟩ .nil)) (fun _ _ _ _ _ => (Rps.cons (by rw [Rp]) (Rps.cons (by rw [Rp]) Rps.nil))) P b t H m)⟩
      · exact ⟨_, .ref ta_PART_PLACES_7, e_PART_PLACES_7, rfl, (fun P b t H m => rp_lit (P := P) (w := w) (vs := [.int 1, .int 2]) tl_PART_PLACES_7 rfl (by show 2 ≤ sizeLine; decide) (.cons ⟨_, rfl⟩ (.cons ⟨_, rfl⟩ .nil)) (fun _ _ _ _ _ => (Rps.cons (by rw [Rp]) (Rps.cons (by rw [Rp]) Rps.nil))) P b t H m)⟩
      · exact ⟨_, .ref ta_PART_PLACES_8, e_PART_PLACES_8, rfl, (fun P b t H m => rp_lit (P := P) (w := w) (vs := [.int 1, .int 2]) tl_PART_PLACES_8 rfl (by show 2 ≤ sizeLine; decide) (.cons ⟨_, rfl⟩ (.cons ⟨_, rfl⟩ .nil)) (fun _ _ _ _ _ => (Rps.cons (by rw [Rp]) (Rps.cons (by rw [Rp]) Rps.nil))) P b t H m)⟩
      · exact ⟨_, .ref ta_PART_PLACES_9, e_PART_PLACES_9, rfl, (fun P b t H m => rp_lit (P := P) (w := w) (vs := [.int 1, .int 3]) tl_PART_PLACES_9 rfl (by show 2 ≤ sizeLine; decide) (.cons ⟨_, rfl⟩ (.cons ⟨_, rfl⟩ .nil)) (fun _ _ _ _ _ => (Rps.cons (by rw [Rp]) (Rps.cons (by rw [Rp]) Rps.nil))) P b t H m)⟩
      · exact ⟨_, .ref ta_PART_PLACES_10, e_PART_PLACES_10, rfl, (fun P b t H m => rp_lit (P := P) (w := w) (vs := [.int 1, .int 3]) tl_PART_PLACES_10 rfl (by show 2 ≤ sizeLine; decide) (.cons ⟨_, rfl⟩ (.cons ⟨_, rfl⟩ .nil)) (fun _ _ _ _ _ => (Rps.cons (by rw [Rp]) (Rps.cons (by rw [Rp]) Rps.nil))) P b t H m)⟩
      · exact m_PART_PLACES_0
      · exact m_PART_PLACES_1
      · exact m_PART_PLACES_2
      · exact m_PART_PLACES_3
      · exact m_PART_PLACES_4⟩
  }, (List.forall_mem_cons.mpr ⟨⟨lt3, ln3, PySem.W.codeHd_of_K X lh3⟩, (List.forall_mem_cons.mpr ⟨⟨lt9, ln9, PySem.W.codeHd_of_K X lh9⟩, (fun _ h => nomatch h)⟩)⟩)⟩
end Gn
namespace Gn
open PySem L2 Ml
theorem memA {α : Type} {x : α} {a b : List α} (h : x ∈ a ++ b) : x ∈ a ∨ x ∈ b := by simpa using h
theorem memC {α : Type} {x y : α} {b : List α} (h : x ∈ y :: b) : x = y ∨ x ∈ b := by simpa using h
theorem cut_mid (a b c : List D) : cutX (a ++ b ++ c) (some (a.length : Int)) (some ((a.length + b.length : Nat) : Int)) = b := by
  simp only [cutX, HT.sIx_nat]
  rw [Nat.min_eq_left (by simp), Nat.min_eq_left (by simp [List.length_append]), List.append_assoc, List.drop_left, Nat.add_sub_cancel_left, List.take_left]
theorem cut_pre (a b : List D) : cutX (a ++ b) none (some (a.length : Int)) = a := by
  simp only [cutX, HT.sIx_nat, HT.sIx_none]
  simp [List.length_append]
theorem cut_post (a b : List D) : cutX (a ++ b) (some (a.length : Int)) none = b := by
  simp only [cutX, HT.sIx_nat, HT.sIx_none]
  simp [List.length_append]
theorem at_zero {α : Type} (x : α) (xs : List α) : atI (x :: xs) 0 = some x := by simp [atI, ixN]
local macro_rules | `(tactic| array_get_dec) => `(tactic| with_reducible first | assumption | exact lk_new | (apply lk_set; array_get_dec) | (apply lk_ne (by first | assumption | omega); array_get_dec) | (apply lk_app; array_get_dec))
local macro_rules | `(tactic| array_mem_dec) => `(tactic| first
  | refine s_seq ?_ | refine th_nx ?_ | refine th_rt ?_ | refine th_bk ?_ | refine th_ct ?_ | refine re_rt ?_ | refine re_nx ?_ | refine tu_nx ?_ | refine tu_rt ?_ | refine tu_bk ?_ | refine tu_ct ?_
  | refine s_asg ?_ | refine s_if ?_ | refine s_rt ?_ | refine s_ex ?_ | refine s_nx ?_ | refine s_bk ?_ | refine s_ct ?_ | refine s_for ?_ | refine s_aug rfl ?_
  | refine g_name ?_ | refine g_subL ?_ | refine g_subD ?_ | refine g_tup rfl ?_ | refine gs_cons ?_ | refine gs_nil ?_
  | refine v_var rfl ?_ | refine v_con ?_ | refine v_pick ?_ | refine v_bin ?_ | refine v_call ?_ | refine v_tup ?_ | refine v_lst ?_ | refine v_app ?_ | refine v_neg ?_ | refine v_if ?_ | refine v_and ?_ | refine v_or ?_ | refine v_not ?_ | refine v_isi ?_ | refine v_met ?_ | refine v_sl ?_ | refine v_lrev ?_ | refine v_revT ?_ | refine v_comp ?_ | refine v_comp2 ?_ | refine v_getOr ?_ | refine v_cget ?_ | refine v_newD ?_
  | refine c_tst ?_ | refine c_tru ?_ | refine c_not ?_ | refine c_and ?_ | refine c_or ?_ | refine c_yes ?_
  | refine a_cons ?_ | refine a_nil ?_ | refine o_no ?_ | refine o_part ?_ | refine i_seq ?_ | refine i_rng1 ?_ | refine i_rngD ?_ | refine i_keys ?_ | refine one_i ?_
  | refine bl_i ?_ | refine int_i ?_ | refine str_i ?_ | refine tup_i ?_ | refine ref_i ?_ | refine tru_bl ?_ | refine tru_tup ?_ | (with_reducible apply tru_lst; array_get_dec) | refine sq_tup ?_ | (with_reducible apply sq_lst; array_get_dec)
  | refine o_eqI ?_ | refine o_eqS ?_ | refine o_eqB ?_ | refine o_neS ?_ | refine o_is ?_ | refine o_isn ?_ | refine o_lt ?_ | refine o_le ?_ | refine o_gt ?_ | refine o_ge ?_
  | refine o_ixT (at_zero _ _) ?_ | refine o_ixT rfl ?_ | refine o_addI ?_ | refine o_sub ?_ | refine o_iadd ?_ | refine o_isub ?_
  | refine f_lenT ?_ | refine f_lenR ?_ | (with_reducible apply f_lenL; array_get_dec) | refine f_intI ?_ | refine f_intB ?_ | refine f_abs ?_ | refine f_max ?_ | refine f_min ?_ | refine f_listT ?_ | (with_reducible apply f_listL; array_get_dec) | refine f_tupT ?_ | (with_reducible apply f_tupL; array_get_dec)
  | refine sl_t ?_
  | refine ⟨(rfl : List.length _ = _), ?_⟩)
local macro_rules | `(tactic| decreasing_trivial_pre_omega) => `(tactic| repeat array_mem_dec)
theorem at_rng {xs : List D} {i : Nat} {x : D} (h : xs[i]? = some x) : atI xs (i : Int) = some x := by
  have hl := lt_of h
  have : ixN xs.length (i : Int) = some i := by simp [ixN, hl]
  simp [atI, this, h]
set_option maxHeartbeats 1000000 -- wide
/-! ### a tree of any kind, reduced from its leaves -/
section
variable {α : Type}
def smz (sz : α → Nat) (l : List α) : Nat := (l.map sz).sum
theorem smz_app {sz : α → Nat} (a b : List α) : smz sz (a ++ b) = smz sz a + smz sz b := by simp [smz]
theorem smz_len {sz : α → Nat} : ∀ {l : List α}, (∀ x ∈ l, 0 < sz x) → l.length ≤ smz sz l
  | [], _ => by simp [smz]
  | x :: l, h => by
    have h1 := smz_len (l := l) fun y hy => h y (List.mem_cons_of_mem _ hy)
    have h2 := h x (List.mem_cons_self ..)
    simp [smz] at h1 ⊢
    omega
theorem smz_drop {sz : α → Nat} {nd : List α} {i : Nat} {x : α} (h : nd[i]? = some x) : smz sz (nd.drop i) = sz x + smz sz (nd.drop (i + 1)) := by
  obtain ⟨hl, e⟩ := List.getElem?_eq_some_iff.mp h; rw [List.drop_eq_getElem_cons hl]; rw [e]
  simp [smz]
/-- where the parts of the first at nodes stand -/
def Lies (kids : α → List α) (nd : List α) (fs : List Nat) (i : Nat) : Prop := ∀ f x, fs[i]? = some f → nd[i]? = some x → i < f ∧ ∀ (j : Nat) (y : α), (kids x)[j]? = some y → nd[f + j]? = some y
def natsD (fs : List Nat) : List D := fs.map fun (f : Nat) => D.int f
theorem natsD_ix {fs : List Nat} {i f : Nat} (h : fs[i]? = some f) : (natsD fs)[i]? = some (.int f) := by simp [natsD, h]
theorem cut_ix0 (xs : List D) (f k : Nat) (h : f + k ≤ xs.length) : cutX xs (some (f : Int)) (some ((f : Int) + (k : Int))) = (xs.drop f).take k := by
  rw [show (f : Int) + (k : Int) = ((f + k : Nat) : Int) from by omega]
  simp only [cutX, HT.sIx_nat]
  rw [Nat.min_eq_left (by omega), Nat.min_eq_left (by omega), Nat.add_sub_cancel_left]
variable {dd : α → D} {kids : α → List α} {P : α → Prop} {sz : α → Nat} {val : α → D}
theorem reduced_ok (hP : ∀ x, P x → ∀ y ∈ kids x, P y) (hsz : ∀ x, P x → smz sz (kids x) + 1 ≤ sz x)
    (hparts : ∀ x, P x → ∀ (k : Nat) (S : Sto) (Q : D → Sto → Prop), Q (.tup ((kids x).map dd)) S → w1 (den (k + 1) .parts_of) [dd x] S Q)
    {n : α} (h : P n) (hs : sz n ≤ 100000) {t id k : Nat} {ndf : NDef} {ws : List D} {S : Sto} {Q : D → Sto → Prop} (ht : S[t]? = some (.fn id ndf ws)) (htb : tabN id = some ndf) (hps : ndf.ps.length = 2) (hws : ws.length = ndf.fr.length)
    (hstep : ∀ x, P x → ∀ (T : Sto) (m : Nat) (Q : D → Sto → Prop), Kp S T → T[m]? = some (.lst ((kids x).map val)) → (∀ T', Kp T T' → Q (val x) T') → w1 (gN (den (k + 1)) id) ([dd x, .ref m] ++ ws) T Q)
    (q : ∀ S', Kp S S' → Q (val n) S') : w1 (den (k + 2) .reduced) [dd n, .ref t] S Q := by
  have pos : ∀ x, P x → 0 < sz x := fun x hx => by have := hsz x hx; omega
  have smk : ∀ x, P x → (kids x).length ≤ smz sz (kids x) := fun x hx => smz_len fun y hy => pos y (hP x hx y hy)
  refine w_body ?_
  unfold b_reduced
  decreasing_trivial_pre_omega
  refine ⟨by simp [sizeLine], ?_⟩
  decreasing_trivial_pre_omega
  refine ⟨by simp [sizeLine], ?_⟩
  decreasing_trivial_pre_omega
  refine s_while ?_
  have e0 : (S ++ [O.lst [dd n]]).length = S.length + 1 := by simp
  have n1 : S.length ≠ S.length + 1 := by omega
  have n2 : S.length + 1 ≠ S.length := by omega
  refine wh_inv (fun m γ T => ∃ (at' : Nat) (nd : List α) (fs : List Nat) (x y : Option D), γ = [some (dd n), some (.ref t), some (.ref S.length), some (.ref (S.length + 1)), some (.int at'), x, y] ∧ T[S.length]? = some (.lst (nd.map dd)) ∧ T[S.length + 1]? = some (.lst (natsD fs)) ∧ Kp S T ∧ (∀ x ∈ nd, P x) ∧
    fs.length = at' ∧ at' ≤ nd.length ∧ nd[0]? = some n ∧ (∀ i < at', Lies kids nd fs i) ∧ smz sz (nd.drop at') = m ∧ at' + m ≤ 100000) ?_ turns (sz n) _ _ ?_ (by simp only [turns]; omega)
  · rintro m γ T ⟨at', nd, fs, x1, y1, rfl, hN, hF, hk, ho, hfl, hat, h0, hpl, hm, hle⟩
    decreasing_trivial_pre_omega
    rw [List.length_map]
    have hnl : nd.length ≤ 100000 := by
      have := smz_len (sz := sz) (l := nd.drop at') fun x hx => pos x (ho x (List.mem_of_mem_drop hx))
      simp only [List.length_drop] at this
      omega
    refine iff_d (fun hlt => ?_) (fun hge => ?_)
    · have hlt' : at' < nd.length := by omega
      have hx : nd[at']? = some nd[at'] := List.getElem?_eq_getElem hlt'
      generalize nd[at'] = x at hx
      have hxo : P x := ho x (List.mem_of_getElem? hx)
      have hmx : (nd.map dd)[at']? = some (dd x) := by simp [hx]
      have hpt := hsz x hxo
      have hkl := smk x hxo
      have htd := smz_drop (sz := sz) hx
      have hll := smz_len (sz := sz) (l := nd.drop (at' + 1)) fun x hx => pos x (ho x (List.mem_of_mem_drop hx))
      simp only [List.length_drop] at hll
      decreasing_trivial_pre_omega
      refine ⟨ty_lst hF, ?_⟩
      decreasing_trivial_pre_omega
      rw [List.length_map]
      refine m_append (xs := natsD fs) (by array_get_dec) (by simp [natsD, sizeLine]; omega) ?_
      decreasing_trivial_pre_omega
      refine ⟨ty_lst (xs := nd.map dd) (by array_get_dec), ?_⟩
      decreasing_trivial_pre_omega
      refine o_ixL (xs := nd.map dd) (by array_get_dec) (at_rng hmx) ?_
      decreasing_trivial_pre_omega
      refine hparts x hxo _ _ _ ?_
      decreasing_trivial_pre_omega
      refine m_extT (xs := nd.map dd) (by array_get_dec) (by rw [List.length_map, List.length_map]; simp only [sizeLine]; omega) ?_
      decreasing_trivial_pre_omega
      refine ⟨smz sz ((nd ++ kids x).drop (at' + 1)), ?_, at' + 1, nd ++ kids x, fs ++ [nd.length], _, _, rfl, ?_, ?_, (hk.set (by simp)).set (by simp), ?_, by simp [hfl], by simp; omega, ?_, ?_, rfl, ?_⟩
      · rw [List.drop_append_of_le_length (by omega), smz_app]; omega
      · rw [List.map_append]; exact lk_set (lk_ne n1 hN)
      · have : natsD (fs ++ [nd.length]) = natsD fs ++ [.int nd.length] := by simp [natsD]
        rw [this]; array_get_dec
      · intro y hy
        rcases memA hy with hy | hy
        · exact ho y hy
        · exact hP x hxo y hy
      · rw [List.getElem?_append_left (by omega)]; exact h0
      · intro i hi f z hf hz
        by_cases hia : i < at'
        · rw [List.getElem?_append_left (by omega)] at hf
          rw [List.getElem?_append_left (by omega)] at hz
          obtain ⟨p1, p2⟩ := hpl i hia f z hf hz
          exact ⟨p1, fun j y hy => by
            have := p2 j y hy
            rw [List.getElem?_append_left (lt_of this)]; exact this⟩
        · have : i = at' := by omega
          subst this
          rw [List.getElem?_append_left (by omega), hx] at hz
          cases hz
          rw [List.getElem?_append_right (by omega), hfl] at hf
          simp at hf
          subst hf
          exact ⟨hlt', fun j y hy => by
            rw [List.getElem?_append_right (by omega)]
            simpa using hy⟩
      · rw [List.drop_append_of_le_length (by omega), smz_app]; omega
    · have hae : at' = nd.length := by omega
      decreasing_trivial_pre_omega
      refine ⟨by simp [sizeLine], ?_⟩
      decreasing_trivial_pre_omega
      have hN1 : (T ++ [O.lst [D.non]])[S.length]? = some (.lst (nd.map dd)) := lk_app hN
      decreasing_trivial_pre_omega
      rw [List.length_map]
      refine o_rep lk_new ⟨by omega, by omega, by simp [sizeLine]; omega⟩ ?_
      decreasing_trivial_pre_omega
      have hrep : (List.replicate (nd.length : Int).toNat [D.non]).flatten = List.replicate nd.length D.non := by
        rw [Int.toNat_natCast]
        generalize nd.length = L
        induction L with
        | zero => rfl
        | succ L ih => rw [List.replicate_succ, List.flatten_cons, ih, List.replicate_succ]; rfl
      rw [hrep]
      have hN2 : ((T ++ [O.lst [D.non]]) ++ [O.lst (List.replicate nd.length D.non)])[S.length]? = some (.lst (nd.map dd)) := lk_app hN1
      decreasing_trivial_pre_omega
      rw [List.length_map]
      refine ⟨(nd.length : Int) - 1, -1, rfl, ⟨by omega, by omega, by omega, by omega⟩, ?_⟩
      have hc : S.length + 1 < (T ++ [O.lst [D.non]]).length := by have := lt_of hF; simp; omega
      refine for_inv (fun rest γ T2 => ∃ (r : Nat) (mk : List D) (x y : Option D), γ = [some (dd n), some (.ref t), some (.ref S.length), some (.ref (S.length + 1)), x, some (.ref (T ++ [O.lst [D.non]]).length), y] ∧ rest = (List.range r).map (fun (i : Nat) => D.int ((r : Int) - 1 - i)) ∧ r ≤ nd.length ∧
        T2[S.length]? = some (.lst (nd.map dd)) ∧ T2[S.length + 1]? = some (.lst (natsD fs)) ∧ T2[(T ++ [O.lst [D.non]]).length]? = some (.lst mk) ∧ Kp S T2 ∧ mk.length = nd.length ∧ ∀ i x, r ≤ i → nd[i]? = some x → mk[i]? = some (val x)) ?_ ?_ _ _ _ ?_
      · rintro z rest γ T2 ⟨r, mk, x2, y2, rfl, hr, hrl, g1, g2, g3, g4, g5, g6⟩
        refine ⟨trivial, ?_⟩
        cases r with
        | zero => simp at hr
        | succ r =>
          rw [List.range_succ_eq_map] at hr
          simp only [List.map_cons, List.map_map] at hr
          obtain ⟨hz, hr2⟩ := List.cons.inj hr
          have hz' : z = .int (r : Int) := by rw [hz]; congr 1; omega
          subst hz'
          have hx : nd[r]? = some nd[r] := List.getElem?_eq_getElem (by omega)
          generalize nd[r] = x at hx
          have hxo : P x := ho x (List.mem_of_getElem? hx)
          have hmx : (nd.map dd)[r]? = some (dd x) := by simp [hx]
          have m1 : S.length ≠ (T ++ [O.lst [D.non]]).length := by omega
          have m2 : S.length + 1 ≠ (T ++ [O.lst [D.non]]).length := by omega
          have hSn : S[(T ++ [O.lst [D.non]]).length]? = none := List.getElem?_eq_none (by omega)
          have hrest : ∃ r' : Nat, rest = (List.range r).map (fun (i : Nat) => D.int ((r : Int) - 1 - i)) := ⟨0, by
            rw [hr2]
            apply List.map_congr_left
            intro i _
            simp only [Function.comp_apply]
            congr 1
            omega⟩
          obtain ⟨_, hrest⟩ := hrest
          have hixr : ixN mk.length (r : Int) = some r := by simp [ixN]; omega
          have hfr : fs[r]? = some fs[r] := List.getElem?_eq_getElem (by omega)
          generalize fs[r] = f at hfr
          obtain ⟨p1, p2⟩ := hpl r (by omega) f x hfr hx
          have hlast : (kids x).length = 0 ∨ f + (kids x).length ≤ nd.length := by
            rcases Nat.eq_zero_or_pos (kids x).length with hz | hpos
            · exact .inl hz
            · have := p2 ((kids x).length - 1) _ (List.getElem?_eq_getElem (by omega))
              have := lt_of this
              exact .inr (by omega)
          have hcut : cutX mk (some (f : Int)) (some ((f : Int) + ((kids x).length : Int))) = (kids x).map val := by
            rcases hlast with hz | hle2
            · have hz' : kids x = [] := List.length_eq_zero_iff.mp hz
              rw [hz', show (f : Int) + (([] : List α).length : Int) = ((f : Nat) : Int) from by simp]
              simp only [cutX, HT.sIx_nat, List.map_nil]
              simp
            · rw [cut_ix0 _ _ _ (by omega)]
              apply List.ext_getElem?
              intro j
              by_cases hj : j < (kids x).length
              · have hy : (kids x)[j]? = some (kids x)[j] := List.getElem?_eq_getElem hj
                rw [List.getElem?_take_of_lt hj, List.getElem?_drop, List.getElem?_map, hy]
                exact g6 (f + j) _ (by omega) (p2 j _ hy)
              · rw [List.getElem?_eq_none (by simp; omega), List.getElem?_eq_none (by simp; omega)]
          decreasing_trivial_pre_omega
          refine o_ixL g1 (at_rng hmx) ?_
          decreasing_trivial_pre_omega
          refine hparts x hxo _ _ _ ?_
          decreasing_trivial_pre_omega
          rw [List.length_map]
          have hft : T2[t]? = some (.fn id ndf ws) := g4 _ _ ht
          refine v_callN (n := t) rfl hft htb hws ?_
          decreasing_trivial_pre_omega
          refine o_ixL g1 (at_rng hmx) ?_
          decreasing_trivial_pre_omega
          refine o_ixL g2 (at_rng (natsD_ix hfr)) ?_
          decreasing_trivial_pre_omega
          refine o_ixL g2 (at_rng (natsD_ix hfr)) ?_
          decreasing_trivial_pre_omega
          refine sl_l g3 ?_
          rw [hcut]
          decreasing_trivial_pre_omega
          refine ⟨lk_app hft, by rw [hps]; rfl, ?_⟩
          refine hstep x hxo _ _ _ g4.app lk_new fun T3 k3 => ?_
          have k4 : Kp T2 T3 := Kp.refl.app.trans k3
          decreasing_trivial_pre_omega
          refine ⟨_, k4 _ _ g3, r, hixr, ?_⟩
          refine .nx ⟨r, _, _, _, rfl, hrest, by omega, lk_ne m1 (k4 _ _ g1), lk_ne m2 (k4 _ _ g2), lk_set (k4 _ _ g3), (g4.trans k4).set hSn, by simp [g5], ?_⟩
          intro i y hi hy
          by_cases e : i = r
          · subst e
            rw [hx] at hy; cases hy
            exact List.getElem?_set_self (by omega)
          · rw [List.getElem?_set_ne (Ne.symm e)]
            exact g6 i y (by omega) hy
      · rintro γ T2 ⟨r, mk, x2, y2, rfl, hr, hrl, g1, g2, g3, g4, g5, g6⟩
        refine ⟨trivial, ?_⟩
        have hr0 : r = 0 := by
          cases r with
          | zero => rfl
          | succ m => rw [List.range_succ_eq_map] at hr; simp at hr
        subst hr0
        decreasing_trivial_pre_omega
        refine o_ixL g3 (at_rng (i := 0) (g6 0 n (by omega) h0)) ?_
        decreasing_trivial_pre_omega
        exact q _ g4
      · refine ⟨nd.length, _, _, _, rfl, ?_, by omega, hN2, lk_app (lk_app hF), lk_new, (hk.app).app, by simp, ?_⟩
        · simp only [rngDown]
          have : ((nd.length : Int) - 1 - -1).toNat = nd.length := by omega
          rw [this]
        · intro i x hi hx
          have := lt_of hx; omega
  · refine ⟨0, [n], [], none, none, ?_, lk_app lk_new, ?_, Kp.refl.app.app, fun x hx => by simp at hx; subst hx; exact h, rfl, by simp, rfl, fun i hi => by omega, ?_, by omega⟩
    · rw [e0]; rfl
    · rw [← e0]; exact lk_new
    · simp [smz]
end
/-! ### trees -/
inductive N where
  | col (xs : List D)
  | agg (xs : List D) (c : Option (List D))
  | atm (w : Str) (xs : List D)
  | un (w : Str) (a : N)
  | inn (a : N) (q : D)
  | two (w : Str) (p : List D) (a b : N)
namespace N
def colD (xs : List D) : D := .tup (.str "col" :: xs)
def d : N → D
  | col xs => colD xs
  | agg xs none => .tup (.str "agg" :: xs)
  | agg xs (some c) => .tup (.str "agg" :: (xs ++ [colD c]))
  | atm w xs => .tup (.str w :: xs)
  | un w a => .tup [.str w, a.d]
  | inn a q => .tup [.str "in", a.d, q]
  | two w p a b => .tup (.str w :: (p ++ [a.d, b.d]))
def w : N → Str
  | col _ => "col" | agg _ _ => "agg" | atm w _ => w | un w _ => w | inn _ _ => "in" | two w _ _ _ => w
def pre : N → List D
  | two w p _ _ => .str w :: p
  | n => [.str n.w]
def post : N → List D
  | col xs => xs | agg xs none => xs | agg xs (some c) => xs ++ [colD c] | atm _ xs => xs | inn _ q => [q] | un _ _ => [] | two _ _ _ _ => []
def kids : N → List N
  | un _ a => [a] | inn a _ => [a] | two _ _ a b => [a, b] | _ => []
def lkids : N → List N
  | agg _ (some c) => [col c]
  | n => n.kids
theorem d_eq : ∀ n : N, n.d = .tup (n.pre ++ n.kids.map d ++ n.post)
  | col xs => rfl | agg xs none => rfl | agg xs (some c) => rfl | atm w xs => rfl | un w a => rfl | inn a q => rfl
  | two w p a b => by simp [d, pre, kids, post]
theorem d_w : ∀ n : N, ∃ r, n.d = .tup (.str n.w :: r)
  | col xs => ⟨_, rfl⟩ | agg xs none => ⟨_, rfl⟩ | agg xs (some c) => ⟨_, rfl⟩ | atm w xs => ⟨_, rfl⟩ | un w a => ⟨_, rfl⟩ | inn a q => ⟨_, rfl⟩
  | two w p a b => ⟨_, rfl⟩
def sz : N → Nat
  | col _ => 1 | agg _ none => 1 | agg _ (some _) => 2 | atm _ _ => 1 | un _ a => a.sz + 1 | inn a _ => a.sz + 1 | two _ _ a b => a.sz + b.sz + 1
def ht : N → Nat
  | un _ a => a.ht + 1 | inn a _ => a.ht + 1 | two _ _ a b => max a.ht b.ht + 1 | _ => 0
end N
def flats (xs : List D) : Prop := ∀ x ∈ xs, flatD x = true
def fit : Nat → D → Prop
  | 0, d => flatD d = true
  | k + 1, d => flatD d = true ∨ ∃ xs, d = .tup xs ∧ xs.length ≤ 1000000 ∧ ∀ x ∈ xs, fit k x
theorem fit_flat {d : D} (h : flatD d = true) : ∀ k, fit k d
  | 0 => h
  | k + 1 => .inl h
theorem fit_succ : ∀ {k : Nat} {d : D}, fit k d → fit (k + 1) d
  | 0, d, h => .inl h
  | k + 1, d, h => by
    rcases h with h | ⟨xs, e, l, h⟩
    · exact .inl h
    · exact .inr ⟨xs, e, l, fun x hx => fit_succ (h x hx)⟩
theorem fit_le {k m : Nat} {d : D} (h : fit k d) (l : k ≤ m) : fit m d := by
  obtain ⟨r, rfl⟩ := Nat.exists_eq_add_of_le l
  clear l
  induction r with
  | zero => exact h
  | succ r ih => exact fit_succ ih
theorem fit_tup {k : Nat} {xs : List D} (l : xs.length ≤ 1000000) (h : ∀ x ∈ xs, fit k x) : fit (k + 1) (.tup xs) := .inr ⟨xs, rfl, l, h⟩
theorem fit_of_tup {k : Nat} {xs : List D} (h : fit (k + 1) (.tup xs)) : xs.length ≤ 1000000 ∧ ∀ x ∈ xs, fit k x := by
  rcases h with h | ⟨ys, e, l, h⟩
  · simp [flatD] at h
  · cases e; exact ⟨l, h⟩
theorem not_fit0 {xs : List D} : ¬ fit 0 (.tup xs) := fun h => by simp [fit, flatD] at h
/-- a key of a table -/
structure Ky (d : D) : Prop where
  data : ∃ p, pyD d = some p ∧ p.canLay0 = true ∧ p.depth ≤ 3
  key : ∃ xs k, d = .tup xs ∧ keyN xs = some k
def strsOk (xs : List D) : Prop := ∀ x ∈ xs, ∀ z, x = .str z → PyData.strOk z = true
namespace N
def ok : N → Prop
  | col xs => flats xs ∧ xs.length ≤ 8 ∧ Ky (colD xs)
  | agg xs c => flats xs ∧ xs.length ≤ 8 ∧ Ky (agg xs c).d ∧ ∀ c', c = some c' → flats c' ∧ c'.length ≤ 8 ∧ Ky (colD c')
  | atm w xs => (((w = "num" ∨ w = "text") ∧ flats xs) ∨ w = "exists") ∧ xs.length ≤ 8 ∧ ∀ x ∈ xs, fit 30 x
  | un w a => (w = "neg" ∨ w = "null" ∨ w = "not" ∨ w = "maybe") ∧ a.ok
  | inn a q => a.ok ∧ fit 30 q ∧ flatD q = false
  | two w p a b => (((w = "add" ∨ w = "sub" ∨ w = "mul" ∨ w = "and" ∨ w = "or") ∧ p = []) ∨ (w = "cmp" ∧ ∃ z, p = [.str z])) ∧ a.ok ∧ b.ok
theorem ok_kids : ∀ {n : N}, n.ok → ∀ m ∈ n.kids, m.ok
  | col _, h, m, hm => by simp [kids] at hm
  | agg _ _, h, m, hm => by simp [kids] at hm
  | atm _ _, h, m, hm => by simp [kids] at hm
  | un _ a, h, m, hm => by simp [kids] at hm; subst hm; exact h.2
  | inn a _, h, m, hm => by simp [kids] at hm; subst hm; exact h.1
  | two _ _ a b, h, m, hm => by
    simp [kids] at hm
    rcases hm with rfl | rfl
    · exact h.2.1
    · exact h.2.2
theorem ok_lkids : ∀ {n : N}, n.ok → ∀ m ∈ n.lkids, m.ok
  | agg xs (some c), h, m, hm => by simp [lkids] at hm; subst hm; exact h.2.2.2 c rfl
  | agg xs none, h, m, hm => by simp [lkids, kids] at hm
  | col _, h, m, hm => by simp [lkids, kids] at hm
  | atm _ _, h, m, hm => by simp [lkids, kids] at hm
  | un w a, h, m, hm => ok_kids (n := un w a) h m hm
  | inn a q, h, m, hm => ok_kids (n := inn a q) h m hm
  | two w p a b, h, m, hm => ok_kids (n := two w p a b) h m hm
def place (n : N) : D := .tup [.int n.pre.length, .int (n.pre.length + n.kids.length : Nat)]
theorem look : ∀ {n : N}, n.ok → ∃ r, c_PART_PLACES.lookup n.w = some r ∧ r.getD c_NO_PLACES = n.place
  | col xs, h => ⟨_, rfl, rfl⟩
  | agg xs c, h => ⟨_, rfl, rfl⟩
  | atm w xs, h => by
    rcases h.1 with ⟨rfl | rfl, _⟩ | rfl <;> exact ⟨_, rfl, rfl⟩
  | un w a, h => by
    rcases h.1 with rfl | rfl | rfl | rfl <;> exact ⟨_, rfl, rfl⟩
  | inn a q, h => ⟨_, rfl, rfl⟩
  | two w p a b, h => by
    rcases h.1 with ⟨rfl | rfl | rfl | rfl | rfl, rfl⟩ | ⟨rfl, z, rfl⟩ <;> exact ⟨_, rfl, rfl⟩
end N
/-! ### the parts of a tree -/
theorem parts_ok {n : N} (h : n.ok) {k : Nat} {S : Sto} {Q : D → Sto → Prop} (q : Q (.tup (n.kids.map N.d)) S) : w1 (den (k + 1) .parts_of) [n.d] S Q := by
  obtain ⟨r, e1, e2⟩ := N.look h
  obtain ⟨l, e3⟩ := N.d_w n
  refine w_body ?_
  unfold b_parts_of
  rw [e3]
  decreasing_trivial_pre_omega
  refine ⟨r, e1, ?_⟩
  rw [e2, N.place]
  decreasing_trivial_pre_omega
  have e4 : D.str n.w :: l = n.pre ++ n.kids.map N.d ++ n.post := by
    have := N.d_eq n
    rw [e3] at this
    exact D.tup.inj this
  rw [e4]
  have := cut_mid n.pre (n.kids.map N.d) n.post
  rw [List.length_map] at this
  rw [this]
  exact q
theorem with_ok {n : N} (h : n.ok) {k : Nat} {S : Sto} {Q : D → Sto → Prop} {m : Nat} {ys : List D} (hm : S[m]? = some (.lst ys)) (hl : ys.length ≤ 10000) (hp : n.pre.length ≤ 100) (hq : n.post.length ≤ 100)
    (q : Q (.tup (n.pre ++ ys ++ n.post)) S) : w1 (den (k + 1) .with_parts) [n.d, .ref m] S Q := by
  obtain ⟨r, e1, e2⟩ := N.look h
  obtain ⟨l, e3⟩ := N.d_w n
  have e4 : D.str n.w :: l = n.pre ++ n.kids.map N.d ++ n.post := by
    have := N.d_eq n
    rw [e3] at this
    exact D.tup.inj this
  refine w_body ?_
  unfold b_with_parts
  rw [e3]
  decreasing_trivial_pre_omega
  refine ⟨r, e1, ?_⟩
  rw [e2, N.place]
  decreasing_trivial_pre_omega
  rw [e4]
  have c1 := cut_pre n.pre (n.kids.map N.d ++ n.post)
  have c2 := cut_post (n.pre ++ n.kids.map N.d) n.post
  rw [← List.append_assoc] at c1
  rw [List.length_append, List.length_map] at c2
  rw [c1]
  refine o_addT (by simp only [sizeLine]; omega) ?_
  decreasing_trivial_pre_omega
  refine o_addT (by simp only [sizeLine, List.length_append, c2]; omega) ?_
  decreasing_trivial_pre_omega
  rw [c2]
  exact q
namespace N
theorem isAnd : ∀ {n : N}, n.ok → (n.w == ("and" : Str)) = true → ∃ a b, n = .two "and" [] a b ∧ a.ok ∧ b.ok
  | col xs, h, e => by exact absurd e (by simp only [N.w]; decide +kernel)
  | agg xs c, h, e => by exact absurd e (by simp only [N.w]; decide +kernel)
  | atm w xs, h, e => by
    rcases h.1 with ⟨rfl | rfl, _⟩ | rfl <;> exact absurd e (by simp only [N.w]; decide +kernel)
  | un w a, h, e => by
    rcases h.1 with rfl | rfl | rfl | rfl <;> exact absurd e (by simp only [N.w]; decide +kernel)
  | inn a q, h, e => by exact absurd e (by simp only [N.w]; decide +kernel)
  | two w p a b, h, e => by
    have e' : w = "and" := by simpa [N.w] using e
    subst e'
    rcases h.1 with ⟨_, rfl⟩ | ⟨z, _⟩
    · exact ⟨a, b, rfl, h.2⟩
    · exact absurd z (by decide +kernel)
theorem isW {n : N} : (n.w == ("col" : Str)) = true ↔ n.w = "col" := by simp
/-- the members of a condition -/
def mem : N → List N
  | two w p a b => if w = "and" then mem a ++ mem b else [two w p a b]
  | n => [n]
theorem mem_not : ∀ {n : N}, (n.w == ("and" : Str)) = false → n.mem = [n]
  | col xs, e => rfl
  | agg xs c, e => rfl
  | atm w xs, e => rfl
  | un w a, e => rfl
  | inn a q, e => rfl
  | two w p a b, e => by
    have : w ≠ "and" := by simpa [N.w] using e
    simp [mem, this]
theorem sz_pos : ∀ n : N, 0 < n.sz
  | col xs => by simp [sz]
  | agg xs none => by simp [sz]
  | agg xs (some c) => by simp [sz]
  | atm w xs => by simp [sz]
  | un w a => by simp [sz]
  | inn a q => by simp [sz]
  | two w p a b => by simp [sz]
theorem mem_sz : ∀ n : N, n.mem.length ≤ n.sz
  | col xs => by simp [mem, sz]
  | agg xs none => by simp [mem, sz]
  | agg xs (some c) => by simp [mem, sz]
  | atm w xs => by simp [mem, sz]
  | un w a => by simp [mem, sz]
  | inn a q => by simp [mem, sz]
  | two w p a b => by
    have := mem_sz a; have := mem_sz b
    unfold mem
    split
    · simp [sz]; omega
    · simp [sz]
end N
/-- the sizes of several -/
def tot (l : List N) : Nat := (l.map N.sz).sum
theorem tot_app (a b : List N) : tot (a ++ b) = tot a + tot b := by simp [tot]
theorem tot_one (n : N) : tot [n] = n.sz := by simp [tot]
def od : Option N → D
  | none => .non
  | some n => n.d
def stk : Option N → List N
  | none => []
  | some n => [n]
def okO (o : Option N) : Prop := ∀ n, o = some n → n.ok
def okL (l : List N) : Prop := ∀ n ∈ l, n.ok
theorem okO.stk {o : Option N} (h : okO o) : okL (Gn.stk o) := by
  cases o with
  | none => intro n hn; simp [Gn.stk] at hn
  | some n => intro m hm; simp [Gn.stk] at hm; subst hm; exact h _ rfl
theorem okL.app {a b : List N} (h : okL a) (g : okL b) : okL (a ++ b) := fun n hn => by
  rcases memA hn with hn | hn
  · exact h n hn
  · exact g n hn
theorem okL.left {a b : List N} (h : okL (a ++ b)) : okL a := fun n hn => h n (List.mem_append.mpr (.inl hn))
theorem okL.right {a b : List N} (h : okL (a ++ b)) : okL b := fun n hn => h n (List.mem_append.mpr (.inr hn))
theorem okL.one {n : N} : okL [n] ↔ n.ok := ⟨fun h => h n (by simp), fun h m hm => by simp at hm; subst hm; exact h⟩
/-- a list, empty or with a last one -/
theorem last_cases {α : Type} (l : List α) : l = [] ∨ ∃ r x, l = r ++ [x] := by
  rcases List.eq_nil_or_concat l with h | ⟨r, x, h⟩
  · exact .inl h
  · exact .inr ⟨r, x, by simpa using h⟩
def ms (l : List N) : List D := l.map N.d
theorem ms_app (a b : List N) : ms (a ++ b) = ms a ++ ms b := by simp [ms]
theorem ms_empty (l : List N) : (ms l).isEmpty = l.isEmpty := by cases l <;> rfl
theorem ms_one (a : N) : ms [a] = [a.d] := rfl
theorem ms_snoc (l : List N) (n : N) : ms (l ++ [n]) = ms l ++ [n.d] := by simp [ms]
theorem ms_length (l : List N) : (ms l).length = l.length := by simp [ms]
theorem len_tot : ∀ l : List N, l.length ≤ tot l
  | [] => by simp [tot]
  | n :: l => by
    have := len_tot l; have := N.sz_pos n
    simp [tot] at this ⊢
    simp [tot] at *
    omega
theorem isN_d (n : N) : isN n.d = false := by
  obtain ⟨r, e⟩ := N.d_w n
  rw [e]; rfl
theorem stk_start {o : Option N} {γ : Sl} {S : Sto} {Q : D → Sto → Prop} (h : γ[0]? = some (some (od o))) (q : Q (.ref S.length) (S ++ [.lst (ms (stk o))])) : iff2 (isN (od o)) (wE (lstM nilA) γ S Q) (wE (lstM (consA (varM 0) nilA)) γ S Q) := by
  cases o with
  | none =>
    refine iff_t ?_
    decreasing_trivial_pre_omega
    exact ⟨by simp [sizeLine], q⟩
  | some n =>
    rw [show isN (od (some n)) = false from isN_d n]
    refine iff_f ?_
    refine v_lst ?_
    refine a_cons ?_
    refine v_var h ?_
    decreasing_trivial_pre_omega
    exact ⟨by simp [sizeLine], q⟩
theorem members_ok {o : Option N} (h : okO o) (hs : tot (stk o) ≤ 100000) {k : Nat} {S : Sto} {Q : D → Sto → Prop} (q : ∀ S', Kp S S' → Q (.tup (ms ((stk o).flatMap N.mem))) S') : w1 (den (k + 1) .members) [od o] S Q := by
  refine w_body ?_
  unfold b_members
  decreasing_trivial_pre_omega
  refine ⟨by simp [sizeLine], ?_⟩
  decreasing_trivial_pre_omega
  refine stk_start rfl ?_
  decreasing_trivial_pre_omega
  refine s_while ?_
  have e0 : (S ++ [O.lst []]).length = S.length + 1 := by simp
  have n1 : S.length ≠ S.length + 1 := by omega
  have n2 : S.length + 1 ≠ S.length := by omega
  refine wh_inv (fun m γ T => ∃ x found st, γ = [some (od o), some (.ref S.length), some (.ref (S.length + 1)), x] ∧ T[S.length]? = some (.lst (ms found)) ∧ T[S.length + 1]? = some (.lst (ms st)) ∧ Kp S T ∧ okL st ∧
    found ++ st.reverse.flatMap N.mem = (stk o).flatMap N.mem ∧ tot st = m ∧ found.length + m ≤ 100000) ?_ turns (tot (stk o)) _ _ ?_ (by simp only [turns]; omega)
  · rintro m γ T ⟨x, found, st, rfl, hf, hw, hk, ho, ht, hm, hl⟩
    decreasing_trivial_pre_omega
    rw [ms_empty]
    rcases last_cases st with rfl | ⟨st, y, rfl⟩
    · refine iff_f ?_
      decreasing_trivial_pre_omega
      simp at ht
      subst ht
      exact q _ hk
    · have : (!(st ++ [y]).isEmpty) = true := by simp
      rw [this]
      refine iff_t ?_
      decreasing_trivial_pre_omega
      refine ⟨ty_lst hw, ?_⟩
      rw [ms_app] at hw
      decreasing_trivial_pre_omega
      refine m_pop hw ?_
      decreasing_trivial_pre_omega
      have hy : y.ok := ho y (by simp)
      obtain ⟨r, e⟩ := N.d_w y
      rw [e]
      decreasing_trivial_pre_omega
      rw [← e]
      rw [tot_app, tot_one] at hm
      have hyp := N.sz_pos y
      rw [List.reverse_append, List.flatMap_append] at ht
      simp only [List.reverse_cons, List.reverse_nil, List.nil_append, List.flatMap_cons, List.flatMap_nil, List.append_nil] at ht
      have lst := len_tot st
      have lms := ms_length st
      have lmf := ms_length found
      refine iff_b (fun ha => ?_) (fun ha => ?_)
      · obtain ⟨a, b, rfl, oa, ob⟩ := N.isAnd hy ha
        decreasing_trivial_pre_omega
        refine ⟨ty_lst (xs := ms st) (by array_get_dec), ?_⟩
        show wA (consA (binM ixF (varM 3) (conM (D.int 2))) nilA) [_, _, _, some (D.tup [.str "and", a.d, b.d])] _ _
        decreasing_trivial_pre_omega
        refine m_append (xs := ms st) (by array_get_dec) (by simp only [sizeLine]; omega) ?_
        decreasing_trivial_pre_omega
        refine ⟨ty_lst (xs := ms st ++ [b.d]) (by array_get_dec), ?_⟩
        decreasing_trivial_pre_omega
        refine m_append (xs := ms st ++ [b.d]) (by array_get_dec) (by simp only [sizeLine, List.length_append, List.length_singleton]; omega) ?_
        decreasing_trivial_pre_omega
        simp only [N.sz, N.mem] at hm ht
        refine ⟨_, ?_, _, found, st ++ [b] ++ [a], rfl, by array_get_dec, ?_, ?_, ?_, ?_, rfl, ?_⟩
        · simp only [tot_app, tot_one]; omega
        · simp only [ms_app, ms_one]; array_get_dec
        · exact ((hk.set (by simp)).set (by simp)).set (by simp)
        · exact (okL.left ho).app (okL.one.mpr ob) |>.app (okL.one.mpr oa)
        · rw [← ht]; simp
        · simp only [tot_app, tot_one]; omega
      · decreasing_trivial_pre_omega
        refine ⟨ty_lst (xs := ms found) (by array_get_dec), ?_⟩
        decreasing_trivial_pre_omega
        refine m_append (xs := ms found) (by array_get_dec) (by simp only [sizeLine]; omega) ?_
        decreasing_trivial_pre_omega
        refine ⟨tot st, by omega, _, found ++ [y], st, rfl, ?_, by array_get_dec, ?_, okL.left ho, ?_, rfl, ?_⟩
        · rw [ms_app, ms_one]; array_get_dec
        · exact (hk.set (by simp)).set (by simp)
        · rw [← ht, N.mem_not ha]; simp
        · simp; omega
  · refine ⟨none, [], stk o, ?_, lk_app lk_new, ?_, ?_, h.stk, ?_, rfl, by simpa using hs⟩
    · rw [e0]; rfl
    · rw [← e0]; array_get_dec
    · exact Kp.refl.app.app
    · cases o <;> simp [stk]
/-! ### joined, the height -/
def andAll : List N → Option N
  | [] => none
  | n :: l => some (l.foldl (fun a b => .two "and" [] a b) n)
theorem ms_cons (a : N) (l : List N) : ms (a :: l) = a.d :: ms l := rfl
theorem ms_nil : ms [] = [] := rfl
theorem joined_ok {l : List N} {k : Nat} {S : Sto} {Q : D → Sto → Prop} (q : Q (od (andAll l)) S) : w1 (den (k + 1) .joined) [.tup (ms l)] S Q := by
  refine w_body ?_
  unfold b_joined
  decreasing_trivial_pre_omega
  rw [ms_empty]
  cases l with
  | nil =>
    refine iff_t ?_
    decreasing_trivial_pre_omega
    exact q
  | cons n l =>
    refine iff_f ?_
    decreasing_trivial_pre_omega
    have e : cutX (ms (n :: l)) (some 1) none = ms l := cut_post [n.d] (ms l)
    rw [e]
    refine for_inv (fun r γ T => ∃ x a m, γ = [some (.tup (ms (n :: l))), some (N.d a), x] ∧ r = ms m ∧ m.foldl (fun a b => .two "and" [] a b) a = l.foldl (fun a b => .two "and" [] a b) n ∧ T = S) ?_ ?_ _ _ _ ?_
    · rintro x r γ T ⟨z, a, m, rfl, hr, hm, rfl⟩
      refine ⟨trivial, ?_⟩
      cases m with
      | nil => cases hr
      | cons b m =>
        rw [ms_cons] at hr
        cases hr
        decreasing_trivial_pre_omega
        refine ⟨by simp [sizeLine], ?_⟩
        decreasing_trivial_pre_omega
        exact ⟨some b.d, .two "and" [] a b, m, rfl, rfl, hm, rfl⟩
    · rintro γ T ⟨z, a, m, rfl, hr, hm, rfl⟩
      refine ⟨trivial, ?_⟩
      have : m = [] := by cases m with
        | nil => rfl
        | cons b m => simp [ms] at hr
      subst this
      decreasing_trivial_pre_omega
      rw [List.foldl_nil] at hm
      subst hm
      exact q
    · exact ⟨none, n, l, rfl, rfl, rfl, rfl⟩
namespace N
theorem kids_tot : ∀ n : N, tot n.kids + 1 ≤ n.sz
  | col xs => by simp [kids, sz, tot]
  | agg xs none => by simp [kids, sz, tot]
  | agg xs (some c) => by simp [kids, sz, tot]
  | atm w xs => by simp [kids, sz, tot]
  | un w a => by simp [kids, sz, tot]
  | inn a q => by simp [kids, sz, tot]
  | two w p a b => by simp [kids, sz, tot]
end N
/-- the greatest height -/
def mx (l : List N) : Nat := l.foldr (fun n m => max n.ht m) 0
theorem mx_app (a b : List N) : mx (a ++ b) = max (mx a) (mx b) := by
  induction a with
  | nil => simp [mx]
  | cons x a ih => simp only [mx, List.cons_append, List.foldr_cons] at *; omega
/-- heights told from 1 -/
def hts (l : List N) : Nat := l.foldr (fun n m => max (n.ht + 1) m) 0
theorem hts_app (a b : List N) : hts (a ++ b) = max (hts a) (hts b) := by
  induction a with
  | nil => simp [hts]
  | cons x a ih => simp only [hts, List.cons_append, List.foldr_cons] at *; omega
theorem hts_kids : ∀ n : N, hts n.kids = n.ht
  | .col xs => by simp [N.kids, hts, N.ht]
  | .agg xs c => by simp [N.kids, hts, N.ht]
  | .atm w xs => by simp [N.kids, hts, N.ht]
  | .un w a => by simp [N.kids, hts, N.ht]
  | .inn a q => by simp [N.kids, hts, N.ht]
  | .two w p a b => by simp [N.kids, hts, N.ht] <;> omega
theorem hts_next (l : List N) : hts (l.flatMap N.kids) = hts l - 1 := by
  induction l with
  | nil => rfl
  | cons x l ih =>
    rw [List.flatMap_cons, hts_app, hts_kids, ih]
    simp only [hts, List.foldr_cons]
    omega
theorem tot_next (l : List N) : tot (l.flatMap N.kids) + l.length ≤ tot l := by
  induction l with
  | nil => simp [tot]
  | cons x l ih =>
    have := N.kids_tot x
    rw [List.flatMap_cons, tot_app]
    simp only [List.length_cons]
    have e : tot (x :: l) = x.sz + tot l := by simp [tot]
    omega
theorem okL.next {l : List N} (h : okL l) : okL (l.flatMap N.kids) := fun n hn => by
  obtain ⟨m, hm, hn⟩ := List.mem_flatMap.mp hn
  exact N.ok_kids (h m hm) n hn
theorem height_ok {o : Option N} (h : okO o) (hs : tot (stk o) ≤ 100000) {k : Nat} {S : Sto} {Q : D → Sto → Prop} (q : ∀ S', Kp S S' → Q (.int (hts (stk o) : Nat)) S') : w1 (den (k + 2) .height) [od o] S Q := by
  refine w_body ?_
  unfold b_height
  decreasing_trivial_pre_omega
  refine stk_start rfl ?_
  decreasing_trivial_pre_omega
  refine s_while ?_
  refine wh_inv (fun m γ T => ∃ (c r : Nat) (lv : List N) (x y : Option D), γ = [some (od o), some (.int c), some (.ref r), x, y] ∧ T[r]? = some (.lst (ms lv)) ∧ Kp S T ∧ okL lv ∧ c + hts lv = hts (stk o) ∧ tot lv = m ∧ m ≤ 100000) ?_ turns (tot (stk o)) _ _ ?_ (by simp only [turns]; omega)
  · rintro m γ T ⟨c, r, lv, x, y, rfl, hr, hk, ho, hc, hm, hl⟩
    decreasing_trivial_pre_omega
    rw [ms_empty]
    cases lv with
    | nil =>
      refine iff_f ?_
      decreasing_trivial_pre_omega
      simp [hts] at hc
      subst hc
      exact q _ hk
    | cons n lv =>
      refine iff_t ?_
      decreasing_trivial_pre_omega
      generalize hL : n :: lv = L at *
      have hne : 0 < L.length := by rw [← hL]; simp
      -- the next level
      refine k2_inv (fun rest T2 => ∃ tl acc, rest = ms tl ∧ okL tl ∧ T2[r]? = some (.lst (ms L)) ∧ T2[T.length]? = some (.lst (ms acc)) ∧ Kp T T2 ∧ acc ++ tl.flatMap N.kids = L.flatMap N.kids) ?_ ?_ _ _ ?_
      · rintro z rest T2 ⟨tl, acc, hrest, hok, h1, h2, h3, h4⟩
        refine ⟨h1, ?_⟩
        cases tl with
        | nil => simp [ms] at hrest
        | cons t tl =>
          rw [ms_cons] at hrest
          cases hrest
          refine ⟨_, rfl, ?_⟩
          decreasing_trivial_pre_omega
          refine iff_t ?_
          decreasing_trivial_pre_omega
          refine parts_ok (hok t (by simp)) ?_
          decreasing_trivial_pre_omega
          have hb : tot (L.flatMap N.kids) + L.length ≤ tot L := tot_next L
          have hb2 := len_tot (L.flatMap N.kids)
          have hlen : acc.length + (t.kids.length + (tl.flatMap N.kids).length) = (L.flatMap N.kids).length := by
            rw [← h4]; simp
          -- the inner clause
          refine k_inv (fun rest T3 => ∃ tk acc2, rest = ms tk ∧ T3[r]? = some (.lst (ms L)) ∧ T3[T.length]? = some (.lst (ms acc2)) ∧ Kp T T3 ∧ acc2 ++ tk = acc ++ t.kids) ?_ ?_ _ _ ?_
          · rintro z2 rest2 T3 ⟨tk, acc2, hrest2, g1, g2, g3, g4⟩
            refine ⟨trivial, ?_⟩
            cases tk with
            | nil => simp [ms] at hrest2
            | cons u tk =>
              rw [ms_cons] at hrest2
              cases hrest2
              refine ⟨_, rfl, ?_⟩
              decreasing_trivial_pre_omega
              refine iff_t ?_
              decreasing_trivial_pre_omega
              have hlen2 : acc2.length + (tk.length + 1) = acc.length + t.kids.length := by
                have := congrArg List.length g4
                simpa using this
              have hne2 : r ≠ T.length := Kp.ne hr
              refine ⟨ms acc2, g2, by rw [ms_length]; simp only [sizeLine]; omega, tk, acc2 ++ [u], rfl, by array_get_dec, ?_, g3.set (by simp), ?_⟩
              · rw [ms_app, ms_one]; array_get_dec
              · rw [← g4]; simp
          · rintro T3 ⟨tk, acc2, hrest2, g1, g2, g3, g4⟩
            have : tk = [] := by cases tk with
              | nil => rfl
              | cons b m => simp [ms] at hrest2
            subst this
            refine ⟨trivial, tl, acc2, rfl, fun n hn => hok n (by simp [hn]), g1, g2, g3, ?_⟩
            rw [← h4]
            simp at g4
            rw [g4]
            simp
          · exact ⟨t.kids, acc, rfl, h1, h2, h3, rfl⟩
      · rintro T2 ⟨tl, acc, hrest, hok, h1, h2, h3, h4⟩
        have : tl = [] := by cases tl with
          | nil => rfl
          | cons b m => simp [ms] at hrest
        subst this
        refine ⟨h1, ?_⟩
        decreasing_trivial_pre_omega
        have hb : tot (L.flatMap N.kids) + L.length ≤ tot L := tot_next L
        simp at h4
        have hh := hts_next L
        have hpos : 0 < hts L := by rw [← hL]; simp only [hts, List.foldr_cons]; omega
        refine ⟨tot acc, by rw [h4]; omega, c + 1, T.length, acc, _, _, rfl, h2, hk.trans h3, by rw [h4]; exact ho.next, ?_, rfl, by rw [h4]; omega⟩
        rw [h4, hh]; omega
      · exact ⟨L, [], rfl, ho, lk_app hr, lk_new, Kp.refl.app, rfl⟩
  · exact ⟨0, S.length, stk o, none, none, rfl, lk_new, Kp.refl.app, h.stk, by simp, rfl, hs⟩
/-! ### leaves, columns, aggs -/
namespace N
def lv : N → List N
  | un _ a => lv a
  | inn a _ => lv a
  | two _ _ a b => lv a ++ lv b
  | n => [n]
theorem lv_leaf : ∀ {n : N}, n.kids = [] → n.lv = [n]
  | col xs, e => rfl
  | agg xs c, e => rfl
  | atm w xs, e => rfl
  | un w a, e => by simp [kids] at e
  | inn a q, e => by simp [kids] at e
  | two w p a b, e => by simp [kids] at e
theorem lv_kids : ∀ {n : N}, n.kids ≠ [] → n.lv = n.kids.flatMap lv
  | col xs, e => by simp [kids] at e
  | agg xs c, e => by simp [kids] at e
  | atm w xs, e => by simp [kids] at e
  | un w a, e => by simp [kids, lv]
  | inn a q, e => by simp [kids, lv]
  | two w p a b, e => by simp [kids, lv]
theorem lv_leaves : ∀ (n m : N), m ∈ n.lv → m.kids = []
  | col xs, m, h => by simp [lv] at h; subst h; rfl
  | agg xs c, m, h => by simp [lv] at h; subst h; rfl
  | atm w xs, m, h => by simp [lv] at h; subst h; rfl
  | un w a, m, h => lv_leaves a m (by simpa [lv] using h)
  | inn a q, m, h => lv_leaves a m (by simpa [lv] using h)
  | two w p a b, m, h => by
    simp only [lv, List.mem_append] at h
    rcases h with h | h
    · exact lv_leaves a m h
    · exact lv_leaves b m h
theorem lv_ok : ∀ (n : N), n.ok → okL n.lv
  | col xs, h => okL.one.mpr h
  | agg xs c, h => okL.one.mpr h
  | atm w xs, h => okL.one.mpr h
  | un w a, h => lv_ok a h.2
  | inn a q, h => lv_ok a h.1
  | two w p a b, h => (lv_ok a h.2.1).app (lv_ok b h.2.2)
theorem lv_sz : ∀ n : N, n.lv.length ≤ n.sz
  | col xs => by simp [lv, sz]
  | agg xs none => by simp [lv, sz]
  | agg xs (some c) => by simp [lv, sz]
  | atm w xs => by simp [lv, sz]
  | un w a => by have := lv_sz a; simp only [lv, sz]; omega
  | inn a q => by have := lv_sz a; simp only [lv, sz]; omega
  | two w p a b => by have := lv_sz a; have := lv_sz b; simp only [lv, sz, List.length_append]; omega
def colsAt : N → List D
  | col xs => [colD xs]
  | agg _ (some c) => [colD c]
  | _ => []
theorem w_col : ∀ {n : N}, n.ok → (n.w == ("col" : Str)) = true → ∃ xs, n = .col xs
  | col xs, h, e => ⟨xs, rfl⟩
  | agg xs c, h, e => by exact absurd e (by simp only [N.w]; decide +kernel)
  | atm w xs, h, e => by
    rcases h.1 with ⟨rfl | rfl, _⟩ | rfl <;> exact absurd e (by simp only [N.w]; decide +kernel)
  | un w a, h, e => by
    rcases h.1 with rfl | rfl | rfl | rfl <;> exact absurd e (by simp only [N.w]; decide +kernel)
  | inn a q, h, e => by exact absurd e (by simp only [N.w]; decide +kernel)
  | two w p a b, h, e => by
    rcases h.1 with ⟨rfl | rfl | rfl | rfl | rfl, _⟩ | ⟨rfl, z, _⟩ <;> exact absurd e (by simp only [N.w]; decide +kernel)
theorem w_agg : ∀ {n : N}, n.ok → (n.w == ("agg" : Str)) = true → ∃ xs c, n = .agg xs c
  | col xs, h, e => by exact absurd e (by simp only [N.w]; decide +kernel)
  | agg xs c, h, e => ⟨xs, c, rfl⟩
  | atm w xs, h, e => by
    rcases h.1 with ⟨rfl | rfl, _⟩ | rfl <;> exact absurd e (by simp only [N.w]; decide +kernel)
  | un w a, h, e => by
    rcases h.1 with rfl | rfl | rfl | rfl <;> exact absurd e (by simp only [N.w]; decide +kernel)
  | inn a q, h, e => by exact absurd e (by simp only [N.w]; decide +kernel)
  | two w p a b, h, e => by
    rcases h.1 with ⟨rfl | rfl | rfl | rfl | rfl, _⟩ | ⟨rfl, z, _⟩ <;> exact absurd e (by simp only [N.w]; decide +kernel)
theorem colsAt_none : ∀ {n : N}, (n.w == ("col" : Str)) = false → (n.w == ("agg" : Str)) = false → n.colsAt = []
  | col xs, e, e' => by exact absurd e (by simp only [N.w]; decide +kernel)
  | agg xs c, e, e' => by exact absurd e' (by simp only [N.w]; decide +kernel)
  | atm w xs, e, e' => rfl
  | un w a, e, e' => rfl
  | inn a q, e, e' => rfl
  | two w p a b, e, e' => rfl
theorem colsAt_ky : ∀ {n : N}, n.ok → ∀ x ∈ n.colsAt, Ky x
  | col xs, h, x, hx => by simp [colsAt] at hx; subst hx; exact h.2.2
  | agg xs none, h, x, hx => by simp [colsAt] at hx
  | agg xs (some c), h, x, hx => by simp [colsAt] at hx; subst hx; exact (h.2.2.2 c rfl).2.2
  | atm w xs, h, x, hx => by simp [colsAt] at hx
  | un w a, h, x, hx => by simp [colsAt] at hx
  | inn a q, h, x, hx => by simp [colsAt] at hx
  | two w p a b, h, x, hx => by simp [colsAt] at hx
theorem colsAt_one (n : N) : n.colsAt.length ≤ 1 := by
  cases n with
  | agg xs c => cases c <;> simp [colsAt]
  | _ => simp [colsAt]
end N
theorem leaves_ok {o : Option N} (h : okO o) (hs : tot (stk o) ≤ 100000) {k : Nat} {S : Sto} {Q : D → Sto → Prop} (q : ∀ S' r, Kp S S' → S'[r]? = some (.lst (ms ((stk o).flatMap N.lv))) → S[r]? = none → Q (.ref r) S') : w1 (den (k + 2) .leaves_of) [od o] S Q := by
  refine w_body ?_
  unfold b_leaves_of
  decreasing_trivial_pre_omega
  refine ⟨by simp [sizeLine], ?_⟩
  decreasing_trivial_pre_omega
  refine stk_start rfl ?_
  decreasing_trivial_pre_omega
  refine s_while ?_
  have e0 : (S ++ [O.lst []]).length = S.length + 1 := by simp
  have n1 : S.length ≠ S.length + 1 := by omega
  have n2 : S.length + 1 ≠ S.length := by omega
  refine wh_inv (fun m γ T => ∃ x y found st, γ = [some (od o), some (.ref S.length), some (.ref (S.length + 1)), x, y] ∧ T[S.length]? = some (.lst (ms found)) ∧ T[S.length + 1]? = some (.lst (ms st)) ∧ Kp S T ∧ okL st ∧
    found ++ st.reverse.flatMap N.lv = (stk o).flatMap N.lv ∧ tot st = m ∧ found.length + m ≤ 100000) ?_ turns (tot (stk o)) _ _ ?_ (by simp only [turns]; omega)
  · rintro m γ T ⟨x, y, found, st, rfl, hf, hw, hk, ho, ht, hm, hl⟩
    decreasing_trivial_pre_omega
    rw [ms_empty]
    rcases last_cases st with rfl | ⟨st, n, rfl⟩
    · refine iff_f ?_
      decreasing_trivial_pre_omega
      simp at ht
      subst ht
      exact q _ _ hk hf (by simp)
    · have : (!(st ++ [n]).isEmpty) = true := by simp
      rw [this]
      refine iff_t ?_
      decreasing_trivial_pre_omega
      refine ⟨ty_lst hw, ?_⟩
      rw [ms_app] at hw
      decreasing_trivial_pre_omega
      refine m_pop hw ?_
      decreasing_trivial_pre_omega
      have hy : n.ok := ho n (by simp)
      refine parts_ok hy ?_
      decreasing_trivial_pre_omega
      rw [tot_app, tot_one] at hm
      have hyp := N.kids_tot n
      rw [List.reverse_append, List.flatMap_append] at ht
      simp only [List.reverse_cons, List.reverse_nil, List.nil_append, List.flatMap_cons, List.flatMap_nil, List.append_nil] at ht
      have lst := len_tot st
      have lk := len_tot n.kids
      have lms := ms_length st
      have lmf := ms_length found
      refine ⟨ty_lst (xs := ms st) (by array_get_dec), ?_⟩
      decreasing_trivial_pre_omega
      refine m_extT (xs := ms st) (by array_get_dec) (by simp only [sizeLine, List.length_reverse, List.length_map]; omega) ?_
      decreasing_trivial_pre_omega
      have er : (n.kids.map N.d).reverse = ms n.kids.reverse := by simp [ms]
      rw [er, ← ms_app]
      have hmm : (List.map N.d n.kids).isEmpty = n.kids.isEmpty := by cases n.kids <;> rfl
      rw [hmm]
      have tr : ∀ l : List N, tot l.reverse = tot l := fun l => by simp [tot]
      cases hkids : n.kids with
      | nil =>
        refine iff_t ?_
        decreasing_trivial_pre_omega
        refine ⟨ty_lst (xs := ms found) (by array_get_dec), ?_⟩
        decreasing_trivial_pre_omega
        refine m_append (xs := ms found) (by array_get_dec) (by simp only [sizeLine]; omega) ?_
        decreasing_trivial_pre_omega
        refine ⟨tot st, by omega, _, _, found ++ [n], st, rfl, ?_, ?_, ?_, okL.left ho, ?_, rfl, ?_⟩
        · rw [ms_snoc]; array_get_dec
        · rw [List.reverse_nil, List.append_nil]; array_get_dec
        · exact ((hk.set (by simp)).set (by simp)).set (by simp)
        · rw [← ht, N.lv_leaf hkids]; simp
        · simp; omega
      | cons c cs =>
        refine iff_f ?_
        decreasing_trivial_pre_omega
        rw [← hkids]
        refine ⟨_, ?_, _, _, found, st ++ n.kids.reverse, rfl, by array_get_dec, by array_get_dec, ?_, ?_, ?_, rfl, ?_⟩
        · rw [tot_app, tr]; omega
        · exact (hk.set (by simp)).set (by simp)
        · exact (okL.left ho).app fun m hm => N.ok_kids hy m (by simpa using hm)
        · rw [← ht, N.lv_kids (by rw [hkids]; simp)]; simp
        · rw [tot_app, tr]; omega
  · refine ⟨none, none, [], stk o, ?_, lk_app lk_new, ?_, ?_, h.stk, ?_, rfl, by simpa using hs⟩
    · rw [e0]; rfl
    · rw [← e0]; array_get_dec
    · exact Kp.refl.app.app
    · cases o <;> simp [stk]
theorem ty_flat {T : Sto} {x : D} (h : flatD x = true) {Q : Bool → Prop} (q : Q false) : tyQ "tuple" T x Q := by
  cases x with
  | non => exact ⟨_, _, rfl, rfl, q⟩
  | bl b => exact ⟨_, _, rfl, rfl, q⟩
  | int b => exact ⟨_, _, rfl, rfl, q⟩
  | str b => exact ⟨_, _, rfl, rfl, q⟩
  | tup b => simp [flatD] at h
  | rl b => simp [flatD] at h
  | ref b => simp [flatD] at h
  | gl b => simp [flatD] at h
theorem is_column_flat {x : D} (h : flatD x = true) {k : Nat} {S : Sto} {Q : D → Sto → Prop} (q : Q (.bl false) S) : w1 (den (k + 1) .is_column) [x] S Q := by
  refine w_body ?_
  unfold b_is_column
  decreasing_trivial_pre_omega
  refine ty_flat h ?_
  decreasing_trivial_pre_omega
  refine iff_f ?_
  decreasing_trivial_pre_omega
  exact q
theorem is_column_col {xs : List D} {k : Nat} {S : Sto} {Q : D → Sto → Prop} (q : Q (.bl true) S) : w1 (den (k + 1) .is_column) [N.colD xs] S Q := by
  refine w_body ?_
  unfold b_is_column
  decreasing_trivial_pre_omega
  refine ty_tup.mpr ?_
  decreasing_trivial_pre_omega
  refine iff_t ?_
  decreasing_trivial_pre_omega
  exact q
/-- a filtering comprehension -/
theorem k_filter {p : D → Bool} {P : D → Prop} {i n : Nat} {tt : CvM} {e : EvM} {γ : Sl} {T : Sto} {ck} {Q : Sto → Prop} {xs : List D} (hn : T[n]? = some (.lst [])) (hl : xs.length ≤ 1000000)
    (hP : ∀ x ∈ xs, P x) (hck : ∀ T' : Sto, Kp (T.set n (.lst [])) (T'.set n (.lst [])) → Chk ck T')
    (ht : ∀ (x : D) (T' : Sto) (Q' : Bool → Sto → Prop), P x → Q' (p x) T' → wC tt (γ.set i (some x)) T' Q')
    (he : ∀ (x : D) (T' : Sto) (Q' : D → Sto → Prop), P x → Q' x T' → wE e (γ.set i (some x)) T' Q')
    (q : ∀ T' : Sto, (∀ (j : Nat) (o : O), j ≠ n → T[j]? = some o → T'[j]? = some o) → T'[n]? = some (.lst (xs.filter p)) → Q T') : wK ck (.one i) tt e γ n xs T Q := by
  have ext : ∀ T' : Sto, (∀ (j : Nat) (o : O), j ≠ n → T[j]? = some o → T'[j]? = some o) → n < T'.length → Kp (T.set n (.lst [])) (T'.set n (.lst [])) := by
    intro T' h hl j o hj
    by_cases e : j = n
    · subst e
      rw [List.getElem?_set_self (lt_of hn)] at hj
      rw [List.getElem?_set_self hl]; exact hj
    · rw [List.getElem?_set_ne (Ne.symm e)] at hj ⊢
      exact h j o e hj
  refine k_inv (fun rest T' => ∃ acc, (∀ x ∈ rest, P x) ∧ (∀ (j : Nat) (o : O), j ≠ n → T[j]? = some o → T'[j]? = some o) ∧ T'[n]? = some (.lst acc) ∧ acc ++ rest.filter p = xs.filter p ∧ acc.length + rest.length ≤ 1000000) ?_ ?_ _ _ ?_
  · rintro x r T' ⟨acc, hr, h1, h2, h3, h4⟩
    refine ⟨hck T' (ext T' h1 (lt_of h2)), _, rfl, ?_⟩
    refine ht x T' _ (hr x (by simp)) ?_
    have hr' : ∀ y ∈ r, P y := fun y hy => hr y (by simp [hy])
    simp only [List.length_cons] at h4
    refine iff_b (fun hp => ?_) (fun hp => ?_)
    · refine he x T' _ (hr x (by simp)) ?_
      refine ⟨acc, h2, by simp only [sizeLine]; omega, acc ++ [x], hr', fun j o hj e => ?_, lk_set h2, ?_, by simp; omega⟩
      · rw [List.getElem?_set_ne (Ne.symm hj)]; exact h1 j o hj e
      · rw [← h3, List.filter_cons, if_pos hp]; simp
    · refine ⟨acc, hr', h1, h2, ?_, by omega⟩
      rw [← h3, List.filter_cons, if_neg (by simp [hp])]
  · rintro T' ⟨acc, hr, h1, h2, h3, h4⟩
    refine ⟨hck T' (ext T' h1 (lt_of h2)), q T' h1 ?_⟩
    rw [h2]; simp at h3; rw [h3]
  · exact ⟨[], hP, fun _ _ _ h => h, hn, by simp, by simpa using hl⟩
def isColD : D → Bool
  | .tup (.str w :: _) => w == ("col" : Str)
  | _ => false
theorem flats_filter {p : D → Bool} (hp : ∀ x, flatD x = true → p x = false) {xs : List D} (h : flats xs) : xs.filter p = [] := by
  rw [List.filter_eq_nil_iff]
  intro x hx
  rw [hp x (h x hx)]; simp
theorem isColD_flat {x : D} (h : flatD x = true) : isColD x = false := by
  cases x <;> simp [flatD] at h <;> rfl
theorem columns_at_ok {n : N} (h : n.ok) {k : Nat} {S : Sto} {Q : D → Sto → Prop} (q : ∀ S' r, Kp S S' → S'[r]? = some (.lst n.colsAt) → S[r]? = none → Q (.ref r) S') : w1 (den (k + 2) .columns_at) [n.d] S Q := by
  obtain ⟨l, e3⟩ := N.d_w n
  refine w_body ?_
  unfold b_columns_at
  rw [e3]
  decreasing_trivial_pre_omega
  refine iff_b (fun hc => ?_) (fun hc => ?_)
  · obtain ⟨xs, rfl⟩ := N.w_col h hc
    decreasing_trivial_pre_omega
    refine ⟨by simp [sizeLine], ?_⟩
    decreasing_trivial_pre_omega
    rw [← e3]
    exact q _ _ Kp.refl.app lk_new (by simp)
  · decreasing_trivial_pre_omega
    refine iff_b (fun ha => ?_) (fun ha => ?_)
    · obtain ⟨xs, c, rfl⟩ := N.w_agg h ha
      decreasing_trivial_pre_omega
      rw [show D.str (N.agg xs c).w :: l = (D.str "agg" :: xs) ++ (match c with | none => [] | some c => [N.colD c]) from by
        cases c with
        | none => have := D.tup.inj e3; simp [N.w] at this ⊢; exact this.symm
        | some c => have := D.tup.inj e3; simp [N.w] at this ⊢; exact this.symm]
      have hfl : ∀ x ∈ (D.str "agg" :: xs), flatD x = true := by
        intro x hx
        rcases memC hx with rfl | hx
        · rfl
        · exact h.1 x hx
      refine k_filter (p := isColD) (P := fun x => flatD x = true ∨ ∃ c, x = N.colD c) lk_new ?_ ?_ (fun _ _ => trivial) ?_ ?_ ?_
      · have := h.2.1
        cases c <;> simp <;> omega
      · intro x hx
        rcases memA hx with hx | hx
        · exact .inl (hfl x hx)
        · cases c with
          | none => simp at hx
          | some c => simp at hx; exact .inr ⟨c, hx⟩
      · rintro x T Q' (hx | ⟨c, rfl⟩) hQ
        · decreasing_trivial_pre_omega
          refine is_column_flat hx ?_
          decreasing_trivial_pre_omega
          rw [isColD_flat hx] at hQ; exact hQ
        · decreasing_trivial_pre_omega
          refine is_column_col ?_
          decreasing_trivial_pre_omega
          exact hQ
      · intro x T Q' _ hQ
        decreasing_trivial_pre_omega
        exact hQ
      · intro T h1 h2
        decreasing_trivial_pre_omega
        refine q T _ (fun j o e => h1 j o (Kp.ne e) (lk_app e)) ?_ (by simp)
        rw [h2, List.filter_append, flats_filter (fun x => isColD_flat) hfl]
        cases c <;> rfl
    · decreasing_trivial_pre_omega
      refine ⟨by simp [sizeLine], ?_⟩
      decreasing_trivial_pre_omega
      refine q _ _ Kp.refl.app ?_ (by simp)
      rw [N.colsAt_none hc ha]
      exact lk_new
/-- each once -/
def ded (f ds : List D) : List D := ds.foldl (fun f x => if memB x f then f else f ++ [x]) f
theorem ded_nil (f : List D) : ded f [] = f := rfl
theorem ded_cons (f : List D) (x : D) (ds : List D) : ded f (x :: ds) = ded (if memB x f then f else f ++ [x]) ds := rfl
theorem ded_app (f a b : List D) : ded f (a ++ b) = ded (ded f a) b := by simp [ded, List.foldl_append]
theorem pyDs_all : ∀ {xs : List D}, (∀ x ∈ xs, Ky x) → ∃ ds, pyDs xs = some ds ∧ PyData.canLayAll0 ds = true ∧ PyData.depthAll ds ≤ 3
  | [], _ => ⟨[], by simp [pyDs], by simp [PyData.canLayAll0], by simp [PyData.depthAll]⟩
  | x :: xs, h => by
    obtain ⟨p, e1, e2, e3⟩ := (h x (by simp)).data
    obtain ⟨ds, g1, g2, g3⟩ := pyDs_all (xs := xs) fun y hy => h y (by simp [hy])
    exact ⟨p :: ds, by simp [pyDs, e1, g1], by simp [PyData.canLayAll0, e2, g2], by rw [PyData.depthAll]; exact Nat.max_le.mpr ⟨e3, g3⟩⟩
theorem notin_ok {n : Nat} {S : Sto} {x : D} {found : List D} {Q : D → Sto → Prop} (hn : S[n]? = some (.lst found)) (hx : Ky x) (hf : ∀ y ∈ found, Ky y) (q : Q (.bl (!memB x found)) S) : w2 (inF true) x (.ref n) S Q := by
  obtain ⟨p, e1, e2, e3⟩ := hx.data
  obtain ⟨ds, g1, g2, g3⟩ := pyDs_all hf
  refine o_notin hn e1 g1 ?_ ?_ q
  · simp only [SeqAt.shaped, e2, Bool.true_and, decide_eq_true_eq]; omega
  · refine Bool.and_eq_true_iff.mpr ⟨?_, decide_eq_true ?_⟩
    · rw [PyData.canLay0]; exact g2
    · rw [PyData.depth]; omega
theorem sum_one {f : N → List D} (hf : ∀ n, (f n).length ≤ 1) (l : List N) : (l.flatMap f).length ≤ l.length := by
  induction l with
  | nil => simp
  | cons n l ih => have := hf n; simp only [List.flatMap_cons, List.length_append, List.length_cons]; omega
theorem lvs_len (l : List N) : (l.flatMap N.lv).length ≤ tot l := by
  induction l with
  | nil => simp [tot]
  | cons n l ih =>
    have := N.lv_sz n
    have e : tot (n :: l) = n.sz + tot l := by simp [tot]
    simp only [List.flatMap_cons, List.length_append]; omega
theorem lvs_ok {l : List N} (h : okL l) : okL (l.flatMap N.lv) := fun n hn => by
  obtain ⟨m, hm, hn⟩ := List.mem_flatMap.mp hn
  exact N.lv_ok m (h m hm) n hn
def colsOf (o : Option N) : List D := ((stk o).flatMap N.lv).flatMap N.colsAt
theorem columns_in_ok {o : Option N} (h : okO o) (hs : tot (stk o) ≤ 100000) {k : Nat} {S : Sto} {Q : D → Sto → Prop} (q : ∀ S', Kp S S' → Q (.tup (ded [] (colsOf o))) S') : w1 (den (k + 3) .columns_in) [od o] S Q := by
  refine w_body ?_
  unfold b_columns_in
  decreasing_trivial_pre_omega
  refine ⟨by simp [sizeLine], ?_⟩
  decreasing_trivial_pre_omega
  refine leaves_ok h hs ?_
  intro S1 r hk1 hr hrn
  have hf1 : S1[S.length]? = some (O.lst []) := hk1 _ _ lk_new
  have hk : Kp S S1 := Kp.refl.app.trans hk1
  have hne : r ≠ S.length := fun z => by
    subst z
    rw [lk_new] at hrn; cases hrn
  have hne' := hne.symm
  have hll := lvs_len (stk o)
  decreasing_trivial_pre_omega
  generalize hL : (stk o).flatMap N.lv = L at *
  have hLo : okL L := by rw [← hL]; exact lvs_ok h.stk
  refine for_inv (fun rest γ T => ∃ tl found x y, rest = ms tl ∧ okL tl ∧ γ = [some (od o), some (.ref S.length), x, y] ∧ T[r]? = some (.lst (ms L)) ∧ T[S.length]? = some (.lst found) ∧ Kp S T ∧ (∀ z ∈ found, Ky z) ∧ ded found (tl.flatMap N.colsAt) = ded [] (L.flatMap N.colsAt) ∧ found.length + tl.length ≤ 100000) ?_ ?_ _ _ _ ?_
  · rintro x rest γ T ⟨tl, found, x1, y1, hrest, hok, rfl, h1, h2, h3, h4, h5, h6⟩
    refine ⟨h1, ?_⟩
    cases tl with
    | nil => cases hrest
    | cons n tl =>
      rw [ms_cons] at hrest
      cases hrest
      decreasing_trivial_pre_omega
      have hn : n.ok := hok n (by simp)
      refine columns_at_ok hn ?_
      intro T1 rc k1 g1 gn
      have h1' := k1 _ _ h1
      have h2' := k1 _ _ h2
      have n3 : rc ≠ S.length := fun z => by subst z; rw [h2] at gn; cases gn
      have n4 : rc ≠ r := fun z => by subst z; rw [h1] at gn; cases gn
      have n5 := n3.symm
      have n6 := n4.symm
      have one := N.colsAt_one n
      simp only [List.length_cons] at h6
      have hky := N.colsAt_ky hn
      decreasing_trivial_pre_omega
      refine for_inv (fun rest2 γ T2 => ∃ fnd x y, γ = [some (od o), some (.ref S.length), x, y] ∧ T2[rc]? = some (.lst n.colsAt) ∧ T2[r]? = some (.lst (ms L)) ∧ T2[S.length]? = some (.lst fnd) ∧ Kp S T2 ∧ (∀ z ∈ rest2, Ky z) ∧ (∀ z ∈ fnd, Ky z) ∧ ded fnd rest2 = ded found n.colsAt ∧ fnd.length + rest2.length ≤ found.length + 1) ?_ ?_ _ _ _ ?_
      · rintro c rest2 γ T2 ⟨fnd, x2, y2, rfl, j1, j2, j3, j4, j5, j6, j7, j8⟩
        refine ⟨j1, ?_⟩
        simp only [List.length_cons] at j8
        decreasing_trivial_pre_omega
        refine notin_ok j3 (j5 c (by simp)) j6 ?_
        decreasing_trivial_pre_omega
        rw [ded_cons] at j7
        refine iff_b (fun hm => ?_) (fun hm => ?_)
        · decreasing_trivial_pre_omega
          refine ⟨ty_lst j3, ?_⟩
          decreasing_trivial_pre_omega
          refine m_append j3 (by simp only [sizeLine]; omega) ?_
          decreasing_trivial_pre_omega
          refine ⟨fnd ++ [c], _, _, rfl, by array_get_dec, by array_get_dec, by array_get_dec, j4.set (by simp), fun z hz => j5 z (by simp [hz]), ?_, ?_, by simp; omega⟩
          · intro z hz
            rcases memA hz with hz | hz
            · exact j6 z hz
            · simp at hz; subst hz; exact j5 z (by simp)
          · rw [← j7]; simp at hm; simp [hm]
        · decreasing_trivial_pre_omega
          refine ⟨fnd, _, _, rfl, j1, j2, j3, j4, fun z hz => j5 z (by simp [hz]), j6, ?_, by omega⟩
          rw [← j7]; simp at hm; simp [hm]
      · rintro γ T2 ⟨fnd, x2, y2, rfl, j1, j2, j3, j4, j5, j6, j7, j8⟩
        refine ⟨j1, ?_⟩
        decreasing_trivial_pre_omega
        rw [ded_nil] at j7
        refine ⟨tl, fnd, _, _, rfl, fun m hm => hok m (by simp [hm]), rfl, j2, j3, j4, j6, ?_, ?_⟩
        · rw [← h5, j7, List.flatMap_cons, ded_app]
        · simp at j8; omega
      · refine ⟨found, _, _, rfl, g1, h1', h2', h3.trans k1, hky, h4, rfl, by omega⟩
  · rintro γ T ⟨tl, found, x1, y1, hrest, hok, rfl, h1, h2, h3, h4, h5, h6⟩
    refine ⟨h1, ?_⟩
    have : tl = [] := by cases tl with
      | nil => rfl
      | cons b m => cases hrest
    subst this
    decreasing_trivial_pre_omega
    have e : found = ded [] (colsOf o) := by rw [colsOf, hL, ← h5]; rfl
    rw [e]
    exact q _ h3
  · exact ⟨L, [], none, none, rfl, hLo, rfl, hr, hf1, hk, by simp, rfl, by simp; omega⟩
def aggAt (n : N) : List D := if n.w = "agg" then [n.d] else []
def aggsOf (o : Option N) : List D := ((stk o).flatMap N.lv).flatMap aggAt
theorem agg_ky {n : N} (h : n.ok) (e : (n.w == ("agg" : Str)) = true) : Ky n.d := by
  obtain ⟨xs, c, rfl⟩ := N.w_agg h e
  exact h.2.2.1
theorem aggs_in_ok {o : Option N} (h : okO o) (hs : tot (stk o) ≤ 100000) {k : Nat} {S : Sto} {Q : D → Sto → Prop} (q : ∀ S', Kp S S' → Q (.tup (ded [] (aggsOf o))) S') : w1 (den (k + 3) .aggs_in) [od o] S Q := by
  refine w_body ?_
  unfold b_aggs_in
  decreasing_trivial_pre_omega
  refine ⟨by simp [sizeLine], ?_⟩
  decreasing_trivial_pre_omega
  refine leaves_ok h hs ?_
  intro S1 r hk1 hr hrn
  have hf1 : S1[S.length]? = some (O.lst []) := hk1 _ _ lk_new
  have hk : Kp S S1 := Kp.refl.app.trans hk1
  have hne : r ≠ S.length := fun z => by
    subst z
    rw [lk_new] at hrn; cases hrn
  have hne' := hne.symm
  have hll := lvs_len (stk o)
  decreasing_trivial_pre_omega
  generalize hL : (stk o).flatMap N.lv = L at *
  have hLo : okL L := by rw [← hL]; exact lvs_ok h.stk
  refine for_inv (fun rest γ T => ∃ tl found x, rest = ms tl ∧ okL tl ∧ γ = [some (od o), some (.ref S.length), x] ∧ T[r]? = some (.lst (ms L)) ∧ T[S.length]? = some (.lst found) ∧ Kp S T ∧ (∀ z ∈ found, Ky z) ∧ ded found (tl.flatMap aggAt) = ded [] (L.flatMap aggAt) ∧ found.length + tl.length ≤ 100000) ?_ ?_ _ _ _ ?_
  · rintro x rest γ T ⟨tl, found, x1, hrest, hok, rfl, h1, h2, h3, h4, h5, h6⟩
    refine ⟨h1, ?_⟩
    cases tl with
    | nil => cases hrest
    | cons n tl =>
      rw [ms_cons] at hrest
      cases hrest
      have hn : n.ok := hok n (by simp)
      obtain ⟨l, e3⟩ := N.d_w n
      simp only [List.length_cons] at h6
      rw [List.flatMap_cons, ded_app] at h5
      rw [e3]
      decreasing_trivial_pre_omega
      refine iff_b (fun ha => ?_) (fun ha => ?_)
      · decreasing_trivial_pre_omega
        rw [← e3]
        refine notin_ok h2 (agg_ky hn ha) h4 ?_
        decreasing_trivial_pre_omega
        have e4 : aggAt n = [n.d] := by unfold aggAt; rw [if_pos (by simpa using ha)]
        rw [e4, ded_cons, ded_nil] at h5
        refine iff_b (fun hm => ?_) (fun hm => ?_)
        · decreasing_trivial_pre_omega
          refine ⟨ty_lst h2, ?_⟩
          decreasing_trivial_pre_omega
          refine m_append h2 (by simp only [sizeLine]; omega) ?_
          decreasing_trivial_pre_omega
          refine ⟨tl, found ++ [n.d], _, rfl, fun m hm => hok m (by simp [hm]), rfl, by array_get_dec, by array_get_dec, h3.set (by simp), ?_, ?_, by simp; omega⟩
          · intro z hz
            rcases memA hz with hz | hz
            · exact h4 z hz
            · simp at hz; subst hz; exact agg_ky hn ha
          · rw [← h5]; simp at hm; simp [hm]
        · decreasing_trivial_pre_omega
          refine ⟨tl, found, _, rfl, fun m hm => hok m (by simp [hm]), rfl, h1, h2, h3, h4, ?_, by omega⟩
          rw [← h5]; simp at hm; simp [hm]
      · have e4 : aggAt n = [] := by unfold aggAt; rw [if_neg (by simpa using ha)]
        rw [e4, ded_nil] at h5
        refine iff_f ?_
        decreasing_trivial_pre_omega
        exact ⟨tl, found, _, rfl, fun m hm => hok m (by simp [hm]), rfl, h1, h2, h3, h4, h5, by omega⟩
  · rintro γ T ⟨tl, found, x1, hrest, hok, rfl, h1, h2, h3, h4, h5, h6⟩
    refine ⟨h1, ?_⟩
    have : tl = [] := by cases tl with
      | nil => rfl
      | cons b m => cases hrest
    subst this
    decreasing_trivial_pre_omega
    have e : found = ded [] (aggsOf o) := by rw [aggsOf, hL, ← h5]; rfl
    rw [e]
    exact q _ h3
  · exact ⟨L, [], none, rfl, hLo, rfl, hr, hf1, hk, by simp, rfl, by simp; omega⟩
/-! ### the law's own going through -/
def isTupD : D → Bool
  | .tup _ => true
  | _ => false
theorem isTupD_flat {x : D} (h : flatD x = true) : isTupD x = false := by
  cases x <;> simp [flatD] at h <;> rfl
theorem k_tups {n i : Nat} {γ : Sl} {T : Sto} {Q : Sto → Prop} {xs : List D} (hi : i < γ.length) (hn : T[n]? = some (.lst [])) (hl : xs.length ≤ 1000000) (hP : ∀ x ∈ xs, flatD x = true ∨ ∃ c, x = .tup c)
    (q : ∀ T' : Sto, (∀ (j : Nat) (o : O), j ≠ n → T[j]? = some o → T'[j]? = some o) → T'[n]? = some (.lst (xs.filter isTupD)) → Q T') : wK none (.one i) (truC (isiM "tuple" (varM i))) (varM i) γ n xs T Q := by
  have hv : ∀ x : D, (γ.set i (some x))[i]? = some (some x) := fun x => List.getElem?_set_self hi
  refine k_filter (p := isTupD) (P := fun x => flatD x = true ∨ ∃ c, x = .tup c) hn hl hP (fun _ _ => trivial) ?_ ?_ q
  · rintro x T Q' (hx | ⟨c, rfl⟩) hQ
    · refine c_tru ?_
      refine v_isi ?_
      refine v_var (hv x) ?_
      refine ty_flat hx ?_
      decreasing_trivial_pre_omega
      rw [isTupD_flat hx] at hQ; exact hQ
    · refine c_tru ?_
      refine v_isi ?_
      refine v_var (hv _) ?_
      refine ty_tup.mpr ?_
      decreasing_trivial_pre_omega
      exact hQ
  · intro x T Q' _ hQ
    exact v_var (hv x) hQ
namespace N
theorem d_tup (n : N) : ∃ c, n.d = .tup c := by
  obtain ⟨r, e⟩ := n.d_w
  exact ⟨_, e⟩
theorem isT (n : N) : isTupD n.d = true := by
  obtain ⟨r, e⟩ := n.d_w
  rw [e]; rfl
theorem w_ex : ∀ {n : N}, n.ok → (n.w == ("exists" : Str)) = true → n.lkids = []
  | col xs, h, e => rfl
  | agg xs c, h, e => by exact absurd e (by simp only [N.w]; decide +kernel)
  | atm w xs, h, e => rfl
  | un w a, h, e => by
    rcases h.1 with rfl | rfl | rfl | rfl <;> exact absurd e (by simp only [N.w]; decide +kernel)
  | inn a q, h, e => by exact absurd e (by simp only [N.w]; decide +kernel)
  | two w p a b, h, e => by
    rcases h.1 with ⟨rfl | rfl | rfl | rfl | rfl, _⟩ | ⟨rfl, z, _⟩ <;> exact absurd e (by simp only [N.w]; decide +kernel)
theorem w_in : ∀ {n : N}, n.ok → (n.w == ("in" : Str)) = true → ∃ a q, n = .inn a q
  | col xs, h, e => by exact absurd e (by simp only [N.w]; decide +kernel)
  | agg xs c, h, e => by exact absurd e (by simp only [N.w]; decide +kernel)
  | atm w xs, h, e => by
    rcases h.1 with ⟨rfl | rfl, _⟩ | rfl <;> exact absurd e (by simp only [N.w]; decide +kernel)
  | un w a, h, e => by
    rcases h.1 with rfl | rfl | rfl | rfl <;> exact absurd e (by simp only [N.w]; decide +kernel)
  | inn a q, h, e => ⟨a, q, rfl⟩
  | two w p a b, h, e => by
    rcases h.1 with ⟨rfl | rfl | rfl | rfl | rfl, _⟩ | ⟨rfl, z, _⟩ <;> exact absurd e (by simp only [N.w]; decide +kernel)
/-- the parts of what is neither exists, a column nor in -/
theorem tail_tups : ∀ {n : N}, n.ok → (n.w == ("exists" : Str)) = false → (n.w == ("col" : Str)) = false → (n.w == ("in" : Str)) = false → ∀ r, n.d = .tup (.str n.w :: r) →
    (∀ x ∈ r, flatD x = true ∨ ∃ c, x = .tup c) ∧ r.filter isTupD = ms n.lkids ∧ r.length ≤ 20
  | col xs, h, e1, e2, e3, r, hr => by exact absurd e2 (by simp only [N.w]; decide +kernel)
  | agg xs none, h, e1, e2, e3, r, hr => by
    simp only [N.d] at hr
    cases hr
    refine ⟨fun x hx => .inl (h.1 x hx), ?_, by have := h.2.1; omega⟩
    rw [flats_filter (fun x => isTupD_flat) h.1]; rfl
  | agg xs (some c), h, e1, e2, e3, r, hr => by
    simp only [N.d] at hr
    cases hr
    refine ⟨fun x hx => ?_, ?_, by have := h.2.1; simp; omega⟩
    · rcases memA hx with hx | hx
      · exact .inl (h.1 x hx)
      · simp at hx; subst hx; exact .inr ⟨_, rfl⟩
    · rw [List.filter_append, flats_filter (fun x => isTupD_flat) h.1]; rfl
  | atm w xs, h, e1, e2, e3, r, hr => by
    simp only [N.d] at hr
    cases hr
    rcases h.1 with ⟨hw, hf⟩ | hw
    · refine ⟨fun x hx => .inl (hf x hx), ?_, by have := h.2.1; omega⟩
      rw [flats_filter (fun x => isTupD_flat) hf]; rfl
    · simp [N.w, hw] at e1
  | un w a, h, e1, e2, e3, r, hr => by
    simp only [N.d] at hr
    cases hr
    refine ⟨fun x hx => ?_, ?_, by simp⟩
    · simp at hx; subst hx; exact .inr a.d_tup
    · simp [List.filter_cons, N.isT, ms, lkids, kids]
  | inn a q, h, e1, e2, e3, r, hr => by exact absurd e3 (by simp only [N.w]; decide +kernel)
  | two w p a b, h, e1, e2, e3, r, hr => by
    simp only [N.d] at hr
    cases hr
    rcases h.1 with ⟨_, rfl⟩ | ⟨_, z, rfl⟩
    · refine ⟨fun x hx => ?_, ?_, by simp⟩
      · simp at hx
        rcases hx with rfl | rfl
        · exact .inr a.d_tup
        · exact .inr b.d_tup
      · simp [List.filter_cons, N.isT, ms, lkids, kids]
    · refine ⟨fun x hx => ?_, ?_, by simp⟩
      · simp at hx
        rcases hx with rfl | rfl | rfl
        · exact .inl rfl
        · exact .inr a.d_tup
        · exact .inr b.d_tup
      · simp [List.filter_cons, N.isT, ms, lkids, kids, show isTupD (.str z) = false from rfl]
theorem lkids_tot : ∀ n : N, tot n.lkids + 1 = n.sz
  | col xs => by simp [lkids, kids, sz, tot]
  | agg xs none => by simp [lkids, kids, sz, tot]
  | agg xs (some c) => by simp [lkids, kids, sz, tot]
  | atm w xs => by simp [lkids, kids, sz, tot]
  | un w a => by simp [lkids, kids, sz, tot]
  | inn a q => by simp [lkids, kids, sz, tot]
  | two w p a b => by simp [lkids, kids, sz, tot]
end N
theorem lparts_ok {n : N} (h : n.ok) {k : Nat} {S : Sto} {Q : D → Sto → Prop} (q : ∀ S' r, Kp S S' → S'[r]? = some (.lst (ms n.lkids)) → S[r]? = none → Q (.ref r) S') : w1 (den (k + 1) ._law_parts) [n.d] S Q := by
  obtain ⟨l, e3⟩ := N.d_w n
  refine w_body ?_
  unfold b__law_parts
  rw [e3]
  decreasing_trivial_pre_omega
  refine iff_f ?_
  decreasing_trivial_pre_omega
  refine iff_b (fun he => ?_) (fun he => ?_)
  · refine iff_t ?_
    decreasing_trivial_pre_omega
    refine ⟨by simp [sizeLine], ?_⟩
    decreasing_trivial_pre_omega
    refine q _ _ Kp.refl.app ?_ (by simp)
    rw [N.w_ex h he]; exact lk_new
  · decreasing_trivial_pre_omega
    refine iff_b (fun hc => ?_) (fun hc => ?_)
    · decreasing_trivial_pre_omega
      refine ⟨by simp [sizeLine], ?_⟩
      decreasing_trivial_pre_omega
      obtain ⟨xs, rfl⟩ := N.w_col h hc
      exact q _ _ Kp.refl.app lk_new (by simp)
    · decreasing_trivial_pre_omega
      refine iff_b (fun hi => ?_) (fun hi => ?_)
      · obtain ⟨a, b, rfl⟩ := N.w_in h hi
        have : l = [a.d, b] := by simp only [N.d] at e3; cases e3; rfl
        subst this
        decreasing_trivial_pre_omega
        refine ⟨by simp [sizeLine], ?_⟩
        decreasing_trivial_pre_omega
        exact q _ _ Kp.refl.app lk_new (by simp)
      · obtain ⟨t1, t2, t3⟩ := N.tail_tups h he hc hi l e3
        decreasing_trivial_pre_omega
        rw [show cutX (D.str n.w :: l) (some 1) none = l from cut_post [D.str n.w] l]
        refine k_tups (by simp [wipeD]) lk_new (by omega) t1 ?_
        intro T h1 h2
        decreasing_trivial_pre_omega
        refine q T _ (fun j o e => h1 j o (Kp.ne e) (lk_app e)) ?_ (by simp)
        rw [h2, t2]
theorem lparts_non {k : Nat} {S : Sto} {Q : D → Sto → Prop} (q : ∀ S' r, Kp S S' → S'[r]? = some (.lst []) → S[r]? = none → Q (.ref r) S') : w1 (den (k + 1) ._law_parts) [.non] S Q := by
  refine w_body ?_
  unfold b__law_parts
  decreasing_trivial_pre_omega
  refine iff_t ?_
  decreasing_trivial_pre_omega
  refine iff_t ?_
  decreasing_trivial_pre_omega
  refine ⟨by simp [sizeLine], ?_⟩
  decreasing_trivial_pre_omega
  exact q _ _ Kp.refl.app lk_new (by simp)
theorem split_ok {n : N} (h : n.ok) (hs : n.sz ≤ 20000) {k : Nat} {S : Sto} {Q : D → Sto → Prop} (q : ∀ S', Kp S S' → Q (.tup (ms n.mem)) S') : w1 (den (k + 1) ._law_split) [n.d] S Q := by
  refine w_body ?_
  unfold b__law_split
  decreasing_trivial_pre_omega
  refine ⟨by simp [sizeLine], ?_⟩
  decreasing_trivial_pre_omega
  refine ⟨by simp [sizeLine], ?_⟩
  decreasing_trivial_pre_omega
  refine ⟨by decide, ?_⟩
  have e0 : (S ++ [O.lst []]).length = S.length + 1 := by simp
  have n1 : S.length ≠ S.length + 1 := by omega
  have n2 : S.length + 1 ≠ S.length := by omega
  refine for_inv (fun rest γ T => ∃ x y found st, γ = [some n.d, some (.ref S.length), some (.ref (S.length + 1)), x, y] ∧ T[S.length]? = some (.lst (ms found)) ∧ T[S.length + 1]? = some (.lst (ms st)) ∧ Kp S T ∧ okL st ∧
    found ++ st.reverse.flatMap N.mem = n.mem ∧ tot st ≤ rest.length ∧ found.length + tot st ≤ 100000) ?_ ?_ _ _ _ ?_
  · rintro z rest γ T ⟨x, x2, found, st, rfl, hf, hw, hk, ho, ht, hm, hl⟩
    refine ⟨trivial, ?_⟩
    decreasing_trivial_pre_omega
    rw [ms_length]
    simp only [List.length_cons] at hm
    rcases last_cases st with rfl | ⟨st, y, rfl⟩
    · refine iff_t ?_
      decreasing_trivial_pre_omega
      simp at ht
      subst ht
      exact q _ hk
    · have : (((st ++ [y]).length : Int) == 0) = false := by simp; omega
      rw [this]
      refine iff_f ?_
      decreasing_trivial_pre_omega
      refine ⟨ty_lst hw, ?_⟩
      rw [ms_app] at hw
      decreasing_trivial_pre_omega
      refine m_pop hw ?_
      decreasing_trivial_pre_omega
      have hy : y.ok := ho y (by simp)
      obtain ⟨r, e⟩ := N.d_w y
      rw [e]
      decreasing_trivial_pre_omega
      rw [← e]
      rw [tot_app, tot_one] at hm hl
      have hyp := N.sz_pos y
      rw [List.reverse_append, List.flatMap_append] at ht
      simp only [List.reverse_cons, List.reverse_nil, List.nil_append, List.flatMap_cons, List.flatMap_nil, List.append_nil] at ht
      have lst := len_tot st
      have lms := ms_length st
      have lmf := ms_length found
      refine iff_b (fun ha => ?_) (fun ha => ?_)
      · obtain ⟨a, b, rfl, oa, ob⟩ := N.isAnd hy ha
        decreasing_trivial_pre_omega
        refine ⟨ty_lst (xs := ms st) (by array_get_dec), ?_⟩
        show wA (consA (binM ixF (varM 4) (conM (D.int 2))) nilA) [_, _, _, _, some (D.tup [.str "and", a.d, b.d])] _ _
        decreasing_trivial_pre_omega
        refine m_append (xs := ms st) (by array_get_dec) (by simp only [sizeLine]; omega) ?_
        decreasing_trivial_pre_omega
        refine ⟨ty_lst (xs := ms st ++ [b.d]) (by array_get_dec), ?_⟩
        decreasing_trivial_pre_omega
        refine m_append (xs := ms st ++ [b.d]) (by array_get_dec) (by simp only [sizeLine, List.length_append, List.length_singleton]; omega) ?_
        decreasing_trivial_pre_omega
        simp only [N.sz, N.mem] at hm ht hl
        refine ⟨_, _, found, st ++ [b] ++ [a], rfl, by array_get_dec, ?_, ?_, ?_, ?_, ?_, ?_⟩
        · rw [ms_snoc, ms_snoc]; array_get_dec
        · exact ((hk.set (by simp)).set (by simp)).set (by simp)
        · exact (okL.left ho).app (okL.one.mpr ob) |>.app (okL.one.mpr oa)
        · rw [← ht]; simp
        · simp only [tot_app, tot_one]; omega
        · simp only [tot_app, tot_one]; omega
      · decreasing_trivial_pre_omega
        refine ⟨ty_lst (xs := ms found) (by array_get_dec), ?_⟩
        decreasing_trivial_pre_omega
        refine m_append (xs := ms found) (by array_get_dec) (by simp only [sizeLine]; omega) ?_
        decreasing_trivial_pre_omega
        refine ⟨_, _, found ++ [y], st, rfl, ?_, by array_get_dec, ?_, okL.left ho, ?_, by omega, ?_⟩
        · rw [ms_snoc]; array_get_dec
        · exact (hk.set (by simp)).set (by simp)
        · rw [← ht, N.mem_not ha]; simp
        · simp; omega
  · rintro γ T ⟨x, x2, found, st, rfl, hf, hw, hk, ho, ht, hm, hl⟩
    refine ⟨trivial, ?_⟩
    have := len_tot st
    have : st = [] := by
      cases st with
      | nil => rfl
      | cons a b => simp at *; omega
    subst this
    decreasing_trivial_pre_omega
    simp at ht
    subst ht
    exact q _ hk
  · refine ⟨none, none, [], [n], ?_, lk_app lk_new, ?_, ?_, okL.one.mpr h, by simp, ?_, ?_⟩
    · rw [e0]; rfl
    · rw [← e0]; exact lk_new
    · exact Kp.refl.app.app
    · rw [tot_one]; simp [rngD]; exact hs
    · rw [tot_one]; simp; omega
namespace N
def ord : N → List N
  | col xs => [col xs]
  | agg xs none => [agg xs none]
  | agg xs (some c) => [agg xs (some c), col c]
  | atm w xs => [atm w xs]
  | un w a => un w a :: ord a
  | inn a q => inn a q :: ord a
  | two w p a b => two w p a b :: (ord a ++ ord b)
theorem ord_eq : ∀ n : N, n.ord = n :: n.lkids.flatMap ord
  | col xs => by simp [ord, lkids, kids]
  | agg xs none => by simp [ord, lkids, kids]
  | agg xs (some c) => by simp [ord, lkids, kids]
  | atm w xs => by simp [ord, lkids, kids]
  | un w a => by simp [ord, lkids, kids]
  | inn a q => by simp [ord, lkids, kids]
  | two w p a b => by simp [ord, lkids, kids]
theorem ord_sz : ∀ n : N, n.ord.length = n.sz
  | col xs => by simp [ord, sz]
  | agg xs none => by simp [ord, sz]
  | agg xs (some c) => by simp [ord, sz]
  | atm w xs => by simp [ord, sz]
  | un w a => by simp [ord, sz, ord_sz a]
  | inn a q => by simp [ord, sz, ord_sz a]
  | two w p a b => by simp [ord, sz, ord_sz a, ord_sz b]
def hits (z : Str) (n : N) : List D := if n.w = z then [n.d] else []
end N
def seqO : Option N → List N
  | none => []
  | some n => n.ord
def szO : Option N → Nat
  | none => 1
  | some n => n.sz
def os (st : List (Option N)) : List D := st.map od
def totO (st : List (Option N)) : Nat := (st.map szO).sum
theorem totO_app (a b : List (Option N)) : totO (a ++ b) = totO a + totO b := by simp [totO]
theorem len_totO : ∀ l : List (Option N), l.length ≤ totO l
  | [] => by simp [totO]
  | o :: l => by
    have h := len_totO l
    have : 0 < szO o := by
      cases o with
      | none => simp [szO]
      | some n => exact n.sz_pos
    have e : totO (o :: l) = szO o + totO l := by simp [totO]
    (simp only [List.length_cons]; omega)
theorem totO_some (l : List N) : totO (l.map some) = tot l := by simp [totO, tot, szO, Function.comp_def]
theorem totO_rev (l : List (Option N)) : totO l.reverse = totO l := by simp [totO]
theorem ky_hit {n : N} (h : n.ok) {z : Str} (hz : z = "col" ∨ z = "agg") (e : (n.w == z) = true) : Ky n.d := by
  rcases hz with rfl | rfl
  · obtain ⟨xs, rfl⟩ := N.w_col h e
    exact h.2.2
  · exact agg_ky h e
theorem found_ok {o : Option N} (h : okO o) (hs : szO o ≤ 20000) {z : Str} (hz : z = "col" ∨ z = "agg") {k : Nat} {S : Sto} {Q : D → Sto → Prop} (q : ∀ S', Kp S S' → Q (.tup (ded [] ((seqO o).flatMap (N.hits z)))) S') : w1 (den (k + 2) ._law_found) [od o, .str z] S Q := by
  refine w_body ?_
  unfold b__law_found
  decreasing_trivial_pre_omega
  refine ⟨by simp [sizeLine], ?_⟩
  decreasing_trivial_pre_omega
  refine ⟨by simp [sizeLine], ?_⟩
  decreasing_trivial_pre_omega
  refine ⟨by decide, ?_⟩
  have e0 : (S ++ [O.lst []]).length = S.length + 1 := by simp
  refine for_inv (fun rest γ T => ∃ x y r3 found st, γ = [some (od o), some (.str z), some (.ref S.length), some (.ref r3), x, y] ∧ T[S.length]? = some (.lst found) ∧ T[r3]? = some (.lst (os st)) ∧ r3 ≠ S.length ∧ S[r3]? = none ∧ Kp S T ∧ (∀ o ∈ st, okO o) ∧ (∀ x ∈ found, Ky x) ∧
    ded found (st.reverse.flatMap fun o => (seqO o).flatMap (N.hits z)) = ded [] ((seqO o).flatMap (N.hits z)) ∧ totO st ≤ rest.length ∧ found.length + totO st ≤ 100000) ?_ ?_ _ _ _ ?_
  · rintro x rest γ T ⟨x1, x2, r3, found, st, rfl, hf, hw, hne, hnn, hk, ho, hky, ht, hm, hl⟩
    refine ⟨trivial, ?_⟩
    decreasing_trivial_pre_omega
    simp only [List.length_cons] at hm
    rcases last_cases st with rfl | ⟨st, y, rfl⟩
    · refine iff_t ?_
      decreasing_trivial_pre_omega
      simp at ht
      rw [ded_nil] at ht
      subst ht
      exact q _ hk
    · have : (((os (st ++ [y])).length : Int) == 0) = false := by simp [os]; omega
      rw [this]
      refine iff_f ?_
      decreasing_trivial_pre_omega
      refine ⟨ty_lst hw, ?_⟩
      have e1 : os (st ++ [y]) = os st ++ [od y] := by simp [os]
      rw [e1] at hw
      decreasing_trivial_pre_omega
      refine m_pop hw ?_
      decreasing_trivial_pre_omega
      have hy : okO y := ho y (by simp)
      have hst : ∀ o ∈ st, okO o := fun o ho' => ho o (by simp [ho'])
      rw [totO_app] at hm hl
      have hy1 : totO [y] = szO y := by simp [totO]
      rw [hy1] at hm hl
      rw [List.reverse_append, List.flatMap_append] at ht
      simp only [List.reverse_cons, List.reverse_nil, List.nil_append, List.flatMap_cons, List.flatMap_nil, List.append_nil] at ht
      have lst := len_totO st
      have hne' := hne.symm
      -- the stack's new list
      have tail : ∀ (T : Sto) (fnd : List D), T[S.length]? = some (.lst fnd) → T[r3]? = some (.lst (os st)) → Kp S T → (∀ x ∈ fnd, Ky x) → fnd.length + totO st + szO y ≤ 100001 →
          (∀ n, y = some n → ded fnd ((n.lkids.flatMap N.ord).flatMap (N.hits z) ++ st.reverse.flatMap fun o => (seqO o).flatMap (N.hits z)) = ded [] ((seqO o).flatMap (N.hits z))) →
          (y = none → ded fnd (st.reverse.flatMap fun o => (seqO o).flatMap (N.hits z)) = ded [] ((seqO o).flatMap (N.hits z))) →
          wS (asgM (binM addF (varM 3) (lrevM (callM 1 (den (k + 1) ._law_parts) (consA (varM 5) nilA)))) (nameG 3)) [some (od o), some (.str z), some (.ref S.length), some (.ref r3), some x, some (od y)] T
            (turnQ (fun γ T => ∃ x y r3 found st, γ = [some (od o), some (.str z), some (.ref S.length), some (.ref r3), x, y] ∧ T[S.length]? = some (.lst found) ∧ T[r3]? = some (.lst (os st)) ∧ r3 ≠ S.length ∧ S[r3]? = none ∧ Kp S T ∧ (∀ o ∈ st, okO o) ∧ (∀ x ∈ found, Ky x) ∧
    ded found (st.reverse.flatMap fun o => (seqO o).flatMap (N.hits z)) = ded [] ((seqO o).flatMap (N.hits z)) ∧ totO st ≤ rest.length ∧ found.length + totO st ≤ 100000) (thenQ (rtM (appM tupleF (consA (varM 2) nilA))) (retQ Q))) := by
        intro T fnd g1 g2 g3 g4 g5 g6 g7
        decreasing_trivial_pre_omega
        cases y with
        | none =>
          refine lparts_non ?_
          intro T1 r k1 hr hrn
          have j1 := k1 _ _ g1
          have j2 := k1 _ _ g2
          decreasing_trivial_pre_omega
          refine ⟨_, hr, ?_⟩
          refine o_addL (xs := os st) (ys := [].reverse) (by array_get_dec) lk_new (by simp [os, sizeLine]; omega) ?_
          decreasing_trivial_pre_omega
          refine ⟨_, _, _, fnd, st, rfl, lk_app (lk_app j1), ?_, ?_, ?_, ((g3.trans k1).app).app, hst, g4, g7 rfl, by simp only [szO] at hm; omega, by simp only [szO] at g5; omega⟩
          · have : os st ++ ([] : List D).reverse = os st := by simp
            rw [this]; exact lk_new
          · exact (Kp.ne (lk_app j1)).symm
          · have := (g3.trans k1).len
            rw [List.getElem?_eq_none]; simp; omega
        | some n =>
          have hn : n.ok := hy n rfl
          refine lparts_ok hn ?_
          intro T1 r k1 hr hrn
          have j1 := k1 _ _ g1
          have j2 := k1 _ _ g2
          decreasing_trivial_pre_omega
          refine ⟨_, hr, ?_⟩
          have lt := N.lkids_tot n
          have ll := len_tot n.lkids
          simp only [szO] at g5 hm
          refine o_addL (xs := os st) (ys := (ms n.lkids).reverse) (by array_get_dec) lk_new (by simp [os, ms, sizeLine]; omega) ?_
          decreasing_trivial_pre_omega
          have er : os st ++ (ms n.lkids).reverse = os (st ++ (n.lkids.map some).reverse) := by simp [os, ms, od, Function.comp_def]
          rw [er]
          refine ⟨_, _, _, fnd, _, rfl, lk_app (lk_app j1), lk_new, (Kp.ne (lk_app j1)).symm, ?_, ((g3.trans k1).app).app, ?_, g4, ?_, ?_, ?_⟩
          · have := (g3.trans k1).len
            rw [List.getElem?_eq_none]; simp; omega
          · intro o' ho'
            rcases memA ho' with ho' | ho'
            · exact hst o' ho'
            · simp at ho'
              obtain ⟨m, hm', rfl⟩ := ho'
              intro m2 e2; cases e2
              exact N.ok_lkids hn _ hm'
          · rw [← g6 n rfl]
            congr 1
            simp [List.flatMap_append, List.flatMap_map, List.flatMap_assoc, seqO]
          · rw [totO_app, totO_rev, totO_some]; omega
          · rw [totO_app, totO_rev, totO_some]; omega
      have wset : (T.set r3 (.lst (os st)))[S.length]? = some (.lst found) := by array_get_dec
      have wset2 : (T.set r3 (.lst (os st)))[r3]? = some (.lst (os st)) := by array_get_dec
      have wk : Kp S (T.set r3 (.lst (os st))) := hk.set hnn
      cases y with
      | none =>
        refine iff_f ?_
        decreasing_trivial_pre_omega
        refine iff_f ?_
        refine s_nx (th_nx ?_)
        exact tail _ found wset wset2 wk hky (by omega) (fun n e => by cases e) (fun _ => by simpa [seqO] using ht)
      | some n =>
        have hn : n.ok := hy n rfl
        obtain ⟨l, e3⟩ := N.d_w n
        have hnn2 : (!isN (od (some n))) = true := by simp [od, isN_d]
        rw [hnn2]
        refine iff_t ?_
        decreasing_trivial_pre_omega
        show w2 ixF n.d _ _ _
        rw [e3]
        decreasing_trivial_pre_omega
        have ho1 : seqO (some n) = n :: n.lkids.flatMap N.ord := N.ord_eq n
        rw [ho1, List.flatMap_cons, List.append_assoc, ded_app] at ht
        refine iff_b (fun hz1 => ?_) (fun hz1 => ?_)
        · decreasing_trivial_pre_omega
          have hh : n.hits z = [n.d] := by unfold N.hits; rw [if_pos (by simpa using hz1)]
          rw [hh, ded_cons, ded_nil] at ht
          refine notin_ok wset (ky_hit hn hz hz1) hky ?_
          decreasing_trivial_pre_omega
          refine iff_b (fun hmm => ?_) (fun hmm => ?_)
          · decreasing_trivial_pre_omega
            refine ⟨ty_lst wset, ?_⟩
            decreasing_trivial_pre_omega
            refine m_append wset (by simp only [sizeLine]; omega) ?_
            refine th_nx ?_
            have hmm : memB n.d found = _ := Bool.not_eq_eq_eq_not.mp hmm
            rw [hmm] at ht
            refine tail _ (found ++ [n.d]) (lk_set wset) (lk_ne hne wset2) (wk.set (by simp)) ?_ ?_ (fun n' e => ?_) (fun e => by cases e)
            · intro x hx
              rcases memA hx with hx | hx
              · exact hky x hx
              · have hx := List.mem_singleton.mp hx; subst hx; exact ky_hit hn hz hz1
            · simp; omega
            · cases e; simpa using ht
          · refine s_nx (th_nx ?_)
            have hmm : memB n.d found = _ := Bool.not_eq_eq_eq_not.mp hmm
            rw [hmm] at ht
            exact tail _ found wset wset2 wk hky (by omega) (fun n' e => by cases e; simpa using ht) (fun e => by cases e)
        · have hh : n.hits z = [] := by unfold N.hits; rw [if_neg (by simpa using hz1)]
          rw [hh, ded_nil] at ht
          refine iff_f ?_
          refine s_nx (th_nx ?_)
          exact tail _ found wset wset2 wk hky (by omega) (fun n' e => by cases e; exact ht) (fun e => by cases e)
  · rintro γ T ⟨x1, x2, r3, found, st, rfl, hf, hw, hne, hnn, hk, ho, hky, ht, hm, hl⟩
    refine ⟨trivial, ?_⟩
    have := len_totO st
    have : st = [] := by
      cases st with
      | nil => rfl
      | cons a b => simp at *; omega
    subst this
    decreasing_trivial_pre_omega
    simp at ht
    rw [ded_nil] at ht
    subst ht
    exact q _ hk
  · refine ⟨none, none, (S ++ [O.lst []]).length, [], [o], ?_, lk_app lk_new, ?_, ?_, ?_, Kp.refl.app.app, ?_, by simp, by simp, ?_, ?_⟩
    · rfl
    · exact lk_new
    · simp
    · simp
    · intro o' ho'; simp at ho'; subst ho'; exact h
    · simp [totO, rngD]; exact hs
    · simp [totO]; omega
theorem lkids_agg {n : N} (h : n.ok) : (n.w == ("agg" : Str)) = false → n.lkids = n.kids := by
  intro e
  cases n with
  | agg xs c => exact absurd e (by simp only [N.w]; decide +kernel)
  | _ => rfl
theorem kids_agg {n : N} (h : n.ok) : (n.w == ("agg" : Str)) = true → n.kids = [] := by
  intro e
  obtain ⟨xs, c, rfl⟩ := N.w_agg h e
  rfl
theorem hts_pos {n : N} {l : List N} : 0 < hts (n :: l) := by simp only [hts, List.foldr_cons]; omega
theorem levels_ok {o : Option N} (h : okO o) (hs : tot (stk o) ≤ 100000) (hh : hts (stk o) ≤ 400) {k : Nat} {S : Sto} {Q : D → Sto → Prop} (q : ∀ S', Kp S S' → Q (.int (hts (stk o) : Nat)) S') : w1 (den (k + 2) ._law_levels) [od o] S Q := by
  refine w_body ?_
  unfold b__law_levels
  decreasing_trivial_pre_omega
  refine ⟨by simp [sizeLine], ?_⟩
  decreasing_trivial_pre_omega
  -- the first row
  refine k_filter (p := fun x => !isN x) (P := fun _ => True) lk_new (by simp) (fun _ _ => trivial) ?_ ?_ ?_ ?_
  · intro T' hT
    have : (T'.set (S ++ [O.lst [od o]]).length (.lst []))[S.length]? = some (.lst [od o]) := hT _ _ (by rw [List.getElem?_set_ne (by simp)]; exact lk_app lk_new)
    rw [List.getElem?_set_ne (by simp)] at this
    exact this
  · intro x T' Q' _ hQ
    decreasing_trivial_pre_omega
    exact hQ
  · intro x T' Q' _ hQ
    decreasing_trivial_pre_omega
    exact hQ
  · intro T h1 h2
    decreasing_trivial_pre_omega
    refine ⟨by decide, ?_⟩
    have e1 : List.filter (fun x => !isN x) [od o] = ms (stk o) := by
      cases o with
      | none => rfl
      | some n => simp [od, isN_d, stk, ms, List.filter_cons]
    rw [e1] at h2
    have hk : Kp S T := fun j u e => h1 j u (by have := Kp.ne e; have := lt_of e; simp; omega) (lk_app (lk_app e))
    refine for_inv (fun rest γ T => ∃ (c r : Nat) (lv : List N) (x y z : Option D), γ = [some (od o), some (.ref r), some (.int c), x, y, z] ∧ T[r]? = some (.lst (ms lv)) ∧ Kp S T ∧ okL lv ∧ c + hts lv = hts (stk o) ∧ tot lv ≤ 100000 ∧ hts lv ≤ rest.length) ?_ ?_ _ _ _ ?_
    · rintro x rest γ T ⟨c, r, lv, x1, y1, z1, rfl, hr, hk, ho, hc, hm, hl⟩
      refine ⟨trivial, ?_⟩
      decreasing_trivial_pre_omega
      rw [ms_length]
      cases lv with
      | nil =>
        refine iff_t ?_
        decreasing_trivial_pre_omega
        simp [hts] at hc
        subst hc
        exact q _ hk
      | cons n lv =>
        have : (((n :: lv).length : Int) == 0) = false := by simp; omega
        rw [this]
        have hpos : 0 < hts (n :: lv) := hts_pos
        refine iff_f ?_
        decreasing_trivial_pre_omega
        refine ⟨by simp [sizeLine], ?_⟩
        decreasing_trivial_pre_omega
        generalize hL : n :: lv = L at *
        have hne : 0 < L.length := by rw [← hL]; simp
        have hb : tot (L.flatMap N.kids) + L.length ≤ tot L := tot_next L
        have hb2 := len_tot (L.flatMap N.kids)
        refine for_inv (fun rest2 γ T2 => ∃ (b : Nat) (tl acc : List N) (y : Option D), rest2 = ms tl ∧ okL tl ∧ γ = [some (od o), some (.ref r), some (.int (c + 1)), some x, some (.ref b), y] ∧ T2[r]? = some (.lst (ms L)) ∧ T2[b]? = some (.lst (ms acc)) ∧ Kp T T2 ∧ acc ++ tl.flatMap N.kids = L.flatMap N.kids) ?_ ?_ _ _ _ ?_
        · rintro u rest2 γ T2 ⟨b, tl, acc, y2, hrest, hok, rfl, g1, g2, g3, g4⟩
          refine ⟨g1, ?_⟩
          cases tl with
          | nil => cases hrest
          | cons t tl =>
            rw [ms_cons] at hrest
            cases hrest
            have ht : t.ok := hok t (by simp)
            have htl : okL tl := fun m hm => hok m (by simp [hm])
            obtain ⟨l, e3⟩ := N.d_w t
            rw [e3]
            decreasing_trivial_pre_omega
            rw [← e3]
            rw [List.flatMap_cons, ← List.append_assoc] at g4
            refine iff_b (fun ha => ?_) (fun ha => ?_)
            · decreasing_trivial_pre_omega
              refine lparts_ok ht ?_
              intro T3 rp k3 hrp hrn
              have j1 := k3 _ _ g1
              have j2 := k3 _ _ g2
              have ha' : (t.w == ("agg" : Str)) = false := by simpa using ha
              have hlen : acc.length + (t.kids.length + (tl.flatMap N.kids).length) = (L.flatMap N.kids).length := by
                rw [← g4]; simp only [List.length_append]; omega
              rw [lkids_agg ht ha'] at hrp
              decreasing_trivial_pre_omega
              refine o_addL (xs := ms acc) (ys := ms t.kids) (by array_get_dec) (by array_get_dec) (by rw [ms_length, ms_length]; simp only [sizeLine]; omega) ?_
              decreasing_trivial_pre_omega
              refine ⟨_, tl, acc ++ t.kids, _, rfl, htl, rfl, lk_app j1, ?_, (g3.trans k3).app, g4⟩
              rw [ms_app]; exact lk_new
            · decreasing_trivial_pre_omega
              have ha' : (t.w == ("agg" : Str)) = true := by simpa using ha
              rw [kids_agg ht ha', List.append_nil] at g4
              exact ⟨b, tl, acc, _, rfl, htl, rfl, g1, g2, g3, g4⟩
        · rintro γ T2 ⟨b, tl, acc, y2, hrest, hok, rfl, g1, g2, g3, g4⟩
          refine ⟨g1, ?_⟩
          have : tl = [] := by cases tl with
            | nil => rfl
            | cons b m => cases hrest
          subst this
          decreasing_trivial_pre_omega
          simp at g4
          have hh2 := hts_next L
          simp only [List.length_cons] at hl
          refine ⟨c + 1, b, acc, _, _, _, rfl, g2, hk.trans g3, by rw [g4]; exact ho.next, ?_, by rw [g4]; omega, by rw [g4, hh2]; omega⟩
          rw [g4, hh2]; omega
        · exact ⟨_, L, [], _, rfl, ho, rfl, lk_app hr, lk_new, Kp.refl.app, rfl⟩
    · rintro γ T ⟨c, r, lv, x1, y1, z1, rfl, hr, hk, ho, hc, hm, hl⟩
      refine ⟨trivial, ?_⟩
      decreasing_trivial_pre_omega
      simp only [List.length_nil] at hl
      have : hts lv = 0 := by omega
      rw [this] at hc
      simp at hc
      subst hc
      exact q _ hk
    · exact ⟨0, _, stk o, none, none, none, rfl, h2, hk, h.stk, by simp, hs, by simp [rngD]; exact hh⟩
theorem o_neI {i j : Int} {S : Sto} {Q : D → Sto → Prop} (q : Q (.bl (!(i == j))) S) : w2 neF (.int i) (.int j) S Q := ⟨_, _, rfl, q⟩
theorem v_callK {γ : Sl} {S : Sto} {Q : D → Sto → Prop} {na nk n : Nat} {is : List Nat} {F} {ra rk : AvM} (h : wA ra γ S fun xs S1 => wA rk γ S1 fun ys S2 => xs.length = na ∧ ys.length = nk ∧ (xs ++ permL is ys).length = n ∧ w1 F (xs ++ permL is ys) S2 Q) : wE (callKM na nk n is F ra rk) γ S Q := by
  obtain ⟨xs, S1, e1, ys, S2, e2, h1, h2, h3, d, S3, e3, q⟩ := h
  refine ⟨d, S3, ?_, q⟩
  unfold callKM
  simp only [e1, e2]
  simp [h1, h2, h3, e3]
theorem ty_k {T : Sto} {x : D} {t T' : String} {b : Bool} (h1 : tyN T x = some t) (h2 : kitB t T' = some b) {Q : Bool → Prop} (q : Q b) : tyQ T' T x Q := ⟨_, _, h1, h2, q⟩
theorem blsD_true : ∀ n : Nat, blsD (List.replicate n (.bl true)) = some (List.replicate n true)
  | 0 => rfl
  | n + 1 => by simp [List.replicate_succ, blsD, blsD_true n]
theorem same_ok : ∀ (k : Nat) (a : D), fit k a → ∀ (K : Nat), k < K → ∀ (S : Sto) (Q : D → Sto → Prop), (∀ S', Kp S S' → Q (.bl true) S') → w1 (den K ._law_same) [a, a] S Q := by
  intro k
  induction k with
  | zero =>
    intro a ha K hK S Q q
    obtain ⟨K, rfl⟩ : ∃ r, K = r + 1 := ⟨K - 1, by omega⟩
    refine w_body ?_
    unfold b__law_same
    decreasing_trivial_pre_omega
    cases a with
    | non => refine iff_t ?_; decreasing_trivial_pre_omega; refine iff_t ?_; decreasing_trivial_pre_omega; refine iff_t ?_; decreasing_trivial_pre_omega; exact q _ .refl
    | bl b =>
      refine iff_f ?_; decreasing_trivial_pre_omega; refine iff_f ?_; decreasing_trivial_pre_omega
      refine ty_k rfl (b := true) (by decide +kernel) ?_; decreasing_trivial_pre_omega; refine iff_t ?_; decreasing_trivial_pre_omega; refine iff_t ?_; decreasing_trivial_pre_omega
      refine ty_k rfl (b := true) (by decide +kernel) ?_; decreasing_trivial_pre_omega; refine iff_t ?_; decreasing_trivial_pre_omega
      refine ty_k rfl (b := true) (by decide +kernel) ?_; decreasing_trivial_pre_omega; refine iff_t ?_; decreasing_trivial_pre_omega
      rw [beq_self_eq_true]; exact q _ .refl
    | int i =>
      refine iff_f ?_; decreasing_trivial_pre_omega; refine iff_f ?_; decreasing_trivial_pre_omega
      refine ty_k rfl (b := false) (by decide +kernel) ?_; decreasing_trivial_pre_omega; refine iff_f ?_; decreasing_trivial_pre_omega
      refine ty_k rfl (b := false) (by decide +kernel) ?_; decreasing_trivial_pre_omega; refine iff_f ?_; decreasing_trivial_pre_omega
      refine ty_k rfl (b := true) (by decide +kernel) ?_; decreasing_trivial_pre_omega; refine iff_t ?_; decreasing_trivial_pre_omega
      refine ty_k rfl (b := true) (by decide +kernel) ?_; decreasing_trivial_pre_omega; refine iff_t ?_; decreasing_trivial_pre_omega
      rw [beq_self_eq_true]; exact q _ .refl
    | str i =>
      refine iff_f ?_; decreasing_trivial_pre_omega; refine iff_f ?_; decreasing_trivial_pre_omega
      refine ty_k rfl (b := false) (by decide +kernel) ?_; decreasing_trivial_pre_omega; refine iff_f ?_; decreasing_trivial_pre_omega
      refine ty_k rfl (b := false) (by decide +kernel) ?_; decreasing_trivial_pre_omega; refine iff_f ?_; decreasing_trivial_pre_omega
      refine ty_k rfl (b := false) (by decide +kernel) ?_; decreasing_trivial_pre_omega; refine iff_f ?_; decreasing_trivial_pre_omega
      refine ty_k rfl (b := true) (by decide +kernel) ?_; decreasing_trivial_pre_omega; refine iff_t ?_; decreasing_trivial_pre_omega
      refine ty_k rfl (b := true) (by decide +kernel) ?_; decreasing_trivial_pre_omega; refine iff_t ?_; decreasing_trivial_pre_omega
      rw [beq_self_eq_true]; exact q _ .refl
    | tup xs => simp [fit, flatD] at ha
    | rl xs => simp [fit, flatD] at ha
    | ref n => simp [fit, flatD] at ha
    | gl n => simp [fit, flatD] at ha
  | succ k ih =>
    intro a ha K hK S Q q
    rcases ha with ha | ⟨xs, rfl, hl, hx⟩
    · exact (fun h0 => by
        obtain ⟨K, rfl⟩ : ∃ r, K = r + 1 := ⟨K - 1, by omega⟩
        refine w_body ?_
        unfold b__law_same
        decreasing_trivial_pre_omega
        cases a with
        | non => refine iff_t ?_; decreasing_trivial_pre_omega; refine iff_t ?_; decreasing_trivial_pre_omega; refine iff_t ?_; decreasing_trivial_pre_omega; exact q _ .refl
        | bl b =>
          refine iff_f ?_; decreasing_trivial_pre_omega; refine iff_f ?_; decreasing_trivial_pre_omega
          refine ty_k rfl (b := true) (by decide +kernel) ?_; decreasing_trivial_pre_omega; refine iff_t ?_; decreasing_trivial_pre_omega; refine iff_t ?_; decreasing_trivial_pre_omega
          refine ty_k rfl (b := true) (by decide +kernel) ?_; decreasing_trivial_pre_omega; refine iff_t ?_; decreasing_trivial_pre_omega
          refine ty_k rfl (b := true) (by decide +kernel) ?_; decreasing_trivial_pre_omega; refine iff_t ?_; decreasing_trivial_pre_omega
          rw [beq_self_eq_true]; exact q _ .refl
        | int i =>
          refine iff_f ?_; decreasing_trivial_pre_omega; refine iff_f ?_; decreasing_trivial_pre_omega
          refine ty_k rfl (b := false) (by decide +kernel) ?_; decreasing_trivial_pre_omega; refine iff_f ?_; decreasing_trivial_pre_omega
          refine ty_k rfl (b := false) (by decide +kernel) ?_; decreasing_trivial_pre_omega; refine iff_f ?_; decreasing_trivial_pre_omega
          refine ty_k rfl (b := true) (by decide +kernel) ?_; decreasing_trivial_pre_omega; refine iff_t ?_; decreasing_trivial_pre_omega
          refine ty_k rfl (b := true) (by decide +kernel) ?_; decreasing_trivial_pre_omega; refine iff_t ?_; decreasing_trivial_pre_omega
          rw [beq_self_eq_true]; exact q _ .refl
        | str i =>
          refine iff_f ?_; decreasing_trivial_pre_omega; refine iff_f ?_; decreasing_trivial_pre_omega
          refine ty_k rfl (b := false) (by decide +kernel) ?_; decreasing_trivial_pre_omega; refine iff_f ?_; decreasing_trivial_pre_omega
          refine ty_k rfl (b := false) (by decide +kernel) ?_; decreasing_trivial_pre_omega; refine iff_f ?_; decreasing_trivial_pre_omega
          refine ty_k rfl (b := false) (by decide +kernel) ?_; decreasing_trivial_pre_omega; refine iff_f ?_; decreasing_trivial_pre_omega
          refine ty_k rfl (b := true) (by decide +kernel) ?_; decreasing_trivial_pre_omega; refine iff_t ?_; decreasing_trivial_pre_omega
          refine ty_k rfl (b := true) (by decide +kernel) ?_; decreasing_trivial_pre_omega; refine iff_t ?_; decreasing_trivial_pre_omega
          rw [beq_self_eq_true]; exact q _ .refl
        | tup xs => simp [flatD] at ha
        | rl xs => simp [flatD] at ha
        | ref n => simp [flatD] at ha
        | gl n => simp [flatD] at ha) ()
    · obtain ⟨K, rfl⟩ : ∃ r, K = r + 1 := ⟨K - 1, by omega⟩
      refine w_body ?_
      unfold b__law_same
      decreasing_trivial_pre_omega
      refine iff_f ?_; decreasing_trivial_pre_omega; refine iff_f ?_; decreasing_trivial_pre_omega
      refine ty_k rfl (b := false) (by decide +kernel) ?_; decreasing_trivial_pre_omega; refine iff_f ?_; decreasing_trivial_pre_omega
      refine ty_k rfl (b := false) (by decide +kernel) ?_; decreasing_trivial_pre_omega; refine iff_f ?_; decreasing_trivial_pre_omega
      refine ty_k rfl (b := false) (by decide +kernel) ?_; decreasing_trivial_pre_omega; refine iff_f ?_; decreasing_trivial_pre_omega
      refine ty_k rfl (b := false) (by decide +kernel) ?_; decreasing_trivial_pre_omega; refine iff_f ?_; decreasing_trivial_pre_omega
      refine ty_k rfl (b := true) (by decide +kernel) ?_; decreasing_trivial_pre_omega; refine iff_f ?_; decreasing_trivial_pre_omega
      refine ty_k rfl (b := true) (by decide +kernel) ?_; decreasing_trivial_pre_omega; refine iff_f ?_; decreasing_trivial_pre_omega
      refine o_neI ?_
      decreasing_trivial_pre_omega
      rw [beq_self_eq_true]
      refine iff_f ?_
      decreasing_trivial_pre_omega
      refine ⟨⟨by omega, by omega⟩, ?_⟩
      refine k_inv (fun rest T => ∃ n m : Nat, rest = (List.range m).map (fun (i : Nat) => D.int ((n + i : Nat) : Int)) ∧ n + m = xs.length ∧ T[S.length]? = some (.lst (List.replicate n (.bl true))) ∧ Kp S T) ?_ ?_ _ _ ?_
      · rintro x rest T ⟨n, m, hr, hnm, ht, hk⟩
        refine ⟨trivial, _, rfl, ?_⟩
        decreasing_trivial_pre_omega
        refine iff_t ?_
        cases m with
        | zero => simp at hr
        | succ m =>
          rw [List.range_succ_eq_map] at hr
          simp only [List.map_cons, List.map_map, Nat.add_zero] at hr
          cases hr
          have hx2 : xs[n]? = some xs[n] := List.getElem?_eq_getElem (by omega)
          decreasing_trivial_pre_omega
          refine o_ixT (at_rng hx2) ?_
          decreasing_trivial_pre_omega
          refine o_ixT (at_rng hx2) ?_
          decreasing_trivial_pre_omega
          refine ih xs[n] (hx _ (List.getElem_mem _)) K (by omega) _ _ ?_
          intro T2 hk2
          refine ⟨_, hk2 _ _ ht, by simp [sizeLine]; omega, n + 1, m, ?_, by omega, ?_, (hk.trans hk2).set (by simp)⟩
          · apply List.map_congr_left
            intro i _
            simp only [Function.comp_apply]
            congr 2
            omega
          · rw [List.replicate_succ']
            exact lk_set (hk2 _ _ ht)
      · rintro T ⟨n, m, hr, hnm, ht, hk⟩
        refine ⟨trivial, ?_⟩
        have hm0 : m = 0 := by
          cases m with
          | zero => rfl
          | succ m => rw [List.range_succ_eq_map] at hr; simp at hr
        decreasing_trivial_pre_omega
        refine f_all ht (blsD_true n) ?_
        decreasing_trivial_pre_omega
        have : (List.replicate n true).all id = true := by simp
        rw [this]
        exact q _ hk
      · refine ⟨0, xs.length, ?_, by omega, lk_new, Kp.refl.app⟩
        simp [rngD]
def look (kvs : List (D × D)) : D → Option D
  | .tup ks => match keyN ks with
    | some k => lookN kvs k
    | none => none
  | _ => none
def lookD (kvs : List (D × D)) (x : D) : D := (look kvs x).getD x
def putN (kvs : List (D × D)) : N → D
  | .col xs => lookD kvs (N.colD xs)
  | .agg xs none => lookD kvs (N.agg xs none).d
  | .agg xs (some c) => (look kvs (N.agg xs (some c)).d).getD (.tup (.str "agg" :: (xs ++ [lookD kvs (N.colD c)])))
  | .atm w xs => (N.atm w xs).d
  | .un w a => .tup [.str w, putN kvs a]
  | .inn a q => .tup [.str "in", putN kvs a, q]
  | .two w p a b => .tup (.str w :: (p ++ [putN kvs a, putN kvs b]))
theorem putN_kids (kvs : List (D × D)) : ∀ {n : N}, n.kids ≠ [] → putN kvs n = .tup (n.pre ++ n.kids.map (putN kvs) ++ n.post)
  | .col xs, e => by simp [N.kids] at e
  | .agg xs c, e => by simp [N.kids] at e
  | .atm w xs, e => by simp [N.kids] at e
  | .un w a, e => by simp [N.kids, putN, N.pre, N.post, N.w]
  | .inn a q, e => by simp [N.kids, putN, N.pre, N.post, N.w]
  | .two w p a b, e => by simp [N.kids, putN, N.pre, N.post]
theorem Ky.look {d : D} (h : Ky d) : ∃ xs k, d = .tup xs ∧ keyN xs = some k ∧ ∀ kvs, Gn.look kvs d = lookN kvs k := by
  obtain ⟨xs, k, rfl, e⟩ := h.key
  exact ⟨xs, k, rfl, e, fun kvs => by simp [Gn.look, e]⟩
theorem getOr_ok {γ : Sl} {S : Sto} {Q : D → Sto → Prop} {i j t : Nat} {lk kvs} {x : D} (h1 : γ[i]? = some (some (.ref t))) (h2 : γ[j]? = some (some x)) (ht : S[t]? = some (.dn lk kvs)) (hx : Ky x) (q : Q (lookD kvs x) S) : wE (getOrM (varM i) (varM j) (varM j)) γ S Q := by
  obtain ⟨ks, k, rfl, e, hl⟩ := hx.look
  refine v_getOr ?_
  refine v_var h1 ?_
  refine ref_i ?_
  refine ⟨_, _, ht, ?_⟩
  refine v_var h2 ?_
  refine tup_i ?_
  refine v_var h2 ?_
  refine ⟨_, _, _, ht, e, ?_⟩
  rw [lookD, hl] at q
  exact q
theorem isColD_col (c : List D) : isColD (N.colD c) = true := rfl
def colTail : Option (List D) → List D
  | none => []
  | some c => [N.colD c]
theorem agg_d (xs : List D) (c : Option (List D)) : (N.agg xs c).d = .tup ((D.str "agg" :: xs) ++ colTail c) := by cases c <;> simp [N.d, colTail]
theorem leaf_repl_ok {n : N} (h : n.ok) (hn : n.kids = []) {t : Nat} {kvs : List (D × D)} {k : Nat} {S : Sto} {Q : D → Sto → Prop} (ht : S[t]? = some (.dn false kvs)) (q : ∀ S', Kp S S' → Q (putN kvs n) S') : w1 (den (k + 2) .leaf_replaced) [n.d, .ref t] S Q := by
  obtain ⟨l, e3⟩ := N.d_w n
  refine w_body ?_
  unfold b_leaf_replaced
  rw [e3]
  decreasing_trivial_pre_omega
  refine iff_b (fun hc => ?_) (fun hc => ?_)
  · obtain ⟨xs, rfl⟩ := N.w_col h hc
    refine s_rt ?_
    rw [← e3]
    refine getOr_ok rfl rfl ht h.2.2 ?_
    decreasing_trivial_pre_omega
    exact q _ .refl
  · decreasing_trivial_pre_omega
    refine iff_b (fun ha => ?_) (fun ha => ?_)
    · decreasing_trivial_pre_omega
      have : putN kvs n = n.d := by
        cases n with
        | col xs => exact absurd hc (by simp only [N.w]; decide +kernel)
        | agg xs c => exact absurd ha (by simp only [N.w]; decide +kernel)
        | atm w xs => rfl
        | un w a => simp [N.kids] at hn
        | inn a q => simp [N.kids] at hn
        | two w p a b => simp [N.kids] at hn
      rw [← e3, ← this]
      exact q _ .refl
    · obtain ⟨xs, c, rfl⟩ := N.w_agg h (by simpa using ha)
      obtain ⟨ks, kk, e4, e5, hl⟩ := h.2.2.1.look
      have eks : ks = D.str (N.agg xs c).w :: l := by rw [e4] at e3; exact D.tup.inj e3
      decreasing_trivial_pre_omega
      rw [← eks]
      refine o_inD ht e5 ?_
      decreasing_trivial_pre_omega
      refine iff_b (fun hs => ?_) (fun hs => ?_)
      · obtain ⟨v, hv⟩ := Option.isSome_iff_exists.mp hs
        decreasing_trivial_pre_omega
        refine o_get ht e5 hv ?_
        decreasing_trivial_pre_omega
        have : putN kvs (N.agg xs c) = v := by
          have e6 := hl kvs
          rw [hv] at e6
          cases c <;> simp [putN, lookD, e6]
        rw [← this]
        exact q _ .refl
      · decreasing_trivial_pre_omega
        have hv : lookN kvs kk = none := by simpa using hs
        have e6 := hl kvs
        rw [hv] at e6
        have e7 : ks = (D.str "agg" :: xs) ++ colTail c := D.tup.inj (e4.symm.trans (agg_d xs c))
        let f : D → D := fun x => if isColD x then lookD kvs x else x
        have hcol : ∀ c', c = some c' → Ky (N.colD c') := fun c' e => (h.2.2.2 c' e).2.2
        have hfl : ∀ x ∈ (D.str "agg" :: xs), flatD x = true := by
          intro x hx
          rcases memC hx with rfl | hx
          · rfl
          · exact h.1 x hx
        have hP : ∀ x ∈ ks, flatD x = true ∨ ∃ c', x = N.colD c' ∧ Ky (N.colD c') := by
          rw [e7]
          intro x hx
          rcases memA hx with hx | hx
          · exact .inl (hfl x hx)
          · cases c with
            | none => simp [colTail] at hx
            | some c => simp [colTail] at hx; exact .inr ⟨c, hx, hcol c rfl⟩
        have hlen : ks.length ≤ 20 := by
          rw [e7]; have := h.2.1; cases c <;> simp [colTail] <;> omega
        refine k_inv (fun rest T => ∃ acc, (∀ x ∈ rest, flatD x = true ∨ ∃ c', x = N.colD c' ∧ Ky (N.colD c')) ∧ T[t]? = some (.dn false kvs) ∧ T[S.length]? = some (.lst acc) ∧ acc ++ rest.map f = ks.map f ∧ acc.length + rest.length ≤ 20 ∧ Kp S T) ?_ ?_ _ _ ?_
        · rintro x rest T ⟨acc, hr, h1, h2, h3, h4, h5⟩
          refine ⟨trivial, _, rfl, ?_⟩
          decreasing_trivial_pre_omega
          refine iff_t ?_
          simp only [List.length_cons] at h4
          have nt : t ≠ S.length := Kp.ne ht
          decreasing_trivial_pre_omega
          rcases hr x (by simp) with hx | ⟨c', rfl, hky⟩
          · refine is_column_flat hx ?_
            decreasing_trivial_pre_omega
            refine iff_f ?_
            decreasing_trivial_pre_omega
            refine ⟨acc, h2, by simp only [sizeLine]; omega, acc ++ [x], fun y hy => hr y (by simp [hy]), by array_get_dec, by array_get_dec, ?_, by simp; omega, h5.set (by simp)⟩
            rw [← h3]
            simp [f, isColD_flat hx]
          · refine is_column_col ?_
            decreasing_trivial_pre_omega
            refine iff_t ?_
            refine getOr_ok rfl rfl h1 hky ?_
            refine ⟨acc, h2, by simp only [sizeLine]; omega, acc ++ [lookD kvs (N.colD c')], fun y hy => hr y (by simp [hy]), by array_get_dec, by array_get_dec, ?_, by simp; omega, h5.set (by simp)⟩
            rw [← h3]
            have : f (N.colD c') = lookD kvs (N.colD c') := by
              show (if isColD (N.colD c') = true then _ else _) = _
              rw [isColD_col]; rfl
            simp [this]
        · rintro T ⟨acc, hr, h1, h2, h3, h4, h5⟩
          refine ⟨trivial, ?_⟩
          decreasing_trivial_pre_omega
          have : acc = ks.map f := by simpa using h3
          subst this
          have : D.tup (ks.map f) = putN kvs (N.agg xs c) := by
            rw [e7, List.map_append]
            have em : List.map f (D.str "agg" :: xs) = D.str "agg" :: xs := by
              conv => rhs; rw [← List.map_id (D.str "agg" :: xs)]
              apply List.map_congr_left
              intro x hx
              show (if isColD x = true then _ else _) = _
              rw [isColD_flat (hfl x hx)]; rfl
            rw [em]
            cases c with
            | none =>
              have e8 : (N.agg xs none).d = .tup (.str "agg" :: xs) := rfl
              rw [e8] at e6
              simp [putN, lookD, e8, e6, colTail]
            | some c =>
              have : f (N.colD c) = lookD kvs (N.colD c) := by
                show (if isColD (N.colD c) = true then _ else _) = _
                rw [isColD_col]; rfl
              simp [putN, e6, this, colTail]
          rw [this]
          exact q _ h5
        · exact ⟨[], hP, lk_app ht, lk_new, by simp, by simpa using hlen, Kp.refl.app⟩
theorem pre_len {n : N} (h : n.ok) : n.pre.length ≤ 100 ∧ n.post.length ≤ 100 := by
  cases n with
  | col xs => have := h.2.1; simp [N.pre, N.post]; omega
  | agg xs c => have := h.2.1; cases c <;> simp [N.pre, N.post] <;> omega
  | atm w xs => have := h.2.1; simp [N.pre, N.post]; omega
  | un w a => simp [N.pre, N.post]
  | inn a q => simp [N.pre, N.post]
  | two w p a b =>
    rcases h.1 with ⟨_, rfl⟩ | ⟨_, z, rfl⟩ <;> simp [N.pre, N.post]
set_option maxHeartbeats 1000000 -- wide
theorem kids_two (n : N) : n.kids.length ≤ 2 := by cases n <;> simp [N.kids]
theorem pre_w (n : N) : ∃ r, n.pre = .str n.w :: r := by cases n <;> exact ⟨_, rfl⟩
theorem parts2_ok {n : N} (h : n.ok) {ys : List D} (hy : ys.length = n.kids.length) {k : Nat} {S : Sto} {Q : D → Sto → Prop} (q : Q (.tup ys) S) : w1 (den (k + 1) .parts_of) [.tup (n.pre ++ ys ++ n.post)] S Q := by
  obtain ⟨r, e1, e2⟩ := N.look h
  obtain ⟨l, e3⟩ := pre_w n
  have e4 : n.pre ++ ys ++ n.post = .str n.w :: (l ++ ys ++ n.post) := by rw [e3]; rfl
  refine w_body ?_
  unfold b_parts_of
  rw [e4]
  decreasing_trivial_pre_omega
  refine ⟨r, e1, ?_⟩
  rw [e2, N.place]
  decreasing_trivial_pre_omega
  rw [← e4, ← hy]
  rw [cut_mid n.pre ys n.post]
  exact q
theorem smz_tot (l : List N) : smz N.sz l = tot l := rfl
theorem truT {xs : List D} {S : Sto} {Q : Bool → Prop} (q : Q (!xs.isEmpty)) : tru S (.tup xs) Q := tru_tup q
/-- change, at a node's parts as put -/
theorem change_ok {n : N} (h : n.ok) {t : Nat} {kvs : List (D × D)} {k : Nat} {S : Sto} {Q : D → Sto → Prop} (ht : S[t]? = some (.dn false kvs)) (q : ∀ S', Kp S S' → Q (putN kvs n) S') : w1 (den (k + 3) .replaced__change) [.tup (n.pre ++ n.kids.map (putN kvs) ++ n.post), .ref t] S Q := by
  refine w_body ?_
  unfold b_replaced__change
  decreasing_trivial_pre_omega
  refine parts2_ok h (by simp) ?_
  decreasing_trivial_pre_omega
  by_cases he : n.kids = []
  · rw [he]
    refine iff_f ?_
    decreasing_trivial_pre_omega
    have : D.tup (n.pre ++ List.map (putN kvs) [] ++ n.post) = n.d := by
      rw [N.d_eq n, he]; rfl
    rw [this]
    refine leaf_repl_ok h he ht fun T3 k3 => ?_
    decreasing_trivial_pre_omega
    exact q _ k3
  · have : (!(n.kids.map (putN kvs)).isEmpty) = true := by
      cases hh : n.kids with
      | nil => exact absurd hh he
      | cons a b => rfl
    rw [this]
    refine iff_t ?_
    decreasing_trivial_pre_omega
    rw [← putN_kids kvs he]
    exact q _ .refl
theorem step_ok {n : N} (h : n.ok) {t c m : Nat} {kvs : List (D × D)} {k : Nat} {S : Sto} {Q : D → Sto → Prop} (ht : S[t]? = some (.dn false kvs)) (hc : S[c]? = some (.fn 1 nd_replaced__change [.ref t])) (hm : S[m]? = some (.lst (n.kids.map (putN kvs)))) (q : ∀ S', Kp S S' → Q (putN kvs n) S') :
    w1 (den (k + 4) .rebuilt__step) [n.d, .ref m, .ref c] S Q := by
  refine w_body ?_
  unfold b_rebuilt__step
  decreasing_trivial_pre_omega
  refine v_callN (n := c) rfl hc rfl rfl ?_
  obtain ⟨l1, l2⟩ := pre_len h
  decreasing_trivial_pre_omega
  refine with_ok h hm (by have := kids_two n; simp; omega) l1 l2 ?_
  decreasing_trivial_pre_omega
  refine ⟨hc, rfl, ?_⟩
  refine change_ok h ht fun T k3 => ?_
  decreasing_trivial_pre_omega
  exact q _ k3
theorem replaced_ok {n : N} (h : n.ok) (hs : n.sz ≤ 100000) {t : Nat} {kvs : List (D × D)} {k : Nat} {S : Sto} {Q : D → Sto → Prop} (ht : S[t]? = some (.dn false kvs)) (q : ∀ S', Kj S S' → Q (putN kvs n) S') : w1 (den (k + 7) .replaced) [n.d, .ref t] S Q := by
  refine w_body ?_
  unfold b_replaced
  decreasing_trivial_pre_omega
  rw [isN_d]
  refine iff_f ?_
  decreasing_trivial_pre_omega
  refine s_dret (ws := [.ref t]) rfl rfl ?_
  refine w_body ?_
  unfold b_rebuilt
  refine s_dret (ws := [.ref S.length]) rfl rfl ?_
  have hc : (S ++ [O.fn 1 nd_replaced__change [.ref t]])[S.length]? = some (.fn 1 nd_replaced__change [.ref t]) := lk_new
  refine reduced_ok (dd := N.d) (kids := N.kids) (P := N.ok) (sz := N.sz) (val := putN kvs) (fun x hx => N.ok_kids hx) (fun x _ => N.kids_tot x) (fun x hx k S Q q => parts_ok hx q) h hs (id := 0) (ws := [.ref S.length]) (lk_new (o := .fn 0 nd_rebuilt__step [.ref S.length])) rfl rfl rfl (fun x hx T m Q hk hm q => ?_) fun T hk => ?_
  · exact step_ok hx (hk _ _ (lk_app (lk_app ht))) (hk _ _ (lk_app hc)) hm q
  · refine re_rt ?_
    refine re_rt ?_
    refine q _ ?_
    exact ((((Kp.refl.app.app).trans hk).kj).junk).junk
theorem replaced_non {t : Nat} {k : Nat} {S : Sto} {Q : D → Sto → Prop} (q : Q .non S) : w1 (den (k + 1) .replaced) [.non, .ref t] S Q := by
  refine w_body ?_
  unfold b_replaced
  decreasing_trivial_pre_omega
  refine iff_t ?_
  decreasing_trivial_pre_omega
  exact q
def hp : N → Nat
  | .col _ => 1 | .agg _ _ => 2 | .atm _ _ => 1 | .un _ a => hp a + 1 | .inn a _ => hp a + 1 | .two _ _ a b => max (hp a) (hp b) + 1
theorem hp_pos : ∀ n : N, 0 < hp n
  | .col _ => by simp [hp]
  | .agg _ _ => by simp [hp]
  | .atm _ _ => by simp [hp]
  | .un _ a => by simp [hp]
  | .inn a _ => by simp [hp]
  | .two _ _ a b => by simp [hp]
/-- put at x gives y -/
def PutAt (K t : Nat) (kvs : List (D × D)) (x y : D) : Prop := ∀ (S : Sto) (Q : D → Sto → Prop), S[t]? = some (.dn false kvs) → (∀ S', Kp S S' → Q y S') → w1 (den K ._law_put) [x, .ref t] S Q
def PutEl (K t : Nat) (kvs : List (D × D)) (x y : D) : Prop := (flatD x = true ∧ y = x) ∨ ((∃ c, x = .tup c) ∧ PutAt K t kvs x y)
/-- the tests ahead of the last loop -/
theorem put_head {K t : Nat} {kvs : List (D × D)} {z : Str} {l : List D} {S : Sto} {Q : D → Sto → Prop} (ht : S[t]? = some (.dn false kvs)) (h1 : (z == ("col" : Str)) = false) (h2 : (z == ("agg" : Str)) = true → ∃ k, keyN (.str z :: l) = some k ∧ lookN kvs k = none) (h3 : (z == ("exists" : Str)) = false) (h4 : (z == ("in" : Str)) = false)
    (ys : List D) (hl : l.length ≤ 1000) (hys : l.length = ys.length) (hel : ∀ (i : Nat) (x y : D), l[i]? = some x → ys[i]? = some y → PutEl K t kvs x y)
    (q : ∀ S', Kp S S' → Q (.tup (.str z :: ys)) S') : w1 (den (K + 1) ._law_put) [.tup (.str z :: l), .ref t] S Q := by
  refine w_body ?_
  unfold b__law_put
  decreasing_trivial_pre_omega
  refine iff_f ?_
  decreasing_trivial_pre_omega
  rw [h1]
  refine iff_f ?_
  decreasing_trivial_pre_omega
  have body : wS (seqM (ifS (orC (tstM (binM eqF (binM ixF (varM 0) (conM (.int 0))) (conM (.str "exists")))) (tstM (binM eqF (binM ixF (varM 0) (conM (.int 0))) (conM (.str "col"))))) (rtM (varM 0)) (nxM)) (seqM (ifS (tstM (binM eqF (binM ixF (varM 0) (conM (.int 0))) (conM (.str "in")))) (rtM (tupM (consA (conM (.str "in")) (consA (callM 2 (den K ._law_put) (consA (binM ixF (varM 0) (conM (.int 1))) (consA (varM 1) (nilA)))) (consA (binM ixF (varM 0) (conM (.int 2))) (nilA)))))) (nxM)) (seqM (asgM (lstM (nilA)) (nameG 2)) (seqM (forM (seqI (varM 0)) (nameG 3) (ifS (truC (isiM "tuple" (varM 3))) (exM (metM "list" appendF (varM 2) (consA (callM 2 (den K ._law_put) (consA (varM 3) (consA (varM 1) (nilA)))) (nilA)))) (exM (metM "list" appendF (varM 2) (consA (varM 3) (nilA)))))) (rtM (appM tupleF (consA (varM 2) (nilA)))))))) [some (.tup (.str z :: l)), some (.ref t), none, none] S (retQ Q) := by
    decreasing_trivial_pre_omega
    rw [h3]
    refine iff_f ?_
    decreasing_trivial_pre_omega
    rw [h1]
    refine iff_f ?_
    decreasing_trivial_pre_omega
    rw [h4]
    refine iff_f ?_
    decreasing_trivial_pre_omega
    refine ⟨by simp [sizeLine], ?_⟩
    decreasing_trivial_pre_omega
    have nt : t ≠ S.length := Kp.ne ht
    refine for_inv (fun rest γ T => ∃ (i : Nat) (acc : List D) (x : Option D), rest = (D.str z :: l).drop i ∧ i ≤ l.length + 1 ∧ acc = (D.str z :: ys).take i ∧ γ = [some (.tup (.str z :: l)), some (.ref t), some (.ref S.length), x] ∧ T[t]? = some (.dn false kvs) ∧ T[S.length]? = some (.lst acc) ∧ Kp S T) ?_ ?_ _ _ _ ?_
    · rintro x rest γ T ⟨i, acc, x1, hr, hi, ha, rfl, g1, g2, g3⟩
      refine ⟨trivial, ?_⟩
      have hlt : i < (D.str z :: l).length := by
        rcases Nat.lt_or_ge i (D.str z :: l).length with h | h
        · exact h
        · rw [List.drop_eq_nil_of_le h] at hr; cases hr
      have hlt2 : i < (D.str z :: ys).length := by simp at hlt ⊢; omega
      rw [List.drop_eq_getElem_cons hlt] at hr
      obtain ⟨hx, hr2⟩ := List.cons.inj hr
      have hacc : (acc ++ [(D.str z :: ys)[i]]) = (D.str z :: ys).take (i + 1) := by
        rw [ha, List.take_succ_eq_append_getElem hlt2]
      have hal : acc.length ≤ 1001 := by rw [ha]; simp; omega
      have hel2 : PutEl K t kvs x (D.str z :: ys)[i] := by
        cases i with
        | zero => rw [hx]; exact .inl ⟨rfl, rfl⟩
        | succ i =>
          refine hel i x _ ?_ ?_
          · rw [hx]; simp at hlt ⊢
          · simp at hlt2 ⊢
      generalize (D.str z :: ys)[i] = y at *
      rcases hel2 with ⟨hf, rfl⟩ | ⟨⟨c, rfl⟩, hput⟩
      · decreasing_trivial_pre_omega
        refine ty_flat hf ?_
        decreasing_trivial_pre_omega
        refine iff_f ?_
        decreasing_trivial_pre_omega
        refine ⟨ty_lst g2, ?_⟩
        decreasing_trivial_pre_omega
        refine m_append g2 (by simp only [sizeLine]; omega) ?_
        decreasing_trivial_pre_omega
        exact ⟨i + 1, _, _, hr2, by simp at hlt; omega, hacc, rfl, by array_get_dec, by array_get_dec, g3.set (by simp)⟩
      · decreasing_trivial_pre_omega
        refine ty_tup.mpr ?_
        decreasing_trivial_pre_omega
        refine iff_t ?_
        decreasing_trivial_pre_omega
        refine ⟨ty_lst g2, ?_⟩
        decreasing_trivial_pre_omega
        refine hput _ _ g1 ?_
        intro T2 k2
        have j1 := k2 _ _ g1
        have j2 := k2 _ _ g2
        decreasing_trivial_pre_omega
        refine m_append j2 (by simp only [sizeLine]; omega) ?_
        decreasing_trivial_pre_omega
        exact ⟨i + 1, _, _, hr2, by simp at hlt; omega, hacc, rfl, by array_get_dec, by array_get_dec, (g3.trans k2).set (by simp)⟩
    · rintro γ T ⟨i, acc, x1, hr, hi, ha, rfl, g1, g2, g3⟩
      refine ⟨trivial, ?_⟩
      decreasing_trivial_pre_omega
      have : i = l.length + 1 := by
        rcases Nat.lt_or_ge i (D.str z :: l).length with h | h
        · rw [List.drop_eq_getElem_cons h] at hr; cases hr
        · simp at h; omega
      have : acc = D.str z :: ys := by
        rw [ha, List.take_of_length_le (by simp; omega)]
      rw [this]
      exact q _ g3
    · exact ⟨0, [], none, rfl, by omega, rfl, rfl, lk_app ht, lk_new, Kp.refl.app⟩
  refine iff_b (fun ha => ?_) (fun ha => ?_)
  · obtain ⟨k, e1, e2⟩ := h2 ha
    decreasing_trivial_pre_omega
    refine o_inD ht e1 ?_
    decreasing_trivial_pre_omega
    rw [e2]
    refine iff_f ?_
    refine s_nx (th_nx ?_)
    exact body
  · refine iff_f ?_
    refine s_nx (th_nx ?_)
    exact body
theorem el_flats {K t : Nat} {kvs : List (D × D)} {xs : List D} (h : flats xs) : ∀ (i : Nat) (x y : D), xs[i]? = some x → xs[i]? = some y → PutEl K t kvs x y := by
  intro i x y h1 h2
  rw [h1] at h2; cases h2
  exact .inl ⟨h x (List.mem_of_getElem? h1), rfl⟩
theorem putD_col {K t : Nat} {kvs : List (D × D)} {xs : List D} (h : Ky (N.colD xs)) : PutAt (K + 1) t kvs (N.colD xs) (lookD kvs (N.colD xs)) := by
  intro S Q ht q
  obtain ⟨ks, kk, e4, e5, hl⟩ := h.look
  have e4' : ks = .str "col" :: xs := (D.tup.inj e4).symm
  refine w_body ?_
  unfold b__law_put N.colD
  decreasing_trivial_pre_omega
  refine iff_f ?_
  decreasing_trivial_pre_omega
  refine iff_t ?_
  decreasing_trivial_pre_omega
  refine iff_t ?_
  decreasing_trivial_pre_omega
  rw [← e4']
  refine o_inD ht e5 ?_
  decreasing_trivial_pre_omega
  refine iff_b (fun hs => ?_) (fun hs => ?_)
  · obtain ⟨v, hv⟩ := Option.isSome_iff_exists.mp hs
    decreasing_trivial_pre_omega
    refine o_get ht e5 hv ?_
    decreasing_trivial_pre_omega
    have : lookD kvs (N.colD xs) = v := by simp [lookD, hl, hv]
    rw [← this]
    exact q _ .refl
  · have hv : lookN kvs kk = none := by simpa using hs
    have : lookD kvs (N.colD xs) = N.colD xs := by simp [lookD, hl, hv]
    rw [this] at q
    decreasing_trivial_pre_omega
    rw [e4']
    decreasing_trivial_pre_omega
    refine iff_f ?_
    decreasing_trivial_pre_omega
    refine iff_t ?_
    decreasing_trivial_pre_omega
    exact q _ .refl
theorem put_ok : ∀ (n : N), n.ok → ∀ (K t : Nat) (kvs : List (D × D)), hp n ≤ K → PutAt K t kvs n.d (putN kvs n)
  | .col xs, h, K, t, kvs, hk => by
    obtain ⟨K, rfl⟩ : ∃ r, K = r + 1 := ⟨K - 1, by simp [hp] at hk; omega⟩
    exact putD_col h.2.2
  | .agg xs c, h, K, t, kvs, hk => by
    obtain ⟨K, rfl⟩ : ∃ r, K = r + 2 := ⟨K - 2, by simp [hp] at hk; omega⟩
    intro S Q ht q
    obtain ⟨ks, kk, e4, e5, hl⟩ := h.2.2.1.look
    have e4' : ks = (D.str "agg" :: xs) ++ colTail c := D.tup.inj (e4.symm.trans (agg_d xs c))
    cases hv : lookN kvs kk with
    | some v =>
      have : putN kvs (.agg xs c) = v := by
        have e6 := hl kvs
        rw [hv] at e6
        cases c <;> simp [putN, lookD, e6]
      rw [this] at q
      refine w_body ?_
      unfold b__law_put
      rw [agg_d, List.cons_append]
      decreasing_trivial_pre_omega
      refine iff_f ?_
      decreasing_trivial_pre_omega
      refine iff_f ?_
      decreasing_trivial_pre_omega
      refine iff_t ?_
      decreasing_trivial_pre_omega
      rw [← List.cons_append, ← e4']
      refine o_inD ht e5 ?_
      decreasing_trivial_pre_omega
      rw [hv]
      refine iff_t ?_
      decreasing_trivial_pre_omega
      refine o_get ht e5 hv ?_
      decreasing_trivial_pre_omega
      exact q _ .refl
    | none =>
      have e6 := hl kvs
      rw [hv] at e6
      have e7 : keyN (D.str "agg" :: (xs ++ colTail c)) = some kk := by rw [← List.cons_append, ← e4']; exact e5
      rw [agg_d, List.cons_append]
      cases c with
      | none =>
        have : putN kvs (.agg xs none) = .tup (.str "agg" :: xs) := by
          have e8 : (N.agg xs none).d = .tup (.str "agg" :: xs) := rfl
          rw [e8] at e6
          simp [putN, lookD, e8, e6]
        rw [this] at q
        have hx : xs ++ colTail none = xs := by simp [colTail]
        rw [hx] at e7 ⊢
        exact put_head ht (by decide +kernel) (fun _ => ⟨kk, e7, hv⟩) (by decide +kernel) (by decide +kernel) xs (by have := h.2.1; omega) rfl (el_flats h.1) q
      | some c =>
        have : putN kvs (.agg xs (some c)) = .tup (.str "agg" :: (xs ++ [lookD kvs (N.colD c)])) := by simp [putN, e6]
        rw [this] at q
        refine put_head ht (by decide +kernel) (fun _ => ⟨kk, e7, hv⟩) (by decide +kernel) (by decide +kernel) _ (by have := h.2.1; simp [colTail]; omega) (by simp [colTail]) ?_ q
        intro i x y hx hy
        by_cases hi : i < xs.length
        · rw [List.getElem?_append_left hi] at hx hy
          exact el_flats h.1 i x y hx hy
        · rw [List.getElem?_append_right (by omega)] at hx hy
          have hi0 : i - xs.length = 0 := by have := lt_of hx; simp [colTail] at this; omega
          rw [hi0] at hx hy
          simp [colTail] at hx hy
          subst hx; subst hy
          exact .inr ⟨⟨_, rfl⟩, putD_col (h.2.2.2 c rfl).2.2⟩
  | .atm w xs, h, K, t, kvs, hk => by
    obtain ⟨K, rfl⟩ : ∃ r, K = r + 1 := ⟨K - 1, by simp [hp] at hk; omega⟩
    intro S Q ht q
    rcases h.1 with ⟨hw, hf⟩ | rfl
    · have hl : xs.length ≤ 1000 := by have := h.2.1; omega
      rcases hw with rfl | rfl
      · exact put_head ht (by decide +kernel) (fun z => absurd z (by decide +kernel)) (by decide +kernel) (by decide +kernel) xs hl rfl (el_flats hf) q
      · exact put_head ht (by decide +kernel) (fun z => absurd z (by decide +kernel)) (by decide +kernel) (by decide +kernel) xs hl rfl (el_flats hf) q
    · refine w_body ?_
      unfold b__law_put
      show wS _ _ _ _
      simp only [N.d]
      decreasing_trivial_pre_omega
      refine iff_f ?_
      decreasing_trivial_pre_omega
      refine iff_f ?_
      decreasing_trivial_pre_omega
      refine iff_f ?_
      decreasing_trivial_pre_omega
      refine iff_f ?_
      decreasing_trivial_pre_omega
      refine iff_t ?_
      decreasing_trivial_pre_omega
      refine iff_t ?_
      decreasing_trivial_pre_omega
      exact q _ .refl
  | .un w a, h, K, t, kvs, hk => by
    obtain ⟨K, rfl⟩ : ∃ r, K = r + 1 := ⟨K - 1, by simp [hp] at hk; omega⟩
    intro S Q ht q
    simp only [hp] at hk
    have ia := put_ok a h.2 K t kvs (by omega)
    have hel : ∀ (i : Nat) (x y : D), [a.d][i]? = some x → [putN kvs a][i]? = some y → PutEl K t kvs x y := by
      intro i x y hx hy
      cases i with
      | zero => simp at hx hy; subst hx; subst hy; exact .inr ⟨a.d_tup, ia⟩
      | succ i => simp at hx
    rcases h.1 with rfl | rfl | rfl | rfl <;>
      exact put_head (l := [a.d]) ht (by decide +kernel) (fun z => absurd z (by decide +kernel)) (by decide +kernel) (by decide +kernel) [putN kvs a] (by simp) rfl hel q
  | .inn a b, h, K, t, kvs, hk => by
    obtain ⟨K, rfl⟩ : ∃ r, K = r + 1 := ⟨K - 1, by simp [hp] at hk; omega⟩
    intro S Q ht q
    simp only [hp] at hk
    have ia := put_ok a h.1 K t kvs (by omega)
    refine w_body ?_
    unfold b__law_put
    simp only [N.d]
    decreasing_trivial_pre_omega
    refine iff_f ?_
    decreasing_trivial_pre_omega
    refine iff_f ?_
    decreasing_trivial_pre_omega
    refine iff_f ?_
    decreasing_trivial_pre_omega
    refine iff_f ?_
    decreasing_trivial_pre_omega
    refine iff_f ?_
    decreasing_trivial_pre_omega
    refine iff_f ?_
    decreasing_trivial_pre_omega
    refine iff_t ?_
    decreasing_trivial_pre_omega
    refine ia _ _ ht ?_
    intro S1 k1
    decreasing_trivial_pre_omega
    refine ⟨by simp [sizeLine], ?_⟩
    decreasing_trivial_pre_omega
    exact q _ k1
  | .two w p a b, h, K, t, kvs, hk => by
    obtain ⟨K, rfl⟩ : ∃ r, K = r + 1 := ⟨K - 1, by simp [hp] at hk; omega⟩
    intro S Q ht q
    simp only [hp] at hk
    have ia := put_ok a h.2.1 K t kvs (by omega)
    have ib := put_ok b h.2.2 K t kvs (by omega)
    rcases h.1 with ⟨hw, rfl⟩ | ⟨rfl, z, rfl⟩
    · have hel : ∀ (i : Nat) (x y : D), [a.d, b.d][i]? = some x → [putN kvs a, putN kvs b][i]? = some y → PutEl K t kvs x y := by
        intro i x y hx hy
        match i, hx, hy with
        | 0, hx, hy => simp at hx hy; subst hx; subst hy; exact .inr ⟨a.d_tup, ia⟩
        | 1, hx, hy => simp at hx hy; subst hx; subst hy; exact .inr ⟨b.d_tup, ib⟩
        | i + 2, hx, hy => simp at hx
      rcases hw with rfl | rfl | rfl | rfl | rfl <;>
        exact put_head (l := [a.d, b.d]) ht (by decide +kernel) (fun z => absurd z (by decide +kernel)) (by decide +kernel) (by decide +kernel) [putN kvs a, putN kvs b] (by simp) rfl hel q
    · refine put_head (l := [.str z, a.d, b.d]) ht (by decide +kernel) (fun z => absurd z (by decide +kernel)) (by decide +kernel) (by decide +kernel) [.str z, putN kvs a, putN kvs b] (by simp) rfl ?_ q
      intro i x y hx hy
      match i, hx, hy with
      | 0, hx, hy => simp at hx hy; subst hx; subst hy; exact .inl ⟨rfl, rfl⟩
      | 1, hx, hy => simp at hx hy; subst hx; subst hy; exact .inr ⟨a.d_tup, ia⟩
      | 2, hx, hy => simp at hx hy; subst hx; subst hy; exact .inr ⟨b.d_tup, ib⟩
      | i + 3, hx, hy => simp at hx
theorem put_non {K t : Nat} {S : Sto} {Q : D → Sto → Prop} (q : Q .non S) : w1 (den (K + 1) ._law_put) [.non, .ref t] S Q := by
  refine w_body ?_
  unfold b__law_put
  decreasing_trivial_pre_omega
  refine iff_t ?_
  decreasing_trivial_pre_omega
  exact q
/-! ### the two ways of going through -/
theorem cols_eq : ∀ n : N, n.ok → n.lv.flatMap N.colsAt = n.ord.flatMap (N.hits "col")
  | .col xs, h => by simp [N.lv, N.ord, N.colsAt, N.hits, N.w, N.d]
  | .agg xs none, h => by
    have : ¬ ("agg" : Str) = "col" := by decide +kernel
    simp [N.lv, N.ord, N.colsAt, N.hits, N.w, this]
  | .agg xs (some c), h => by
    have : ¬ ("agg" : Str) = "col" := by decide +kernel
    simp [N.lv, N.ord, N.colsAt, N.hits, N.w, N.d, this]
  | .atm w xs, h => by
    have : ¬ w = "col" := by rcases h.1 with ⟨rfl | rfl, _⟩ | rfl <;> decide +kernel
    simp [N.lv, N.ord, N.colsAt, N.hits, N.w, this]
  | .un w a, h => by
    have : ¬ w = "col" := by rcases h.1 with rfl | rfl | rfl | rfl <;> decide +kernel
    simp [N.lv, N.ord, N.hits, N.w, this]; exact cols_eq a h.2
  | .inn a q, h => by
    have : ¬ ("in" : Str) = "col" := by decide +kernel
    simp [N.lv, N.ord, N.hits, N.w, this]; exact cols_eq a h.1
  | .two w p a b, h => by
    have : ¬ w = "col" := by rcases h.1 with ⟨rfl | rfl | rfl | rfl | rfl, _⟩ | ⟨rfl, _⟩ <;> decide +kernel
    simp [N.lv, N.ord, N.hits, N.w, this]; rw [← cols_eq a h.2.1, ← cols_eq b h.2.2]
theorem aggs_eq : ∀ n : N, n.ok → n.lv.flatMap aggAt = n.ord.flatMap (N.hits "agg")
  | .col xs, h => by
    have : ¬ ("col" : Str) = "agg" := by decide +kernel
    simp [N.lv, N.ord, aggAt, N.hits, N.w, this]
  | .agg xs none, h => by simp [N.lv, N.ord, aggAt, N.hits, N.w]
  | .agg xs (some c), h => by
    have : ¬ ("col" : Str) = "agg" := by decide +kernel
    simp [N.lv, N.ord, aggAt, N.hits, N.w, this]
  | .atm w xs, h => by simp [N.lv, N.ord, aggAt, N.hits, N.w]
  | .un w a, h => by
    have : ¬ w = "agg" := by rcases h.1 with rfl | rfl | rfl | rfl <;> decide +kernel
    simp [N.lv, N.ord, N.hits, N.w, this]; exact aggs_eq a h.2
  | .inn a q, h => by
    have : ¬ ("in" : Str) = "agg" := by decide +kernel
    simp [N.lv, N.ord, N.hits, N.w, this]; exact aggs_eq a h.1
  | .two w p a b, h => by
    have : ¬ w = "agg" := by rcases h.1 with ⟨rfl | rfl | rfl | rfl | rfl, _⟩ | ⟨rfl, _⟩ <;> decide +kernel
    simp [N.lv, N.ord, N.hits, N.w, this]; rw [← aggs_eq a h.2.1, ← aggs_eq b h.2.2]
/-! ### keys -/
theorem strOk_lit (s : String) : PyData.strOk (Str.ofString s) = true := by
  unfold PyData.strOk
  rw [← Array.all_toList, PyProof.Rows.signs_ofString, List.all_map, List.all_eq_true]
  intro c _
  have := c.valid
  simp only [Function.comp_apply, decide_eq_true_eq]
  simp only [UInt32.isValidChar, Nat.isValidChar] at this
  show c.val.toNat < _
  omega
theorem strOk_app {a b : Str} (h : PyData.strOk a = true) (g : PyData.strOk b = true) : PyData.strOk (a ++ b) = true := by
  show (a.cps ++ b.cps).all _ = true
  rw [Array.all_append]
  unfold PyData.strOk at h g
  rw [h, g]; rfl
def atm1 (x : D) : Prop := x = .non ∨ (∃ i, x = .int i) ∨ ∃ z, x = .str z ∧ PyData.strOk z = true
theorem atm1_flat {x : D} (h : atm1 x) : flatD x = true := by
  rcases h with rfl | ⟨i, rfl⟩ | ⟨z, rfl, _⟩ <;> rfl
theorem atms_data : ∀ {xs : List D}, (∀ x ∈ xs, atm1 x) → ∃ ds ks, pyDs xs = some ds ∧ PyData.canLayAll0 ds = true ∧ PyData.depthAll ds = 0 ∧ nks xs = some ks ∧ NestedKey.depthAll ks = 0
  | [], _ => ⟨[], [], by simp [pyDs], by simp [PyData.canLayAll0], by simp [PyData.depthAll], by simp [nks], by simp [NestedKey.depthAll]⟩
  | x :: xs, h => by
    obtain ⟨ds, ks, g1, g2, g3, g4, g5⟩ := atms_data (xs := xs) fun y hy => h y (by simp [hy])
    rcases h x (by simp) with rfl | ⟨i, rfl⟩ | ⟨z, rfl, hz⟩
    · exact ⟨.none :: ds, .none :: ks, by simp [pyDs, pyD, g1], by simp [PyData.canLayAll0, PyData.canLay0, g2], by simp [PyData.depthAll, PyData.depth, g3], by simp [nks, nk, g4], by simp [NestedKey.depthAll, NestedKey.depth, g5]⟩
    · exact ⟨.int i :: ds, .num i :: ks, by simp [pyDs, pyD, g1], by simp [PyData.canLayAll0, PyData.canLay0, g2], by simp [PyData.depthAll, PyData.depth, g3], by simp [nks, nk, g4], by simp [NestedKey.depthAll, NestedKey.depth, g5]⟩
    · exact ⟨.str z :: ds, .text z :: ks, by simp [pyDs, pyD, g1], by simp [PyData.canLayAll0, PyData.canLay0, g2, hz], by simp [PyData.depthAll, PyData.depth, g3], by simp [nks, nk, g4], by simp [NestedKey.depthAll, NestedKey.depth, g5]⟩
theorem ky_atms {xs : List D} (h : ∀ x ∈ xs, atm1 x) : Ky (.tup xs) := by
  obtain ⟨ds, ks, g1, g2, g3, g4, g5⟩ := atms_data h
  refine ⟨⟨.tuple ds, by simp [pyD, g1], by rw [PyData.canLay0]; exact g2, by rw [PyData.depth]; omega⟩, xs, .tup ks, rfl, ?_⟩
  unfold keyN
  simp only [nk, g4]
  rw [if_pos (by rw [NestedKey.depth]; omega)]
theorem pyDs_app : ∀ {xs ys : List D} {a b}, pyDs xs = some a → pyDs ys = some b → pyDs (xs ++ ys) = some (a ++ b)
  | [], ys, a, b, h, g => by simp [pyDs] at h; subst h; simpa using g
  | x :: xs, ys, a, b, h, g => by
    rw [pyDs] at h
    split at h
    · rename_i p ds e1 e2
      cases h
      rw [List.cons_append, pyDs, e1, pyDs_app e2 g]; rfl
    · cases h
theorem nks_app : ∀ {xs ys : List D} {a b}, nks xs = some a → nks ys = some b → nks (xs ++ ys) = some (a ++ b)
  | [], ys, a, b, h, g => by simp [nks] at h; subst h; simpa using g
  | x :: xs, ys, a, b, h, g => by
    rw [nks] at h
    split at h
    · rename_i p ds e1 e2
      cases h
      rw [List.cons_append, nks, e1, nks_app e2 g]; rfl
    · cases h
theorem lay_app : ∀ (a b : List PyData), PyData.canLayAll0 a = true → PyData.canLayAll0 b = true → PyData.canLayAll0 (a ++ b) = true
  | [], b, _, g => g
  | x :: a, b, h, g => by
    rw [PyData.canLayAll0, Bool.and_eq_true] at h
    rw [List.cons_append, PyData.canLayAll0, h.1, lay_app a b h.2 g]; rfl
theorem dep_app : ∀ (a b : List PyData), PyData.depthAll (a ++ b) = max (PyData.depthAll a) (PyData.depthAll b)
  | [], b => by simp [PyData.depthAll]
  | x :: a, b => by rw [List.cons_append, PyData.depthAll, PyData.depthAll, dep_app a b, Nat.max_assoc]
theorem ndep_app : ∀ (a b : List NestedKey), NestedKey.depthAll (a ++ b) = max (NestedKey.depthAll a) (NestedKey.depthAll b)
  | [], b => by simp [NestedKey.depthAll]
  | x :: a, b => by rw [List.cons_append, NestedKey.depthAll, NestedKey.depthAll, ndep_app a b, Nat.max_assoc]
theorem ky_col {xs : List D} (h : ∀ x ∈ xs, atm1 x) : Ky (N.colD xs) := ky_atms fun x hx => by
  rcases memC hx with rfl | hx
  · exact .inr (.inr ⟨_, rfl, strOk_lit _⟩)
  · exact h x hx
theorem ky_agg {xs c : List D} (h : ∀ x ∈ xs, atm1 x) (hc : ∀ x ∈ c, atm1 x) : Ky (.tup (.str "agg" :: (xs ++ [N.colD c]))) := by
  have h1 : ∀ x ∈ (D.str "agg" :: xs), atm1 x := fun x hx => by
    rcases memC hx with rfl | hx
    · exact .inr (.inr ⟨_, rfl, strOk_lit _⟩)
    · exact h x hx
  have h2 : ∀ x ∈ (D.str "col" :: c), atm1 x := fun x hx => by
    rcases memC hx with rfl | hx
    · exact .inr (.inr ⟨_, rfl, strOk_lit _⟩)
    · exact hc x hx
  obtain ⟨ds, ks, g1, g2, g3, g4, g5⟩ := atms_data h1
  obtain ⟨ds', ks', f1, f2, f3, f4, f5⟩ := atms_data h2
  have c1 : pyD (N.colD c) = some (.tuple ds') := by unfold N.colD; rw [pyD, f1]
  have c2 : nk (N.colD c) = some (.tup ks') := by unfold N.colD; rw [nk, f4]
  have e1 : pyDs [N.colD c] = some [.tuple ds'] := by simp [pyDs, c1]
  have e2 : nks [N.colD c] = some [.tup ks'] := by simp [nks, c2]
  have p1 := pyDs_app g1 e1
  have p2 := nks_app g4 e2
  rw [List.cons_append] at p1 p2
  refine ⟨⟨.tuple (ds ++ [.tuple ds']), by simp [pyD, p1], ?_, ?_⟩, _, .tup (ks ++ [.tup ks']), rfl, ?_⟩
  · rw [PyData.canLay0]; exact lay_app _ _ g2 (by simp [PyData.canLayAll0, PyData.canLay0, f2])
  · rw [PyData.depth, dep_app]; simp [PyData.depthAll, PyData.depth]; omega
  · unfold keyN
    simp only [nk, p2]
    rw [if_pos (by rw [NestedKey.depth, ndep_app]; simp [NestedKey.depthAll, NestedKey.depth]; omega)]
theorem ok_col {xs : List D} (h : ∀ x ∈ xs, atm1 x) (hl : xs.length ≤ 8) : (N.col xs).ok := ⟨fun x hx => atm1_flat (h x hx), hl, ky_col h⟩
theorem ok_aggc {xs c : List D} (h : ∀ x ∈ xs, atm1 x) (hc : ∀ x ∈ c, atm1 x) (hl : xs.length ≤ 8) (hcl : c.length ≤ 8) : (N.agg xs (some c)).ok :=
  ⟨fun x hx => atm1_flat (h x hx), hl, ky_agg h hc, fun c' e => by cases e; exact ⟨fun x hx => atm1_flat (hc x hx), hcl, ky_col hc⟩⟩
theorem ok_aggn {xs : List D} (h : ∀ x ∈ xs, atm1 x) (hl : xs.length ≤ 8) : (N.agg xs none).ok :=
  ⟨fun x hx => atm1_flat (h x hx), hl, ky_atms (fun x hx => by
    rcases memC hx with rfl | hx
    · exact .inr (.inr ⟨_, rfl, strOk_lit _⟩)
    · exact h x hx), fun c' e => by cases e⟩
/-! ### the law's box -/
structure Bx (b p q : Nat) (S : Sto) : Prop where
  ex : ∃ (i : Int) (pl : Bool) (sg : Int) (ns : List Int) (ag : List N), S[b]? = some (.lst [.ref p, .int i, .bl pl, .int sg, .ref q]) ∧ 0 ≤ i ∧ S[p]? = some (.lst (ns.map D.int)) ∧ S[q]? = some (.lst (ms ag)) ∧ ag.length ≤ 4 ∧
    (∀ a ∈ ag, a.ok ∧ ∃ xs c, a = .agg xs c) ∧ b ≠ p ∧ b ≠ q ∧ p ≠ q
/-- all but the box and its aggs stays -/
structure Gp (b q : Nat) (S S' : Sto) : Prop where
  mk :: (at_ : ∀ (i : Nat) (o : O), i ≠ b → i ≠ q → S[i]? = some o → jk o = o → S'[i]? = some o)
theorem Gp.go {b q : Nat} {S S' : Sto} (g : Gp b q S S') (i : Nat) (o : O) (h1 : i ≠ b) (h2 : i ≠ q) (h : S[i]? = some o) (z : jk o = o := by rfl) : S'[i]? = some o := g.at_ i o h1 h2 h z
theorem Gp.refl {b q : Nat} {S : Sto} : Gp b q S S := ⟨fun _ _ _ _ h _ => h⟩
theorem Gp.trans {b q : Nat} {S1 S2 S3 : Sto} (a : Gp b q S1 S2) (c : Gp b q S2 S3) : Gp b q S1 S3 := ⟨fun i o h1 h2 h z => c.at_ i o h1 h2 (a.at_ i o h1 h2 h z) z⟩
theorem Gp.wk {b q : Nat} {S1 S2 : Sto} (a : Gp b b S1 S2) : Gp b q S1 S2 := ⟨fun i o h1 _ h z => a.at_ i o h1 h1 h z⟩
theorem Gp.kp {b q : Nat} {S S' : Sto} (h : Kp S S') : Gp b q S S' := ⟨fun i o _ _ e _ => h i o e⟩
theorem Gp.kj {b q : Nat} {S S' : Sto} (h : Kj S S') : Gp b q S S' := ⟨fun i o _ _ e z => h i o e z⟩
theorem Bx.kp {b p q : Nat} {S S' : Sto} (h : Bx b p q S) (k : Kp S S') : Bx b p q S' := by
  obtain ⟨i, pl, sg, ns, ag, h1, h2, h3, h4, h5⟩ := h
  exact ⟨i, pl, sg, ns, ag, k _ _ h1, h2, k _ _ h3, k _ _ h4, h5⟩
theorem Bx.kj {b p q : Nat} {S S' : Sto} (h : Bx b p q S) (k : Kj S S') : Bx b p q S' := by
  obtain ⟨i, pl, sg, ns, ag, h1, h2, h3, h4, r⟩ := h.ex
  exact ⟨i, pl, sg, ns, ag, k _ _ h1 rfl, h2, k _ _ h3 rfl, k _ _ h4 rfl, r⟩
theorem Bx.lt {b p q : Nat} {S : Sto} (h : Bx b p q S) : b < S.length ∧ p < S.length ∧ q < S.length := by
  obtain ⟨i, pl, sg, ns, ag, h1, h2, h3, h4, h5⟩ := h
  exact ⟨lt_of h1, lt_of h3, lt_of h4⟩
/-- what is newer than the box stays -/
theorem Gp.new {b q n : Nat} {S S' : Sto} {o : O} (g : Gp b q S S') (hb : n ≠ b) (hq : n ≠ q) (h : S[n]? = some o) (z : jk o = o := by rfl) : S'[n]? = some o := g.at_ n o hb hq h z
theorem take_ok {b p q : Nat} {m : Int} (hm : 0 < m) {k : Nat} {S : Sto} {Q : D → Sto → Prop} (hB : Bx b p q S) (hQ : ∀ (r : Int) S', 0 ≤ r → r < m → Bx b p q S' → Gp b b S S' → Q (.int r) S') : w1 (den (k + 1) ._law_take) [.ref b, .int m] S Q := by
  obtain ⟨i, pl, sg, ns, ag, h1, h2, h3, h4, h5, h6, n1, n2, n3⟩ := hB
  refine w_body ?_
  unfold b__law_take
  decreasing_trivial_pre_omega
  refine o_ixL h1 rfl ?_
  decreasing_trivial_pre_omega
  refine ⟨_, h1, 1, rfl, ?_⟩
  decreasing_trivial_pre_omega
  have e1 : (S.set b (.lst [.ref p, .int (i + 1), .bl pl, .int sg, .ref q]))[b]? = some (.lst [.ref p, .int (i + 1), .bl pl, .int sg, .ref q]) := by array_get_dec
  have e3 : (S.set b (.lst [.ref p, .int (i + 1), .bl pl, .int sg, .ref q]))[p]? = some (.lst (ns.map D.int)) := lk_ne n1.symm h3
  have e4 : (S.set b (.lst [.ref p, .int (i + 1), .bl pl, .int sg, .ref q]))[q]? = some (.lst (ms ag)) := lk_ne n2.symm h4
  have hB' : Bx b p q (S.set b (.lst [.ref p, .int (i + 1), .bl pl, .int sg, .ref q])) := ⟨_, _, _, _, _, e1, by omega, e3, e4, h5, h6, n1, n2, n3⟩
  have hG : Gp b b S (S.set b (.lst [.ref p, .int (i + 1), .bl pl, .int sg, .ref q])) := ⟨fun j o hj _ e _ => lk_ne hj e⟩
  refine o_ixL e1 rfl ?_
  decreasing_trivial_pre_omega
  refine o_ixL e1 rfl ?_
  decreasing_trivial_pre_omega
  rw [List.length_map]
  refine iff_d (fun h => ?_) (fun h => ?_)
  · decreasing_trivial_pre_omega
    exact hQ 0 _ (by omega) hm hB' hG
  · decreasing_trivial_pre_omega
    refine o_ixL e1 rfl ?_
    decreasing_trivial_pre_omega
    refine o_ixL e1 rfl ?_
    decreasing_trivial_pre_omega
    have hx : (ns.map D.int)[i.toNat]? = some (.int (ns[i.toNat]'(by omega))) := by
      rw [List.getElem?_map, List.getElem?_eq_getElem (by omega)]; rfl
    have hi : i + 1 - 1 = ((i.toNat : Nat) : Int) := by omega
    rw [hi]
    refine o_ixL e3 (at_rng hx) ?_
    decreasing_trivial_pre_omega
    refine o_mod hm ?_
    decreasing_trivial_pre_omega
    exact hQ _ _ (Int.emod_nonneg _ (by omega)) (Int.emod_lt_of_pos _ hm) hB' hG
theorem pick_mem {xs : List D} {i : Int} (h0 : 0 ≤ i) (h1 : i < xs.length) : ∃ x, atI xs i = some x ∧ x ∈ xs := by
  have hl : i.toNat < xs.length := by omega
  refine ⟨xs[i.toNat], ?_, List.getElem_mem _⟩
  have := at_rng (List.getElem?_eq_getElem hl)
  rw [show ((i.toNat : Nat) : Int) = i from by omega] at this
  exact this
theorem log_small {i : Int} (h0 : 0 ≤ i) (h : i < 720720) : i.natAbs.log2 < 1920 := by
  have h1 : i.natAbs < 2 ^ 20 := by omega
  have := Nat.log2_lt (n := i.natAbs) (k := 20)
  by_cases hz : i.natAbs = 0
  · rw [hz]; decide
  · have := (this hz).mpr h1
    omega
theorem col_ok {b p q : Nat} {k : Nat} {S : Sto} {Q : D → Sto → Prop} (hB : Bx b p q S) (hQ : ∀ xs S', (∀ x ∈ xs, atm1 x) → xs.length ≤ 2 → Bx b p q S' → Gp b b S S' → Q (N.col xs).d S') : w1 (den (k + 2) ._law_col) [.ref b] S Q := by
  refine w_body ?_
  unfold b__law_col
  decreasing_trivial_pre_omega
  refine take_ok (by decide) hB ?_
  intro r S1 r0 r1 B1 G1
  decreasing_trivial_pre_omega
  have hlit : ∀ s : String, atm1 (.str (Str.ofString s)) := fun s => .inr (.inr ⟨_, rfl, strOk_lit s⟩)
  have hint : ∀ i : Int, atm1 (.int i) := fun i => .inr (.inl ⟨i, rfl⟩)
  have first : wE (tupM (consA (conM (.str "col")) (consA (binM ixF (lstM (consA (conM (.str "t")) (consA (conM (.str "s")) (nilA)))) (binM modF (appM intF (consA (varM 1) (nilA))) (conM (.int 2)))) (consA (binM ixF (lstM (consA (conM (.str "a")) (consA (conM (.str "b")) (consA (conM (.str "s")) (nilA))))) (callM 2 (den (k + 1) ._law_take) (consA (varM 0) (consA (conM (.int 3)) (nilA))))) (nilA))))) [some (.ref b), some (.int r)] S1 Q := by
    decreasing_trivial_pre_omega
    refine ⟨by simp [sizeLine], ?_⟩
    decreasing_trivial_pre_omega
    refine o_mod (by decide) ?_
    decreasing_trivial_pre_omega
    refine ⟨lk_new, ?_⟩
    obtain ⟨x, hx, hxm⟩ := pick_mem (xs := [.str "t", .str "s"]) (i := r % 2) (Int.emod_nonneg _ (by omega)) (by have := Int.emod_lt_of_pos r (show (0 : Int) < 2 by omega); simpa using this)
    refine ⟨x, hx, ?_⟩
    decreasing_trivial_pre_omega
    refine ⟨by simp [sizeLine], ?_⟩
    decreasing_trivial_pre_omega
    have B2 := (B1.kp (Kp.refl.app (J := [O.lst [.str "t", .str "s"]]))).kp (Kp.refl.app (J := [O.lst [.str "a", .str "b", .str "s"]]))
    refine take_ok (by decide) B2 ?_
    intro r2 S3 s0 s1 B3 G3
    decreasing_trivial_pre_omega
    have hlt := B2.lt
    have hlt1 := (B1.kp (Kp.refl.app (J := [O.lst [.str "t", .str "s"]]))).lt
    refine ⟨G3.go _ _ (by omega) (by omega) lk_new, ?_⟩
    obtain ⟨y, hy, hym⟩ := pick_mem (xs := [.str "a", .str "b", .str "s"]) (i := r2) s0 (by simpa using s1)
    refine ⟨y, hy, ?_⟩
    decreasing_trivial_pre_omega
    refine ⟨by simp [sizeLine], ?_⟩
    have G4 : Gp b b S S3 := (G1.trans (Gp.kp (Kp.refl.app.app))).trans G3
    refine hQ [x, y] _ ?_ (by simp) B3 G4
    intro z hz
    simp at hz hxm hym
    rcases hz with rfl | rfl
    · rcases hxm with rfl | rfl <;> exact hlit _
    · rcases hym with rfl | rfl | rfl <;> exact hlit _
  have rest : wS (seqM (ifS (tstM (binM ltF (varM 1) (conM (.int 6)))) (rtM (tupM (consA (conM (.str "col")) (consA (callM 2 (den (k + 1) ._law_take) (consA (varM 0) (consA (conM (.int 4)) (nilA)))) (consA (callM 2 (den (k + 1) ._law_take) (consA (varM 0) (consA (conM (.int 3)) (nilA)))) (nilA)))))) (nxM)) (seqM (ifS (tstM (binM eqF (varM 1) (conM (.int 6)))) (rtM (tupM (consA (conM (.str "col")) (consA (callM 2 (den (k + 1) ._law_take) (consA (varM 0) (consA (conM (.int 4)) (nilA)))) (nilA))))) (nxM)) (rtM (tupM (consA (conM (.str "col")) (consA (binM addF (conM (.str "u")) (appM strF (consA (callM 2 (den (k + 1) ._law_take) (consA (varM 0) (consA (conM (.int 720720)) (nilA)))) (nilA)))) (consA (conM (.str "a")) (nilA)))))))) [some (.ref b), some (.int r)] S1 (retQ Q) := by
    decreasing_trivial_pre_omega
    refine iff_d (fun h => ?_) (fun h => ?_)
    · decreasing_trivial_pre_omega
      refine take_ok (by decide) B1 ?_
      intro r2 S2 _ _ B2 G2
      decreasing_trivial_pre_omega
      refine take_ok (by decide) B2 ?_
      intro r3 S3 _ _ B3 G3
      decreasing_trivial_pre_omega
      refine ⟨by simp [sizeLine], ?_⟩
      decreasing_trivial_pre_omega
      refine hQ [.int r2, .int r3] _ ?_ (by simp) B3 ((G1.trans G2).trans G3)
      intro z hz
      simp at hz
      rcases hz with rfl | rfl <;> exact hint _
    · decreasing_trivial_pre_omega
      refine iff_b (fun h => ?_) (fun h => ?_)
      · decreasing_trivial_pre_omega
        refine take_ok (by decide) B1 ?_
        intro r2 S2 _ _ B2 G2
        decreasing_trivial_pre_omega
        refine ⟨by simp [sizeLine], ?_⟩
        decreasing_trivial_pre_omega
        refine hQ [.int r2] _ ?_ (by simp) B2 (G1.trans G2)
        intro z hz
        simp at hz
        subst hz; exact hint _
      · decreasing_trivial_pre_omega
        refine take_ok (by decide) B1 ?_
        intro r2 S2 t0 t1 B2 G2
        decreasing_trivial_pre_omega
        refine f_str (log_small t0 t1) ?_
        decreasing_trivial_pre_omega
        refine o_addS ?_ ?_
        · have := PyProof.Rows.toString_length_le (v := r2) t0 (k := 6) (by decide) (by omega)
          have e : (Str.ofString "u").length = 1 := by decide +kernel
          rw [e]; simp only [sizeLine]; omega
        decreasing_trivial_pre_omega
        refine ⟨by simp [sizeLine], ?_⟩
        decreasing_trivial_pre_omega
        refine hQ [.str (Str.ofString "u" ++ Str.ofString (toString r2)), .str "a"] _ ?_ (by simp) B2 (G1.trans G2)
        intro z hz
        simp at hz
        rcases hz with rfl | rfl
        · exact .inr (.inr ⟨_, rfl, strOk_app (strOk_lit _) (strOk_lit _)⟩)
        · exact hlit _
  refine iff_d (fun h => ?_) (fun h => ?_)
  · refine iff_t ?_
    refine s_rt ?_
    refine first.mono fun d T hd => .rt (.rt hd)
  · decreasing_trivial_pre_omega
    obtain ⟨i, pl, sg, ns, ag, h1, hrest⟩ := B1.ex
    refine o_ixL h1 rfl ?_
    decreasing_trivial_pre_omega
    refine iff_b (fun hp => ?_) (fun hp => ?_)
    · decreasing_trivial_pre_omega
      refine iff_d (fun h => ?_) (fun h => ?_)
      · refine s_rt ?_
        refine first.mono fun d T hd => .rt (.rt hd)
      · refine s_nx (th_nx ?_)
        exact rest
    · refine iff_f ?_
      refine s_nx (th_nx ?_)
      exact rest
def isAgg (n : N) : Prop := ∃ xs c, n = .agg xs c
theorem agg_fit {n : N} (h : n.ok) (ha : isAgg n) : fit 2 n.d ∧ n.sz ≤ 2 ∧ n.ht = 0 := by
  obtain ⟨xs, c, rfl⟩ := ha
  have fl : ∀ x ∈ xs, fit 1 x := fun x hx => fit_flat (h.1 x hx) 1
  have hl := h.2.1
  cases c with
  | none =>
    refine ⟨fit_tup (by simp; omega) fun x hx => ?_, by simp [N.sz], by simp [N.ht]⟩
    rcases memC hx with rfl | hx
    · exact fit_flat rfl 1
    · exact fl x hx
  | some c =>
    obtain ⟨c1, c2, _⟩ := h.2.2.2 c rfl
    refine ⟨fit_tup (by simp; omega) fun x hx => ?_, by simp [N.sz], by simp [N.ht]⟩
    rcases memC hx with rfl | hx
    · exact fit_flat rfl 1
    · rcases memA hx with hx | hx
      · exact fl x hx
      · simp at hx; subst hx
        refine fit_tup (by simp; omega) fun y hy => ?_
        rcases memC hy with rfl | hy
        · exact fit_flat rfl 0
        · exact c1 y hy
theorem col_fit {xs : List D} (h : ∀ x ∈ xs, atm1 x) (hl : xs.length ≤ 2) : fit 1 (N.col xs).d := by
  refine fit_tup (by simp; omega) fun y hy => ?_
  rcases memC hy with rfl | hy
  · exact fit_flat rfl 0
  · exact atm1_flat (h y hy)
theorem Gp.at {b n : Nat} {S S' : Sto} {o : O} (g : Gp b b S S') (hb : n ≠ b) (h : S[n]? = some o) (z : jk o = o := by rfl) : S'[n]? = some o := g.at_ n o hb hb h z
local macro_rules | `(tactic| sizeOf_list_dec) => `(tactic| repeat (first | array_mem_dec | refine ⟨by simp only [List.length_cons, List.length_nil, sizeLine]; omega, ?_⟩))
theorem iff_t' {b : Bool} {P Q : Prop} (h : b = true) (p : P) : iff2 b P Q := by subst h; exact iff_t p
theorem agg_ok {b p q : Nat} {k : Nat} {S : Sto} {Q : D → Sto → Prop} (hB : Bx b p q S) (hQ : ∀ n S', n.ok → isAgg n → Bx b p q S' → Gp b q S S' → Q n.d S') : w1 (den (k + 3) ._law_agg) [.ref b] S Q := by
  refine w_body ?_
  unfold b__law_agg
  decreasing_trivial_pre_omega
  refine take_ok (by decide) hB ?_
  intro r S1 r0 r1 B1 G1
  decreasing_trivial_pre_omega
  obtain ⟨i1, pl1, sg1, ns1, ag, h1, i0, h3, h4, h5, h6, n1, n2, n3⟩ := B1.ex
  refine o_ixL h1 rfl ?_
  decreasing_trivial_pre_omega
  rw [ms_length]
  refine iff_d (fun hg => ?_) (fun hg => ?_)
  · decreasing_trivial_pre_omega
    refine o_ixL h1 rfl ?_
    decreasing_trivial_pre_omega
    refine o_mod (by decide) ?_
    decreasing_trivial_pre_omega
    have hm0 := Int.emod_nonneg r (show (3 : Int) ≠ 0 by omega)
    have hm1 := Int.emod_lt_of_pos r (show (0 : Int) < 3 by omega)
    have hlt : (1 + r % 3).toNat < ag.length := by omega
    have hx : (ms ag)[(1 + r % 3).toNat]? = some (ag[(1 + r % 3).toNat]).d := by simp [ms, hlt]
    have := at_rng hx
    rw [show (((1 + r % 3).toNat : Nat) : Int) = 1 + r % 3 from by omega] at this
    refine o_ixL h4 this ?_
    decreasing_trivial_pre_omega
    obtain ⟨a1, a2⟩ := h6 _ (List.getElem_mem hlt)
    exact hQ _ _ a1 a2 B1 G1.wk
  · decreasing_trivial_pre_omega
    have h5' : ag.length ≤ 3 := by omega
    refine ⟨by simp [sizeLine], ?_⟩
    decreasing_trivial_pre_omega
    refine ⟨lk_new, ?_⟩
    obtain ⟨x, hx, hxm⟩ := pick_mem (xs := [.str "count", .str "sum", .str "min", .str "max"]) (i := if r - 2 > 0 then r - 2 else 0) (by split <;> omega) (by simp; split <;> omega)
    refine ⟨x, hx, ?_⟩
    decreasing_trivial_pre_omega
    refine col_ok (B1.kp Kp.refl.app) ?_
    intro xs S2 hxs hxl B2 G2
    decreasing_trivial_pre_omega
    refine ⟨by simp [sizeLine], ?_⟩
    decreasing_trivial_pre_omega
    have hlt1 := B1.lt
    have G12 : Gp b b S S2 := (G1.trans (Gp.kp Kp.refl.app)).trans G2
    have q2 : S2[q]? = some (.lst (ms ag)) := G2.at n2.symm (lk_app h4)
    have hlit : ∀ s : String, atm1 (.str (Str.ofString s)) := fun s => .inr (.inr ⟨_, rfl, strOk_lit s⟩)
    have hint : ∀ i : Int, atm1 (.int i) := fun i => .inr (.inl ⟨i, rfl⟩)
    have hxa : atm1 x := by
      simp at hxm
      rcases hxm with rfl | rfl | rfl | rfl <;> exact hlit _
    have A0 : (N.agg [x] (some xs)).ok := ok_aggc (fun y hy => by simp at hy; subst hy; exact hxa) hxs (by simp) (by omega)
    -- the end
    have last : ∀ (a : N) (T : Sto), a.ok → isAgg a → Bx b p q T → Gp b b S T → T[q]? = some (.lst (ms ag)) →
        wS (seqM (ifS (tstM (binM (inF true) (varM 2) (binM ixF (varM 0) (conM (.int 4))))) (exM (metM "list" appendF (binM ixF (varM 0) (conM (.int 4))) (consA (varM 2) (nilA)))) (nxM)) (rtM (varM 2))) [some (.ref b), some (.int r), some a.d] T (retQ Q) := by
      intro a T ha hag BT GT qT
      obtain ⟨it, plt, sgt, nst, agt, t1, t0, t3, t4, t5, t6, _⟩ := BT.ex
      have hky : ∀ y ∈ ms ag, Ky y := by
        intro y hy
        simp [ms] at hy
        obtain ⟨z, hz, rfl⟩ := hy
        obtain ⟨z1, xs, c, rfl⟩ := h6 z hz
        exact z1.2.2.1
      have hka : Ky a.d := by
        obtain ⟨xs, c, rfl⟩ := hag
        exact ha.2.2.1
      decreasing_trivial_pre_omega
      refine o_ixL t1 rfl ?_
      refine notin_ok qT hka hky ?_
      decreasing_trivial_pre_omega
      refine iff_b (fun hm => ?_) (fun hm => ?_)
      · decreasing_trivial_pre_omega
        refine o_ixL t1 rfl ?_
        refine ⟨ty_lst qT, ?_⟩
        decreasing_trivial_pre_omega
        refine m_append qT (by rw [ms_length]; simp only [sizeLine]; omega) ?_
        decreasing_trivial_pre_omega
        rw [← ms_snoc]
        refine hQ a _ ha hag ?_ ?_
        · refine ⟨it, plt, sgt, nst, ag ++ [a], lk_ne n2 t1, t0, lk_ne n3 t3, lk_set qT, by simp; omega, ?_, n1, n2, n3⟩
          intro z hz
          rcases memA hz with hz | hz
          · exact h6 z hz
          · simp at hz; subst hz; exact ⟨ha, hag⟩
        · refine ⟨fun j o j1 j2 e z => ?_⟩
          exact lk_ne j2 (GT.at j1 e z)
      · decreasing_trivial_pre_omega
        exact hQ a _ ha hag BT GT.wk
    -- an int in the place of a column
    have mid : ∀ (a : N) (T : Sto), a.ok → isAgg a → Bx b p q T → Gp b b S T → T[q]? = some (.lst (ms ag)) →
        wS (seqM (ifS (andC (tstM (binM eqF (varM 1) (conM (.int 1)))) (notC (truC (binM ixF (varM 0) (conM (.int 2)))))) (asgM (tupM (consA (conM (.str "agg")) (consA (callM 2 (den (k + 2) ._law_take) (consA (varM 0) (consA (conM (.int 4)) (nilA)))) (nilA)))) (nameG 2)) (nxM)) (seqM (ifS (tstM (binM (inF true) (varM 2) (binM ixF (varM 0) (conM (.int 4))))) (exM (metM "list" appendF (binM ixF (varM 0) (conM (.int 4))) (consA (varM 2) (nilA)))) (nxM)) (rtM (varM 2)))) [some (.ref b), some (.int r), some a.d] T (retQ Q) := by
      intro a T ha hag BT GT qT
      obtain ⟨it, plt, sgt, nst, agt, t1, t0, t3, t4, t5, t6, _⟩ := BT.ex
      decreasing_trivial_pre_omega
      refine iff_b (fun hr => ?_) (fun hr => ?_)
      · decreasing_trivial_pre_omega
        refine o_ixL t1 rfl ?_
        decreasing_trivial_pre_omega
        refine iff_b (fun hp => ?_) (fun hp => ?_)
        · decreasing_trivial_pre_omega
          refine take_ok (by decide) BT ?_
          intro r2 T2 _ _ BT2 GT2
          decreasing_trivial_pre_omega
          refine ⟨by simp [sizeLine], ?_⟩
          refine g_name (th_nx ?_)
          have A2 : (N.agg [.int r2] none).ok := ok_aggn (fun y hy => by simp at hy; subst hy; exact hint _) (by simp)
          exact last _ T2 A2 ⟨_, _, rfl⟩ BT2 (GT.trans GT2) (GT2.at n2.symm qT)
        · refine s_nx (th_nx ?_)
          exact last a T ha hag BT GT qT
      · refine iff_f ?_
        refine s_nx (th_nx ?_)
        exact last a T ha hag BT GT qT
    obtain ⟨i2, pl2, sg2, ns2, ag2, u1, u0, u3, u4, u5, u6, _⟩ := B2.ex
    refine iff_b (fun hr => ?_) (fun hr => ?_)
    · decreasing_trivial_pre_omega
      refine o_ixL u1 rfl ?_
      decreasing_trivial_pre_omega
      refine iff_d (fun hs => ?_) (fun hs => ?_)
      · decreasing_trivial_pre_omega
        refine o_ixL u1 rfl ?_
        decreasing_trivial_pre_omega
        refine iff_b (fun hl => ?_) (fun hl => ?_)
        · decreasing_trivial_pre_omega
          refine o_ixL u1 rfl ?_
          decreasing_trivial_pre_omega
          refine ⟨_, u1, 3, rfl, ?_⟩
          refine th_nx (s_asg (v_tup (a_cons (v_con (a_cons (v_con (a_cons (v_con (a_nil ⟨by simp [sizeLine], g_name (th_nx ?_)⟩)))))))))
          have A3 : (N.agg [.str "count", .non] none).ok := ok_aggn (fun y hy => by
            simp at hy
            rcases hy with rfl | rfl
            · exact hlit _
            · exact .inl rfl) (by simp)
          exact mid _ _ A3 ⟨_, _, rfl⟩ ⟨i2, pl2, _, ns2, ag2, lk_set u1, u0, lk_ne n1.symm u3, lk_ne n2.symm u4, u5, u6, n1, n2, n3⟩ ⟨fun j o j1 _ e z => lk_ne j1 (G12.at j1 e z)⟩ (lk_ne n2.symm q2)
        · refine s_nx (th_nx ?_)
          exact mid _ S2 A0 ⟨_, _, rfl⟩ B2 G12 q2
      · refine iff_f ?_
        refine s_nx (th_nx ?_)
        exact mid _ S2 A0 ⟨_, _, rfl⟩ B2 G12 q2
    · refine iff_f ?_
      refine s_nx (th_nx ?_)
      exact mid _ S2 A0 ⟨_, _, rfl⟩ B2 G12 q2
def eb : Nat → Nat
  | 0 => 2
  | d + 1 => 2 * eb d + 1
def cb : Nat → Nat
  | 0 => 48
  | d + 1 => 2 * cb d + 1
theorem eb_le : ∀ d, 2 ≤ eb d
  | 0 => by simp [eb]
  | d + 1 => by have := eb_le d; simp [eb]; omega
theorem cb_le : ∀ d, 48 ≤ cb d
  | 0 => by simp [cb]
  | d + 1 => by have := cb_le d; simp [cb]; omega
structure Ex (d : Nat) (n : N) : Prop where
  ok : n.ok
  sz : n.sz ≤ eb d
  ht : n.ht ≤ d
  fit : Gn.fit (d + 2) n.d
structure Cd (d : Nat) (n : N) : Prop where
  ok : n.ok
  sz : n.sz ≤ cb d
  ht : n.ht ≤ d + 5
  fit : Gn.fit (d + 9) n.d
theorem Bx.dec {b p q : Nat} {S : Sto} {i : Int} {pl : Bool} {sg sg' : Int} {l : List D} (hB : Bx b p q S) (h : S[b]? = some (.lst [.ref p, .int i, .bl pl, .int sg, .ref q])) (hl : l = [.ref p, .int i, .bl pl, .int sg', .ref q]) : Bx b p q (S.set b (.lst l)) := by
  subst hl
  obtain ⟨i1, pl1, sg1, ns1, ag, h1, i0, h3, h4, h5, h6, n1, n2, n3⟩ := hB.ex
  rw [h1] at h; cases h
  exact ⟨_, _, _, _, _, lk_set h1, i0, lk_ne n1.symm h3, lk_ne n2.symm h4, h5, h6, n1, n2, n3⟩
theorem Gp.dec {b q : Nat} {S : Sto} {o : O} : Gp b q S (S.set b o) := ⟨fun i u h1 _ e _ => lk_ne h1 e⟩
theorem expr_ok : ∀ (d K : Nat), d + 4 ≤ K → ∀ {b p q : Nat} {S : Sto} {Q : D → Sto → Prop}, Bx b p q S → (∀ n S', Ex d n → Bx b p q S' → Gp b q S S' → Q n.d S') → w1 (den K ._law_expr) [.ref b, .int (d : Nat)] S Q := by
  intro d
  induction d with
  | zero =>
    intro K hK b p q S Q hB hQ
    obtain ⟨k, rfl⟩ : ∃ r, K = r + 4 := ⟨K - 4, by omega⟩
    refine w_body ?_
    unfold b__law_expr
    decreasing_trivial_pre_omega
    refine take_ok (by decide) hB ?_
    intro r S1 r0 r1 B1 G1
    decreasing_trivial_pre_omega
    refine iff_f ?_
    decreasing_trivial_pre_omega
    refine iff_f ?_
    decreasing_trivial_pre_omega
    have hint : ∀ i : Int, fit 1 (.int i) := fun i => fit_flat rfl 1
    have hlit : ∀ z : Str, fit 1 (.str z) := fun i => fit_flat rfl 1
    refine iff_b (fun h => ?_) (fun h => ?_)
    · decreasing_trivial_pre_omega
      refine take_ok (by decide) B1 ?_
      intro r2 S2 _ _ B2 G2
      decreasing_trivial_pre_omega
      refine ⟨by simp [sizeLine], ?_⟩
      decreasing_trivial_pre_omega
      refine hQ (.atm "num" [.int r2]) _ ⟨?_, by simp [N.sz, eb], by simp [N.ht], ?_⟩ B2 (G1.wk.trans G2.wk)
      · refine ⟨.inl ⟨.inl rfl, fun x hx => ?_⟩, by simp, fun x hx => ?_⟩
        · simp at hx; subst hx; rfl
        · simp at hx; subst hx; exact fit_flat rfl _
      · refine fit_tup (by simp) fun x hx => ?_
        simp at hx
        rcases hx with rfl | rfl
        · exact hlit _
        · exact hint _
    · decreasing_trivial_pre_omega
      refine iff_b (fun h => ?_) (fun h => ?_)
      · decreasing_trivial_pre_omega
        refine ⟨by simp [sizeLine], ?_⟩
        decreasing_trivial_pre_omega
        have hlt := B1.lt
        refine take_ok (by decide) (B1.kp Kp.refl.app) ?_
        intro r2 S2 s0 s1 B2 G2
        decreasing_trivial_pre_omega
        refine ⟨G2.at (by omega) lk_new, ?_⟩
        obtain ⟨x, hx, hxm⟩ := pick_mem (xs := [.str "", .str "col", .str "agg", .str "t", .str "count", .str "and", .str "exists", .str "in"]) (i := r2) s0 (by simpa using s1)
        refine ⟨x, hx, ?_⟩
        decreasing_trivial_pre_omega
        refine ⟨by simp [sizeLine], ?_⟩
        decreasing_trivial_pre_omega
        have hf : flatD x = true := by
          simp at hxm
          rcases hxm with rfl | rfl | rfl | rfl | rfl | rfl | rfl | rfl <;> rfl
        refine hQ (.atm "text" [x]) _ ⟨?_, by simp [N.sz, eb], by simp [N.ht], ?_⟩ B2 ((G1.wk.trans (Gp.kp Kp.refl.app)).trans G2.wk)
        · refine ⟨.inl ⟨.inr rfl, fun y hy => ?_⟩, by simp, fun y hy => ?_⟩
          · simp at hy; subst hy; exact hf
          · simp at hy; subst hy; exact fit_flat hf _
        · refine fit_tup (by simp) fun y hy => ?_
          simp at hy
          rcases hy with rfl | rfl
          · exact hlit _
          · exact fit_flat hf _
      · decreasing_trivial_pre_omega
        refine iff_d (fun h => ?_) (fun h => ?_)
        · decreasing_trivial_pre_omega
          refine agg_ok B1 ?_
          intro n S2 hn ha B2 G2
          decreasing_trivial_pre_omega
          obtain ⟨f1, f2, f3⟩ := agg_fit hn ha
          exact hQ n _ ⟨hn, by simpa [eb] using f2, by omega, f1⟩ B2 (G1.wk.trans G2)
        · decreasing_trivial_pre_omega
          refine col_ok B1 ?_
          intro xs S2 hxs hxl B2 G2
          decreasing_trivial_pre_omega
          exact hQ _ _ ⟨ok_col hxs (by omega), by simp [N.sz, eb], by simp [N.ht], fit_succ (col_fit hxs hxl)⟩ B2 (G1.wk.trans G2.wk)
  | succ d ih =>
    intro K hK b p q S Q hB hQ
    obtain ⟨k, rfl⟩ : ∃ r, K = r + 4 := ⟨K - 4, by omega⟩
    refine w_body ?_
    unfold b__law_expr
    decreasing_trivial_pre_omega
    refine take_ok (by decide) hB ?_
    intro r S1 r0 r1 B1 G1
    decreasing_trivial_pre_omega
    have hint : ∀ m (i : Int), fit m (.int i) := fun m i => fit_flat rfl m
    have hlit : ∀ m (z : Str), fit m (.str z) := fun m i => fit_flat rfl m
    have e2 := eb_le (d + 1)
    have rest : wS (seqM (ifS (tstM (binM eqF (varM 2) (conM (.int 1)))) (rtM (tupM (consA (conM (.str "num")) (consA (callM 2 (den (k + 3) ._law_take) (consA (varM 0) (consA (conM (.int 720720)) (nilA)))) (nilA))))) (nxM)) (seqM (ifS (tstM (binM eqF (varM 2) (conM (.int 2)))) (rtM (tupM (consA (conM (.str "text")) (consA (binM ixF (lstM (consA (conM (.str "")) (consA (conM (.str "col")) (consA (conM (.str "agg")) (consA (conM (.str "t")) (consA (conM (.str "count")) (consA (conM (.str "and")) (consA (conM (.str "exists")) (consA (conM (.str "in")) (nilA)))))))))) (callM 2 (den (k + 3) ._law_take) (consA (varM 0) (consA (conM (.int 8)) (nilA))))) (nilA))))) (nxM)) (seqM (ifS (tstM (binM gtF (varM 2) (conM (.int 4)))) (rtM (callM 1 (den (k + 3) ._law_agg) (consA (varM 0) (nilA)))) (nxM)) (rtM (callM 1 (den (k + 3) ._law_col) (consA (varM 0) (nilA))))))) [some (.ref b), some (.int ((d + 1 : Nat) : Int)), some (.int r), none] S1 (retQ Q) := by
      decreasing_trivial_pre_omega
      refine iff_b (fun h => ?_) (fun h => ?_)
      · decreasing_trivial_pre_omega
        refine take_ok (by decide) B1 ?_
        intro r2 S2 _ _ B2 G2
        decreasing_trivial_pre_omega
        refine ⟨by simp [sizeLine], ?_⟩
        decreasing_trivial_pre_omega
        refine hQ (.atm "num" [.int r2]) _ ⟨?_, by simp [N.sz]; omega, by simp [N.ht], ?_⟩ B2 (G1.wk.trans G2.wk)
        · refine ⟨.inl ⟨.inl rfl, fun x hx => ?_⟩, by simp, fun x hx => ?_⟩
          · simp at hx; subst hx; rfl
          · simp at hx; subst hx; exact fit_flat rfl _
        · refine fit_tup (by simp) fun x hx => ?_
          simp at hx
          rcases hx with rfl | rfl
          · exact hlit _ _
          · exact hint _ _
      · decreasing_trivial_pre_omega
        refine iff_b (fun h => ?_) (fun h => ?_)
        · decreasing_trivial_pre_omega
          refine ⟨by simp [sizeLine], ?_⟩
          decreasing_trivial_pre_omega
          have hlt := B1.lt
          refine take_ok (by decide) (B1.kp Kp.refl.app) ?_
          intro r2 S2 s0 s1 B2 G2
          decreasing_trivial_pre_omega
          refine ⟨G2.at (by omega) lk_new, ?_⟩
          obtain ⟨x, hx, hxm⟩ := pick_mem (xs := [.str "", .str "col", .str "agg", .str "t", .str "count", .str "and", .str "exists", .str "in"]) (i := r2) s0 (by simpa using s1)
          refine ⟨x, hx, ?_⟩
          decreasing_trivial_pre_omega
          refine ⟨by simp [sizeLine], ?_⟩
          decreasing_trivial_pre_omega
          have hf : flatD x = true := by
            simp at hxm
            rcases hxm with rfl | rfl | rfl | rfl | rfl | rfl | rfl | rfl <;> rfl
          refine hQ (.atm "text" [x]) _ ⟨?_, by simp [N.sz]; omega, by simp [N.ht], ?_⟩ B2 ((G1.wk.trans (Gp.kp Kp.refl.app)).trans G2.wk)
          · refine ⟨.inl ⟨.inr rfl, fun y hy => ?_⟩, by simp, fun y hy => ?_⟩
            · simp at hy; subst hy; exact hf
            · simp at hy; subst hy; exact fit_flat hf _
          · refine fit_tup (by simp) fun y hy => ?_
            simp at hy
            rcases hy with rfl | rfl
            · exact hlit _ _
            · exact fit_flat hf _
        · decreasing_trivial_pre_omega
          refine iff_d (fun h => ?_) (fun h => ?_)
          · decreasing_trivial_pre_omega
            refine agg_ok B1 ?_
            intro n S2 hn ha B2 G2
            decreasing_trivial_pre_omega
            obtain ⟨f1, f2, f3⟩ := agg_fit hn ha
            exact hQ n _ ⟨hn, by omega, by omega, fit_le f1 (by omega)⟩ B2 (G1.wk.trans G2)
          · decreasing_trivial_pre_omega
            refine col_ok B1 ?_
            intro xs S2 hxs hxl B2 G2
            decreasing_trivial_pre_omega
            exact hQ _ _ ⟨ok_col hxs (by omega), by simp [N.sz]; omega, by simp [N.ht], fit_le (col_fit hxs hxl) (by omega)⟩ B2 (G1.wk.trans G2.wk)
    refine iff_t' (by first | (simp; done) | (simp; omega)) ?_
    decreasing_trivial_pre_omega
    refine iff_d (fun h7 => ?_) (fun h7 => ?_)
    · decreasing_trivial_pre_omega
      obtain ⟨i1, pl1, sg1, ns1, ag, h1, hr1⟩ := B1.ex
      refine o_ixL h1 rfl ?_
      decreasing_trivial_pre_omega
      refine iff_d (fun h8 => ?_) (fun h8 => ?_)
      · decreasing_trivial_pre_omega
        refine o_ixL h1 rfl ?_
        decreasing_trivial_pre_omega
        refine ⟨_, h1, 3, rfl, ?_⟩
        have B2 : Bx b p q (S1.set b (.lst [.ref p, .int i1, .bl pl1, .int (sg1 - 1), .ref q])) := B1.dec h1 rfl
        have G2 : Gp b q S (S1.set b (.lst [.ref p, .int i1, .bl pl1, .int (sg1 - 1), .ref q])) := G1.wk.trans Gp.dec
        have es : ((d + 1 : Nat) : Int) - 1 = (d : Nat) := by omega
        decreasing_trivial_pre_omega
        refine iff_d (fun h9 => ?_) (fun h9 => ?_)
        · decreasing_trivial_pre_omega
          rw [es]
          refine ih _ (by omega) B2 ?_
          intro n S3 hn B3 G3
          decreasing_trivial_pre_omega
          refine ⟨by simp [sizeLine], ?_⟩
          decreasing_trivial_pre_omega
          refine hQ (.un "neg" n) _ ⟨⟨.inl rfl, hn.ok⟩, ?_, ?_, ?_⟩ B3 (G2.trans G3)
          · have := hn.sz; simp [N.sz, eb]; omega
          · have := hn.ht; simp [N.ht]; omega
          · refine fit_tup (by simp) fun x hx => ?_
            simp at hx
            rcases hx with rfl | rfl
            · exact hlit _ _
            · exact hn.fit
        · decreasing_trivial_pre_omega
          rw [es]
          refine ih _ (by omega) B2 ?_
          intro n S3 hn B3 G3
          decreasing_trivial_pre_omega
          refine ⟨by simp [sizeLine], ?_⟩
          decreasing_trivial_pre_omega
          refine ⟨lk_new, ?_⟩
          obtain ⟨x, hx, hxm⟩ := pick_mem (xs := [.str "add", .str "sub", .str "mul", .str "add"]) (i := r - 8) (by omega) (by simp; omega)
          refine ⟨x, hx, ?_⟩
          decreasing_trivial_pre_omega
          rw [es]
          refine ih _ (by omega) (B3.kp Kp.refl.app) ?_
          intro m S4 hm B4 G4
          decreasing_trivial_pre_omega
          refine ⟨by simp [sizeLine], ?_⟩
          decreasing_trivial_pre_omega
          have hz : ∃ z : Str, x = .str z ∧ (z = "add" ∨ z = "sub" ∨ z = "mul" ∨ z = "and" ∨ z = "or") := by
            simp at hxm
            rcases hxm with rfl | rfl | rfl | rfl
            · exact ⟨_, rfl, .inl rfl⟩
            · exact ⟨_, rfl, .inr (.inl rfl)⟩
            · exact ⟨_, rfl, .inr (.inr (.inl rfl))⟩
            · exact ⟨_, rfl, .inl rfl⟩
          obtain ⟨z, rfl, hz⟩ := hz
          refine hQ (.two z [] n m) _ ⟨⟨.inl ⟨hz, rfl⟩, hn.ok, hm.ok⟩, ?_, ?_, ?_⟩ B4 ((G2.trans G3).trans ((Gp.kp Kp.refl.app).trans G4))
          · have := hn.sz; have := hm.sz; simp [N.sz, eb]; omega
          · have := hn.ht; have := hm.ht; simp [N.ht]; omega
          · refine fit_tup (by simp) fun x hx => ?_
            simp at hx
            rcases hx with rfl | rfl | rfl
            · exact hlit _ _
            · exact hn.fit
            · exact hm.fit
      · refine s_nx (th_nx ?_)
        exact rest
    · refine iff_f ?_
      refine s_nx (th_nx ?_)
      exact rest
theorem fl_lit (m : Nat) (z : Str) : fit m (.str z) := fit_flat rfl m
theorem fl_non (m : Nat) : fit m .non := fit_flat rfl m
theorem fl_bl (m : Nat) (b : Bool) : fit m (.bl b) := fit_flat rfl m
theorem question_ok {K : Nat} (hK : 5 ≤ K) {b p q : Nat} {S : Sto} {Q : D → Sto → Prop} (hB : Bx b p q S) (hQ : ∀ x S', fit 6 x → flatD x = false → Bx b p q S' → Gp b q S S' → Q x S') : w1 (den (K + 1) ._law_question) [.ref b] S Q := by
  refine w_body ?_
  unfold b__law_question
  decreasing_trivial_pre_omega
  refine expr_ok 1 K hK hB ?_
  intro n S1 hn B1 G1
  decreasing_trivial_pre_omega
  obtain ⟨k, rfl⟩ : ∃ r, K = r + 5 := ⟨K - 5, by omega⟩
  refine take_ok (by decide) B1 ?_
  intro r S2 _ _ B2 G2
  decreasing_trivial_pre_omega
  have last : ∀ (w : D) (T : Sto), fit 4 w → Bx b p q T → Gp b q S T →
      wS (seqM (asgM (tupM (consA (conM (.str "from")) (consA (tupM (consA (conM (.str "named")) (consA (conM (.str "s")) (nilA)))) (consA (conM (.str "s")) (consA (conM .non) (nilA)))))) (nameG 3)) (rtM (tupM (consA (conM (.str "question")) (consA (tupM (nilA)) (consA (conM (.bl false)) (consA (tupM (consA (tupM (consA (varM 1) (consA (conM (.str "x")) (nilA)))) (nilA))) (consA (tupM (consA (varM 3) (nilA))) (consA (varM 2) (consA (tupM (consA (callM 1 (den (k + 5) ._law_col) (consA (varM 0) (nilA))) (nilA))) (consA (conM .non) (consA (tupM (nilA)) (consA (conM .non) (nilA)))))))))))))) [some (.ref b), some n.d, some w, none] T (retQ Q) := by
    intro w T hw BT GT
    sizeOf_list_dec
    refine col_ok BT ?_
    intro xs T2 hxs hxl BT2 GT2
    sizeOf_list_dec
    refine hQ _ _ ?_ rfl BT2 (GT.trans GT2.wk)
    refine fit_tup (by simp) fun x hx => ?_
    have t0 : ∀ m, fit (m + 1) (.tup []) := fun m => fit_tup (by simp) (by simp)
    simp at hx
    rcases hx with rfl | rfl | rfl | rfl | rfl | rfl | rfl | rfl | rfl | rfl
    · exact fl_lit _ _
    · exact t0 _
    · exact fl_bl _ _
    · refine fit_tup (by simp) fun x hx => ?_
      simp at hx; subst hx
      refine fit_tup (by simp) fun x hx => ?_
      simp at hx
      rcases hx with rfl | rfl
      · exact hn.fit
      · exact fl_lit _ _
    · refine fit_tup (by simp) fun x hx => ?_
      simp at hx; subst hx
      refine fit_tup (by simp) fun x hx => ?_
      simp at hx
      rcases hx with rfl | rfl | rfl | rfl
      · exact fl_lit _ _
      · refine fit_tup (by simp) fun x hx => ?_
        simp at hx
        rcases hx with rfl | rfl <;> exact fl_lit _ _
      · exact fl_lit _ _
      · exact fl_non _
    · exact fit_succ hw
    · refine fit_tup (by simp) fun x hx => ?_
      simp at hx; subst hx
      exact fit_le (col_fit hxs hxl) (by omega)
    · exact fl_non _
    · exact t0 _
    · exact fl_non _
  refine iff_b (fun h => ?_) (fun h => ?_)
  · decreasing_trivial_pre_omega
    refine expr_ok 1 (k + 5) (by omega) B2 ?_
    intro m S3 hm B3 G3
    decreasing_trivial_pre_omega
    refine ⟨by simp [sizeLine], ?_⟩
    refine g_name (th_nx ?_)
    refine last _ S3 ?_ B3 ((G1.trans G2.wk).trans G3)
    refine fit_tup (by simp) fun x hx => ?_
    simp at hx
    rcases hx with rfl | rfl
    · exact fl_lit _ _
    · exact hm.fit
  · refine s_nx (th_nx ?_)
    exact last _ S2 (fl_non _) B2 (G1.trans G2.wk)
/-- what is neither and, or, not, maybe -/
theorem cond_flat {b p q : Nat} {S : Sto} {Q : D → Sto → Prop} {k d : Nat} {dd : D} {r : Int} {x3 : Option D} (hB : Bx b p q S) (hd : d ≤ 12) (hQ : ∀ n S', Cd d n → Bx b p q S' → Gp b q S S' → Q n.d S') :
    wS (seqM (ifS (orC (tstM (binM eqF (varM 2) (conM (.int 5)))) (tstM (binM eqF (varM 2) (conM (.int 4))))) (rtM (tupM (consA (conM (.str "in")) (consA (callM 2 (den (k + 8) ._law_expr) (consA (varM 0) (consA (conM (.int 2)) (nilA)))) (consA (callM 1 (den (k + 8) ._law_question) (consA (varM 0) (nilA))) (nilA)))))) (nxM)) (seqM (ifS (tstM (binM eqF (varM 2) (conM (.int 3)))) (rtM (tupM (consA (conM (.str "null")) (consA (callM 2 (den (k + 8) ._law_expr) (consA (varM 0) (consA (conM (.int 4)) (nilA)))) (nilA))))) (nxM)) (seqM (asgM (callM 2 (den (k + 8) ._law_expr) (consA (varM 0) (consA (conM (.int 3)) (nilA)))) (nameG 4)) (seqM (asgM (binM ixF (lstM (consA (conM (.str "=")) (consA (conM (.str "<>")) (consA (conM (.str "<")) (consA (conM (.str "<=")) (consA (conM (.str ">")) (consA (conM (.str ">=")) (nilA)))))))) (callM 2 (den (k + 8) ._law_take) (consA (varM 0) (consA (conM (.int 6)) (nilA))))) (nameG 8)) (rtM (tupM (consA (conM (.str "cmp")) (consA (varM 8) (consA (varM 4) (consA (callM 2 (den (k + 8) ._law_expr) (consA (varM 0) (consA (conM (.int 3)) (nilA)))) (nilA)))))))))))
      [some (.ref b), some dd, some (.int r), x3, none, none, none, none, none] S (retQ Q) := by
  have c0 := cb_le d
  have E2 : eb 2 = 11 := rfl
  have E3 : eb 3 = 23 := rfl
  have E4 : eb 4 = 47 := rfl
  have inn : ∀ Q' : D → Sto → Prop, (∀ n S', Cd d n → Bx b p q S' → Gp b q S S' → Q' n.d S') → wE (tupM (consA (conM (.str "in")) (consA (callM 2 (den (k + 8) ._law_expr) (consA (varM 0) (consA (conM (.int 2)) (nilA)))) (consA (callM 1 (den (k + 8) ._law_question) (consA (varM 0) (nilA))) (nilA))))) [some (.ref b), some dd, some (.int r), x3, none, none, none, none, none] S Q' := by
    intro Q' hQ'
    sizeOf_list_dec
    refine expr_ok 2 (k + 8) (by omega) hB ?_
    intro n S1 hn B1 G1
    sizeOf_list_dec
    refine question_ok (K := k + 7) (by omega) B1 ?_
    intro x S2 hx hxf B2 G2
    sizeOf_list_dec
    refine hQ' (.inn n x) _ ⟨⟨hn.ok, fit_le hx (by omega), hxf⟩, ?_, ?_, ?_⟩ B2 (G1.trans G2)
    · have := hn.sz; simp only [N.sz]; omega
    · have := hn.ht; simp only [N.ht]; omega
    · refine fit_tup (by simp) fun y hy => ?_
      simp at hy
      rcases hy with rfl | rfl | rfl
      · exact fl_lit _ _
      · exact fit_le hn.fit (by omega)
      · exact fit_le hx (by omega)
  sizeOf_list_dec
  refine iff_b (fun h => ?_) (fun h => ?_)
  · refine iff_t ?_
    refine s_rt (inn _ fun n S' h1 h2 h3 => ?_)
    sizeOf_list_dec
    exact hQ n S' h1 h2 h3
  · sizeOf_list_dec
    refine iff_b (fun h => ?_) (fun h => ?_)
    · refine s_rt (inn _ fun n S' h1 h2 h3 => ?_)
      sizeOf_list_dec
      exact hQ n S' h1 h2 h3
    · sizeOf_list_dec
      refine iff_b (fun h => ?_) (fun h => ?_)
      · sizeOf_list_dec
        refine expr_ok 4 (k + 8) (by omega) hB ?_
        intro n S1 hn B1 G1
        sizeOf_list_dec
        refine hQ (.un "null" n) _ ⟨⟨.inr (.inl rfl), hn.ok⟩, ?_, ?_, ?_⟩ B1 G1
        · have := hn.sz; simp only [N.sz]; omega
        · have := hn.ht; simp only [N.ht]; omega
        · refine fit_tup (by simp) fun y hy => ?_
          simp at hy
          rcases hy with rfl | rfl
          · exact fl_lit _ _
          · exact fit_le hn.fit (by omega)
      · sizeOf_list_dec
        refine expr_ok 3 (k + 8) (by omega) hB ?_
        intro n S1 hn B1 G1
        sizeOf_list_dec
        have hlt := B1.lt
        refine take_ok (by decide) (B1.kp Kp.refl.app) ?_
        intro r2 S2 s0 s1 B2 G2
        sizeOf_list_dec
        refine ⟨G2.at (by omega) lk_new, ?_⟩
        obtain ⟨x, hx, hxm⟩ := pick_mem (xs := [.str "=", .str "<>", .str "<", .str "<=", .str ">", .str ">="]) (i := r2) s0 (by simpa using s1)
        refine ⟨x, hx, ?_⟩
        sizeOf_list_dec
        refine expr_ok 3 (k + 8) (by omega) B2 ?_
        intro m S3 hm B3 G3
        sizeOf_list_dec
        have hz : ∃ z : Str, x = .str z := by
          simp at hxm
          rcases hxm with rfl | rfl | rfl | rfl | rfl | rfl <;> exact ⟨_, rfl⟩
        obtain ⟨z, rfl⟩ := hz
        refine hQ (.two "cmp" [.str z] n m) _ ⟨⟨.inr ⟨rfl, z, rfl⟩, hn.ok, hm.ok⟩, ?_, ?_, ?_⟩ B3 ((G1.trans (Gp.kp Kp.refl.app)).trans (G2.wk.trans G3))
        · have := hn.sz; have := hm.sz; simp only [N.sz]; omega
        · have := hn.ht; have := hm.ht; simp only [N.ht]; omega
        · refine fit_tup (by simp) fun y hy => ?_
          simp at hy
          rcases hy with rfl | rfl | rfl | rfl
          · exact fl_lit _ _
          · exact fl_lit _ _
          · exact fit_le hn.fit (by omega)
          · exact fit_le hm.fit (by omega)
theorem cond_ok : ∀ (d K : Nat), d ≤ 12 → d + 9 ≤ K → ∀ {b p q : Nat} {S : Sto} {Q : D → Sto → Prop}, Bx b p q S → (∀ n S', Cd d n → Bx b p q S' → Gp b q S S' → Q n.d S') → w1 (den K ._law_cond) [.ref b, .int (d : Nat)] S Q := by
  intro d
  induction d with
  | zero =>
    intro K hd hK b p q S Q hB hQ
    obtain ⟨k, rfl⟩ : ∃ r, K = r + 9 := ⟨K - 9, by omega⟩
    refine w_body ?_
    unfold b__law_cond
    sizeOf_list_dec
    refine take_ok (by decide) hB ?_
    intro r S1 r0 r1 B1 G1
    sizeOf_list_dec
    refine iff_f ?_
    sizeOf_list_dec
    refine iff_f ?_
    sizeOf_list_dec
    refine iff_f ?_
    sizeOf_list_dec
    refine iff_f ?_
    sizeOf_list_dec
    have rest := cond_flat (k := k) (dd := .int ((0 : Nat) : Int)) (r := r) (x3 := none) B1 hd fun n S' h1 h2 h3 => hQ n S' h1 h2 (G1.wk.trans h3)
    refine iff_d (fun h => ?_) (fun h => ?_)
    · sizeOf_list_dec
      refine iff_f ?_
      refine s_nx (th_nx ?_)
      exact rest
    · refine iff_f ?_
      refine s_nx (th_nx ?_)
      exact rest
  | succ d ih =>
    intro K hd hK b p q S Q hB hQ
    obtain ⟨k, rfl⟩ : ∃ r, K = r + 9 := ⟨K - 9, by omega⟩
    refine w_body ?_
    unfold b__law_cond
    sizeOf_list_dec
    refine take_ok (by decide) hB ?_
    intro r S1 r0 r1 B1 G1
    sizeOf_list_dec
    have c0 := cb_le d
    have E1 : eb 1 = 5 := rfl
    have rest := cond_flat (k := k) (d := d + 1) (dd := .int ((d + 1 : Nat) : Int)) (r := r) (x3 := none) B1 hd fun n S' h1 h2 h3 => hQ n S' h1 h2 (G1.wk.trans h3)
    have es : ((d + 1 : Nat) : Int) - 1 = (d : Nat) := by omega
    have mid : wS (seqM (ifS (andC (tstM (binM gtF (varM 1) (conM (.int 0)))) (tstM (binM gtF (varM 2) (conM (.int 7))))) (seqM (asgM (binM ixF (lstM (consA (conM (.str "not")) (consA (conM (.str "maybe")) (nilA)))) (binM modF (appM intF (consA (varM 2) (nilA))) (conM (.int 2)))) (nameG 3)) (rtM (tupM (consA (varM 3) (consA (callM 2 (den (k + 8) ._law_cond) (consA (varM 0) (consA (binM subF (varM 1) (conM (.int 1))) (nilA)))) (nilA)))))) (nxM)) (seqM (ifS (andC (tstM (binM gtF (varM 2) (conM (.int 5)))) (tstM (binM gtF (varM 1) (conM (.int 0))))) (seqM (asgM (tupM (consA (conM (.str "cmp")) (consA (conM (.str "<")) (consA (callM 1 (den (k + 8) ._law_col) (consA (varM 0) (nilA))) (consA (callM 2 (den (k + 8) ._law_expr) (consA (varM 0) (consA (conM (.int 1)) (nilA)))) (nilA)))))) (nameG 5)) (seqM (asgM (binM ixF (lstM (consA (conM .non) (consA (callM 2 (den (k + 8) ._law_cond) (consA (varM 0) (consA (binM subF (varM 1) (conM (.int 1))) (nilA)))) (nilA)))) (callM 2 (den (k + 8) ._law_take) (consA (varM 0) (consA (conM (.int 2)) (nilA))))) (nameG 6)) (seqM (asgM (tupM (consA (conM (.str "from")) (consA (tupM (consA (conM (.str "named")) (consA (conM (.str "s")) (nilA)))) (consA (conM (.str "s")) (consA (conM .non) (nilA)))))) (nameG 7)) (rtM (tupM (consA (conM (.str "exists")) (consA (tupM (consA (varM 7) (consA (tupM (consA (conM (.str "left")) (consA (callM 1 (den (k + 8) ._law_question) (consA (varM 0) (nilA))) (consA (conM (.str "r")) (consA (varM 5) (nilA)))))) (nilA)))) (consA (varM 6) (nilA))))))))) (nxM)) (seqM (ifS (orC (tstM (binM eqF (varM 2) (conM (.int 5)))) (tstM (binM eqF (varM 2) (conM (.int 4))))) (rtM (tupM (consA (conM (.str "in")) (consA (callM 2 (den (k + 8) ._law_expr) (consA (varM 0) (consA (conM (.int 2)) (nilA)))) (consA (callM 1 (den (k + 8) ._law_question) (consA (varM 0) (nilA))) (nilA)))))) (nxM)) (seqM (ifS (tstM (binM eqF (varM 2) (conM (.int 3)))) (rtM (tupM (consA (conM (.str "null")) (consA (callM 2 (den (k + 8) ._law_expr) (consA (varM 0) (consA (conM (.int 4)) (nilA)))) (nilA))))) (nxM)) (seqM (asgM (callM 2 (den (k + 8) ._law_expr) (consA (varM 0) (consA (conM (.int 3)) (nilA)))) (nameG 4)) (seqM (asgM (binM ixF (lstM (consA (conM (.str "=")) (consA (conM (.str "<>")) (consA (conM (.str "<")) (consA (conM (.str "<=")) (consA (conM (.str ">")) (consA (conM (.str ">=")) (nilA)))))))) (callM 2 (den (k + 8) ._law_take) (consA (varM 0) (consA (conM (.int 6)) (nilA))))) (nameG 8)) (rtM (tupM (consA (conM (.str "cmp")) (consA (varM 8) (consA (varM 4) (consA (callM 2 (den (k + 8) ._law_expr) (consA (varM 0) (consA (conM (.int 3)) (nilA)))) (nilA)))))))))))))
      [some (.ref b), some (.int ((d + 1 : Nat) : Int)), some (.int r), none, none, none, none, none, none] S1 (retQ Q) := by
      sizeOf_list_dec
      refine iff_t' (by first | (simp; done) | (simp; omega)) ?_
      sizeOf_list_dec
      refine iff_d (fun h7 => ?_) (fun h7 => ?_)
      · sizeOf_list_dec
        refine o_mod (by decide) ?_
        sizeOf_list_dec
        refine ⟨lk_new, ?_⟩
        obtain ⟨x, hx, hxm⟩ := pick_mem (xs := [.str "not", .str "maybe"]) (i := r % 2) (Int.emod_nonneg _ (by omega)) (by have := Int.emod_lt_of_pos r (show (0 : Int) < 2 by omega); simpa using this)
        refine ⟨x, hx, ?_⟩
        sizeOf_list_dec
        rw [es]
        refine ih (k + 8) (by omega) (by omega) (B1.kp Kp.refl.app) ?_
        intro n S2 hn B2 G2
        sizeOf_list_dec
        have hz : ∃ z : Str, x = .str z ∧ (z = "neg" ∨ z = "null" ∨ z = "not" ∨ z = "maybe") := by
          simp at hxm
          rcases hxm with rfl | rfl
          · exact ⟨_, rfl, .inr (.inr (.inl rfl))⟩
          · exact ⟨_, rfl, .inr (.inr (.inr rfl))⟩
        obtain ⟨z, rfl, hz⟩ := hz
        refine hQ (.un z n) _ ⟨⟨hz, hn.ok⟩, ?_, ?_, ?_⟩ B2 ((G1.wk.trans (Gp.kp Kp.refl.app)).trans G2)
        · have := hn.sz; simp only [N.sz, cb]; omega
        · have := hn.ht; simp only [N.ht]; omega
        · refine fit_tup (by simp) fun y hy => ?_
          simp at hy
          rcases hy with rfl | rfl
          · exact fl_lit _ _
          · exact fit_le hn.fit (by omega)
      · sizeOf_list_dec
        refine iff_d (fun h5 => ?_) (fun h5 => ?_)
        · sizeOf_list_dec
          refine iff_t' (by first | (simp; done) | (simp; omega)) ?_
          sizeOf_list_dec
          refine col_ok B1 ?_
          intro xs S2 hxs hxl B2 G2
          sizeOf_list_dec
          refine expr_ok 1 (k + 8) (by omega) B2 ?_
          intro n S3 hn B3 G3
          sizeOf_list_dec
          rw [es]
          refine ih (k + 8) (by omega) (by omega) B3 ?_
          intro m S4 hm B4 G4
          sizeOf_list_dec
          have hlt := B4.lt
          refine take_ok (by decide) (B4.kp Kp.refl.app) ?_
          intro r2 S5 s0 s1 B5 G5
          sizeOf_list_dec
          refine ⟨G5.at (by omega) lk_new, ?_⟩
          obtain ⟨x, hx, hxm⟩ := pick_mem (xs := [.non, m.d]) (i := r2) s0 (by simpa using s1)
          refine ⟨x, hx, ?_⟩
          sizeOf_list_dec
          refine question_ok (K := k + 7) (by omega) B5 ?_
          intro y S6 hy hyf B6 G6
          sizeOf_list_dec
          have fon : fit 5 (.tup [.str "cmp", .str "<", (N.col xs).d, n.d]) := by
            refine fit_tup (by simp) fun y hy => ?_
            simp at hy
            rcases hy with rfl | rfl | rfl | rfl
            · exact fl_lit _ _
            · exact fl_lit _ _
            · exact fit_le (col_fit hxs hxl) (by omega)
            · exact fit_le hn.fit (by omega)
          have fx : fit (d + 9) x := by
            simp at hxm
            rcases hxm with rfl | rfl
            · exact fl_non _
            · exact hm.fit
          have fs : fit 8 (.tup [.tup [.str "from", .tup [.str "named", .str "s"], .str "s", .non], .tup [.str "left", y, .str "r", .tup [.str "cmp", .str "<", (N.col xs).d, n.d]]]) := by
            refine fit_tup (by simp) fun z hz => ?_
            simp at hz
            rcases hz with rfl | rfl
            · refine fit_tup (by simp) fun z hz => ?_
              simp at hz
              rcases hz with rfl | rfl | rfl | rfl
              · exact fl_lit _ _
              · refine fit_tup (by simp) fun z hz => ?_
                simp at hz
                rcases hz with rfl | rfl <;> exact fl_lit _ _
              · exact fl_lit _ _
              · exact fl_non _
            · refine fit_tup (by simp) fun z hz => ?_
              simp at hz
              rcases hz with rfl | rfl | rfl | rfl
              · exact fl_lit _ _
              · exact hy
              · exact fl_lit _ _
              · exact fit_le fon (by omega)
          refine hQ (.atm "exists" [.tup [.tup [.str "from", .tup [.str "named", .str "s"], .str "s", .non], .tup [.str "left", y, .str "r", .tup [.str "cmp", .str "<", (N.col xs).d, n.d]]], x]) _ ⟨⟨.inr rfl, by simp, fun z hz => ?_⟩, ?_, ?_, ?_⟩ B6 (((G1.wk.trans G2.wk).trans (G3.trans G4)).trans (((Gp.kp Kp.refl.app).trans G5.wk).trans G6))
          · simp at hz
            rcases hz with rfl | rfl
            · exact fit_le fs (by omega)
            · exact fit_le fx (by omega)
          · simp only [N.sz, cb]; omega
          · simp only [N.ht]; omega
          · refine fit_tup (by simp) fun z hz => ?_
            simp at hz
            rcases hz with rfl | rfl | rfl
            · exact fl_lit _ _
            · exact fit_le fs (by omega)
            · exact fx
        · refine iff_f ?_
          refine s_nx (th_nx ?_)
          exact rest
    refine iff_t' (by first | (simp; done) | (simp; omega)) ?_
    sizeOf_list_dec
    refine iff_d (fun h11 => ?_) (fun h11 => ?_)
    · sizeOf_list_dec
      obtain ⟨i1, pl1, sg1, ns1, ag, h1, hr1⟩ := B1.ex
      refine o_ixL h1 rfl ?_
      sizeOf_list_dec
      refine iff_d (fun h8 => ?_) (fun h8 => ?_)
      · sizeOf_list_dec
        refine o_ixL h1 rfl ?_
        sizeOf_list_dec
        refine ⟨_, h1, 3, rfl, ?_⟩
        have B2 : Bx b p q (S1.set b (.lst [.ref p, .int i1, .bl pl1, .int (sg1 - 1), .ref q])) := B1.dec h1 rfl
        have G2 : Gp b q S (S1.set b (.lst [.ref p, .int i1, .bl pl1, .int (sg1 - 1), .ref q])) := G1.wk.trans Gp.dec
        sizeOf_list_dec
        have hlt := B2.lt
        refine take_ok (by decide) (B2.kp Kp.refl.app) ?_
        intro r2 S3 s0 s1 B3 G3
        sizeOf_list_dec
        refine ⟨G3.at (by have h := B1.lt; simp only [List.length_set]; omega) lk_new, ?_⟩
        obtain ⟨x, hx, hxm⟩ := pick_mem (xs := [.str "and", .str "or"]) (i := r2) s0 (by simpa using s1)
        refine ⟨x, hx, ?_⟩
        sizeOf_list_dec
        rw [es]
        refine ih (k + 8) (by omega) (by omega) B3 ?_
        intro n S4 hn B4 G4
        sizeOf_list_dec
        rw [es]
        refine ih (k + 8) (by omega) (by omega) B4 ?_
        intro m S5 hm B5 G5
        sizeOf_list_dec
        have hz : ∃ z : Str, x = .str z ∧ (z = "add" ∨ z = "sub" ∨ z = "mul" ∨ z = "and" ∨ z = "or") := by
          simp at hxm
          rcases hxm with rfl | rfl
          · exact ⟨_, rfl, .inr (.inr (.inr (.inl rfl)))⟩
          · exact ⟨_, rfl, .inr (.inr (.inr (.inr rfl)))⟩
        obtain ⟨z, rfl, hz⟩ := hz
        refine hQ (.two z [] n m) _ ⟨⟨.inl ⟨hz, rfl⟩, hn.ok, hm.ok⟩, ?_, ?_, ?_⟩ B5 ((G2.trans ((Gp.kp Kp.refl.app).trans G3.wk)).trans (G4.trans G5))
        · have := hn.sz; have := hm.sz; simp only [N.sz, cb]; omega
        · have := hn.ht; have := hm.ht; simp only [N.ht]; omega
        · refine fit_tup (by simp) fun x hx => ?_
          simp at hx
          rcases hx with rfl | rfl | rfl
          · exact fl_lit _ _
          · exact fit_le hn.fit (by omega)
          · exact fit_le hm.fit (by omega)
      · refine s_nx (th_nx ?_)
        exact mid
    · refine iff_f ?_
      refine s_nx (th_nx ?_)
      exact mid
theorem mul_r {i j : Int} (h : -(2 ^ 64) < j ∧ j < 2 ^ 64) : mulOk i j = true := by
  unfold mulOk
  rw [decide_eq_true h]; simp
theorem begun_ok {b p q : Nat} {k : Nat} {S : Sto} {Q : D → Sto → Prop} {pl : Bool} {sg : Int} (hB : Bx b p q S) (hQ : ∀ q' S', S[q']? = none → Bx b p q' S' → Gp b b S S' → Q .non S') : w1 (den (k + 1) ._law_begun) [.ref b, .bl pl, .int sg] S Q := by
  obtain ⟨i1, pl1, sg1, ns1, ag, h1, i0, h3, h4, h5, h6, n1, n2, n3⟩ := hB.ex
  refine w_body ?_
  unfold b__law_begun
  sizeOf_list_dec
  refine ⟨_, h1, 2, rfl, ?_⟩
  sizeOf_list_dec
  refine ⟨_, lk_set h1, 3, rfl, ?_⟩
  sizeOf_list_dec
  refine ⟨_, lk_app (lk_set (lk_set h1)), 4, rfl, ?_⟩
  sizeOf_list_dec
  have hl : (List.set (List.set S b (O.lst [D.ref p, .int i1, .bl pl, .int sg1, .ref q])) b (O.lst [D.ref p, .int i1, .bl pl, .int sg, .ref q])).length = S.length := by simp
  have hb : b ≠ S.length := by have := lt_of h1; omega
  have hp : p ≠ S.length := by have := lt_of h3; omega
  refine hQ S.length _ (by simp) ⟨i1, pl, sg, ns1, [], ?_, i0, ?_, ?_, by simp, by simp, n1, hb, hp⟩ ?_
  · rw [← hl]
    exact lk_set (lk_app (lk_set (lk_set h1)))
  · exact lk_ne n1.symm (lk_app (lk_ne n1.symm (lk_ne n1.symm h3)))
  · refine lk_ne hb.symm ?_
    have := lk_new (S := List.set (List.set S b (O.lst [D.ref p, .int i1, .bl pl, .int sg1, .ref q])) b (O.lst [D.ref p, .int i1, .bl pl, .int sg, .ref q])) (o := O.lst [])
    rw [hl] at this
    exact this
  · refine ⟨fun j o hj _ e _ => ?_⟩
    exact lk_ne hj (lk_app (lk_ne hj (lk_ne hj e)))
def isI (xs : List D) : Prop := ∀ x ∈ xs, ∃ i, x = D.int i
theorem isI_rng (lo : Int) (n : Nat) : isI (rngD lo n) := by
  intro x hx
  simp only [rngD, List.mem_map] at hx
  obtain ⟨i, _, rfl⟩ := hx
  exact ⟨_, rfl⟩
theorem rng_len (lo : Int) (n : Nat) : (rngD lo n).length = n := by simp [rngD]
theorem isI_snoc {xs : List D} (h : isI xs) (i : Int) : isI (xs ++ [.int i]) := by
  intro x hx
  rcases memA hx with hx | hx
  · exact h x hx
  · simp at hx; exact ⟨i, hx⟩
theorem isI_ints : ∀ {xs : List D}, isI xs → ∃ ns : List Int, xs = ns.map D.int
  | [], _ => ⟨[], rfl⟩
  | x :: xs, h => by
    obtain ⟨i, rfl⟩ := h x (by simp)
    obtain ⟨ns, rfl⟩ := isI_ints (xs := xs) fun y hy => h y (by simp [hy])
    exact ⟨i :: ns, rfl⟩
theorem numbers_ok {ns : List Int} (hns : ns.length ≤ 63) {k : Nat} {S : Sto} {Q : D → Sto → Prop} (q : ∀ r S' ms, Kp S S' → S'[r]? = some (.lst (List.map D.int ms)) → S[r]? = none → Q (.ref r) S') : w1 (den (k + 1) ._law_numbers) [.rl (ns.map D.int)] S Q := by
  refine w_body ?_
  unfold b__law_numbers
  sizeOf_list_dec
  rw [List.length_map]
  refine ⟨⟨by omega, by omega⟩, ?_⟩
  rw [Int.toNat_natCast]
  refine for_inv (fun rest γ T => ∃ (n m : Nat) (row : List D) (seed : Int) (a b c d e : Option D), rest = (List.range m).map (fun (i : Nat) => D.int ((n + i : Nat) : Int)) ∧ n + m = ns.length ∧ γ = [some (.rl (ns.map D.int)), some (.ref S.length), some (.int seed), a, b, c, d, e] ∧ T[S.length]? = some (.lst row) ∧ isI row ∧ row.length ≤ 60 * n ∧ Kp S T) ?_ ?_ _ _ _ ?_
  · rintro x rest γ T ⟨n, m, row, seed, a, b, c, d, e, hr, hnm, rfl, ht, hrow, hlen, hk⟩
    refine ⟨trivial, ?_⟩
    cases m with
    | zero => simp at hr
    | succ m =>
      rw [List.range_succ_eq_map] at hr
      simp only [List.map_cons, List.map_map, Nat.add_zero] at hr
      obtain ⟨hx0, hrt⟩ := List.cons.inj hr
      subst hx0
      have hx2 : (ns.map D.int)[n]? = some (.int (ns[n]'(by omega))) := by
        rw [List.getElem?_map, List.getElem?_eq_getElem (by omega)]; rfl
      generalize ns[n]'(by omega) = w at hx2
      sizeOf_list_dec
      refine o_ixR (at_rng hx2) ?_
      sizeOf_list_dec
      refine o_mul (mul_r ⟨by decide, by decide⟩) ?_
      sizeOf_list_dec
      refine o_ixR (at_rng hx2) ?_
      sizeOf_list_dec
      refine o_mul (mul_r ⟨by decide, by decide⟩) ?_
      sizeOf_list_dec
      refine o_mul (mul_r ⟨by decide, by decide⟩) ?_
      sizeOf_list_dec
      refine o_mod (by decide) ?_
      sizeOf_list_dec
      refine ⟨lk_new, ?_⟩
      generalize hgr : decide ((10 : Int) ^ (18 : Int).toNat ≤ if w < 0 then -w else w) = great
      have hpick : ∃ j : Int, atI [D.int 7, .int 60] (if great = true then 1 else 0) = some (.int j) ∧ 0 ≤ j ∧ j ≤ 60 := by
        cases great
        · exact ⟨7, rfl, by decide, by decide⟩
        · exact ⟨60, rfl, by decide, by decide⟩
      obtain ⟨j, hj, j0, j1⟩ := hpick
      refine ⟨_, hj, ?_⟩
      sizeOf_list_dec
      refine ⟨⟨by omega, by omega⟩, ?_⟩
      have hrest : rest = (List.range m).map (fun (i : Nat) => D.int ((n + 1 + i : Nat) : Int)) := by
        rw [hrt]
        apply List.map_congr_left
        intro i _
        simp only [Function.comp_apply]
        congr 2
        omega
      refine for_inv (fun rest2 γ T => ∃ (row : List D) (seed left one : Int) (kk : Int) (e : Option D), isI rest2 ∧ γ = [some (.rl (ns.map D.int)), some (.ref S.length), some (.int seed), some (.int kk), some (.int left), some (.bl great), some (.int one), e] ∧ T[S.length]? = some (.lst row) ∧ isI row ∧ row.length + rest2.length ≤ 60 * (n + 1) ∧ Kp S T) ?_ ?_ _ _ _ ?_
      · rintro x rest2 γ T ⟨row, seed, left, one, kk, e, hr2, rfl, ht, hrow, hlen, hk⟩
        refine ⟨trivial, ?_⟩
        obtain ⟨tn, rfl⟩ := hr2 x (by simp)
        have hr2' : isI rest2 := fun y hy => hr2 y (by simp [hy])
        (simp only [List.length_cons] at hlen)
        sizeOf_list_dec
        refine o_mul (mul_r ⟨by decide, by decide⟩) ?_
        sizeOf_list_dec
        refine o_mul (mul_r ⟨by decide, by decide⟩) ?_
        sizeOf_list_dec
        refine o_mod (by decide) ?_
        sizeOf_list_dec
        have g0 := Int.emod_nonneg (one * 48271 + tn * 907 + 4242) (show (2147483647 : Int) ≠ 0 by decide)
        have g1 := Int.emod_lt_of_pos (one * 48271 + tn * 907 + 4242) (show (0 : Int) < 2147483647 by decide)
        generalize (one * 48271 + tn * 907 + 4242) % 2147483647 = one' at *
        have last : ∀ (T : Sto) (row : List D), T[S.length]? = some (.lst row) → isI row → row.length + rest2.length ≤ 60 * (n + 1) → Kp S T → wS (asgM (binM fdivF (varM 4) (conM (.int 720720))) (nameG 4)) [some (.rl (ns.map D.int)), some (.ref S.length), some (.int seed), some (.int kk), some (.int left), some (.bl great), some (.int one'), some (.int tn)] T
            (turnQ (fun γ T => ∃ (row : List D) (seed left one : Int) (kk : Int) (e : Option D), isI rest2 ∧ γ = [some (.rl (ns.map D.int)), some (.ref S.length), some (.int seed), some (.int kk), some (.int left), some (.bl great), some (.int one), e] ∧ T[S.length]? = some (.lst row) ∧ isI row ∧ row.length + rest2.length ≤ 60 * (n + 1) ∧ Kp S T) (turnQ (fun γ T => ∃ (n m : Nat) (row : List D) (seed : Int) (a b c d e : Option D), rest = (List.range m).map (fun (i : Nat) => D.int ((n + i : Nat) : Int)) ∧ n + m = ns.length ∧ γ = [some (.rl (ns.map D.int)), some (.ref S.length), some (.int seed), a, b, c, d, e] ∧ T[S.length]? = some (.lst row) ∧ isI row ∧ row.length ≤ 60 * n ∧ Kp S T) (thenQ (seqM (Ml.forM (rng1I (consA (appM maxF (consA (conM (.int 0)) (consA (binM subF (conM (.int 300)) (appM lenF (consA (varM 1) (nilA)))) (nilA)))) (nilA))) (nameG 7) (seqM (asgM (binM modF (appM intF (consA (binM addF (binM addF (binM mulF (varM 2) (conM (.int 39373))) (binM mulF (varM 7) (conM (.int 77)))) (conM (.int 5))) (nilA))) (conM (.int 2147483647))) (nameG 2)) (exM (metM "list" appendF (varM 1) (consA (binM fdivF (binM modF (appM intF (consA (binM addF (binM mulF (varM 2) (varM 2)) (varM 7)) (nilA))) (conM (.int 2147483587))) (conM (.int 128))) (nilA)))))) (rtM (slM (varM 1) (noM) (partM (conM (.int 300)))))) (retQ Q)))) := by
          intro T row ht hrow hlen hk
          sizeOf_list_dec
          refine o_div (by decide +kernel) ?_
          sizeOf_list_dec
          exact ⟨row, seed, _, one', kk, _, hr2', rfl, ht, hrow, hlen, hk⟩
        refine iff_b (fun hg => ?_) (fun hg => ?_)
        · sizeOf_list_dec
          refine ⟨ty_lst ht, ?_⟩
          sizeOf_list_dec
          refine o_mul (mul_r ⟨by omega, by omega⟩) ?_
          sizeOf_list_dec
          refine o_mul (mul_r ⟨by decide, by decide⟩) ?_
          sizeOf_list_dec
          refine o_mod (by decide) ?_
          sizeOf_list_dec
          refine o_div (by decide +kernel) ?_
          sizeOf_list_dec
          refine m_append ht (by simp only [sizeLine]; omega) (th_nx ?_)
          exact last _ _ (lk_set ht) (isI_snoc hrow _) (by simp; omega) (hk.set (by simp))
        · sizeOf_list_dec
          refine iff_d (fun h => ?_) (fun h => ?_)
          · sizeOf_list_dec
            refine ⟨ty_lst ht, ?_⟩
            sizeOf_list_dec
            refine o_mod (by decide) ?_
            sizeOf_list_dec
            refine m_append ht (by simp only [sizeLine]; omega) (th_nx ?_)
            exact last _ _ (lk_set ht) (isI_snoc hrow _) (by simp; omega) (hk.set (by simp))
          · refine s_nx (th_nx ?_)
            exact last _ _ ht hrow (by omega) hk
      · rintro γ T ⟨row, seed, left, one, kk, e, hr2, rfl, ht, hrow, hlen, hk⟩
        refine ⟨trivial, ?_⟩
        refine .nx ⟨n + 1, m, row, seed, _, _, _, _, _, hrest, by omega, rfl, ht, hrow, by simpa using hlen, hk⟩
      · refine ⟨row, _, _, _, _, _, isI_rng _ _, rfl, lk_app ht, hrow, ?_, hk.app⟩
        rw [rng_len]; omega
  · rintro γ T ⟨n, m, row, seed, a, b, c, d, e, hr, hnm, rfl, ht, hrow, hlen, hk⟩
    refine ⟨trivial, ?_⟩
    sizeOf_list_dec
    have hj : (if (300 : Int) - row.length > 0 then (300 : Int) - row.length else 0) ≤ 300 ∧ 0 ≤ (if (300 : Int) - row.length > 0 then (300 : Int) - row.length else 0) := by
      split <;> omega
    generalize (if (300 : Int) - row.length > 0 then (300 : Int) - row.length else 0) = j at hj
    refine ⟨⟨by omega, by omega⟩, ?_⟩
    refine for_inv (fun rest2 γ T => ∃ (row : List D) (seed : Int) (e : Option D), isI rest2 ∧ γ = [some (.rl (ns.map D.int)), some (.ref S.length), some (.int seed), a, b, c, d, e] ∧ T[S.length]? = some (.lst row) ∧ isI row ∧ row.length + rest2.length ≤ 60 * n + 300 ∧ Kp S T) ?_ ?_ _ _ _ ?_
    · rintro x rest2 γ T ⟨row, seed, e, hr2, rfl, ht, hrow, hlen, hk⟩
      refine ⟨trivial, ?_⟩
      obtain ⟨tn, rfl⟩ := hr2 x (by simp)
      have hr2' : isI rest2 := fun y hy => hr2 y (by simp [hy])
      (simp only [List.length_cons] at hlen)
      sizeOf_list_dec
      refine o_mul (mul_r ⟨by decide, by decide⟩) ?_
      sizeOf_list_dec
      refine o_mul (mul_r ⟨by decide, by decide⟩) ?_
      sizeOf_list_dec
      refine o_mod (by decide) ?_
      have g0 := Int.emod_nonneg (seed * 39373 + tn * 77 + 5) (show (2147483647 : Int) ≠ 0 by decide)
      have g1 := Int.emod_lt_of_pos (seed * 39373 + tn * 77 + 5) (show (0 : Int) < 2147483647 by decide)
      generalize (seed * 39373 + tn * 77 + 5) % 2147483647 = one' at *
      sizeOf_list_dec
      refine ⟨ty_lst ht, ?_⟩
      sizeOf_list_dec
      refine o_mul (mul_r ⟨by omega, by omega⟩) ?_
      sizeOf_list_dec
      refine o_mod (by decide) ?_
      sizeOf_list_dec
      refine o_div (by decide +kernel) ?_
      sizeOf_list_dec
      refine m_append ht (by simp only [sizeLine]; omega) ?_
      sizeOf_list_dec
      exact ⟨_, _, _, hr2', rfl, lk_set ht, isI_snoc hrow _, by simp; omega, hk.set (by simp)⟩
    · rintro γ T ⟨row, seed, e, hr2, rfl, ht, hrow, hlen, hk⟩
      refine ⟨trivial, ?_⟩
      sizeOf_list_dec
      refine sl_l ht ?_
      sizeOf_list_dec
      have hc : isI (cutX row none (some 300)) := by
        intro x hx
        exact hrow x (List.mem_of_mem_drop (List.mem_of_mem_take hx))
      obtain ⟨ms, hms⟩ := isI_ints hc
      have := hk.len
      refine q _ _ ms hk.app ?_ (List.getElem?_eq_none (by omega))
      rw [hms]; exact lk_new
    · refine ⟨row, _, _, isI_rng _ _, rfl, ht, hrow, ?_, hk⟩
      rw [rng_len]; omega
  · refine ⟨0, ns.length, [], 31337, none, none, none, none, none, ?_, by omega, rfl, lk_new, by simp [isI], by simp, Kp.refl.app⟩
    simp [rngD]
structure KvOk (kvs : List (D × D)) : Prop where
  key : ∀ e ∈ kvs, Ky e.1 ∧ fit 2 e.1 ∧ fit 5 e.2
  nd : (kvs.map fun e => nk e.1).Nodup
theorem keyN_nk {ks : List D} {k : NestedKey} (h : keyN ks = some k) : nk (.tup ks) = some k := by
  unfold keyN at h
  split at h
  · rename_i k' e
    split at h
    · cases h; exact e
    · cases h
  · cases h
theorem setN_ok {kvs : List (D × D)} (h : KvOk kvs) {ks : List D} {k : NestedKey} {x : D} (hk : keyN ks = some k) (hky : Ky (.tup ks)) (hf : fit 2 (.tup ks)) (hx : fit 5 x) : KvOk (setN kvs (.tup ks) k x) ∧ (setN kvs (.tup ks) k x).length ≤ kvs.length + 1 := by
  unfold setN
  split
  · rename_i hs
    refine ⟨⟨?_, ?_⟩, by simp⟩
    · intro e he
      simp only [List.mem_map] at he
      obtain ⟨p, hp, rfl⟩ := he
      obtain ⟨h1, h2, h3⟩ := h.key p hp
      split
      · exact ⟨h1, h2, hx⟩
      · exact ⟨h1, h2, h3⟩
    · have : ((kvs.map fun p => if nk p.1 = some k then (p.1, x) else p).map fun e => nk e.1) = kvs.map fun e => nk e.1 := by
        rw [List.map_map]
        apply List.map_congr_left
        intro p _
        simp only [Function.comp_apply]
        split <;> rfl
      rw [this]; exact h.nd
  · rename_i hs
    have hno : ∀ p ∈ kvs, ¬ nk p.1 = some k := by
      intro p hp e
      apply hs
      unfold lookN
      rw [Option.isSome_map]
      rw [List.find?_isSome]
      exact ⟨p, hp, by simpa using e⟩
    refine ⟨⟨?_, ?_⟩, by simp⟩
    · intro e he
      rcases memA he with he | he
      · exact h.key e he
      · simp at he; subst he; exact ⟨hky, hf, hx⟩
    · rw [List.map_append]; rw [List.nodup_append]
      refine ⟨h.nd, by simp, ?_⟩
      intro a ha c hc z
      simp only [List.mem_map] at ha
      obtain ⟨p, hp, rfl⟩ := ha
      simp at hc
      rw [hc, keyN_nk hk] at z
      exact hno p hp z
theorem look_self : ∀ {kvs : List (D × D)}, (kvs.map fun e => nk e.1).Nodup → ∀ {e : D × D} {k : NestedKey}, e ∈ kvs → nk e.1 = some k → lookN kvs k = some e.2
  | [], _, e, k, h, _ => by simp at h
  | p :: kvs, nd, e, k, h, hk => by
    rw [List.map_cons] at nd; rw [List.nodup_cons] at nd
    unfold lookN
    rcases memC h with rfl | h
    · rw [List.find?_cons_of_pos (by simpa using hk)]; rfl
    · rw [List.find?_cons_of_neg]
      · exact look_self nd.2 h hk
      · intro z
        simp at z
        apply nd.1
        rw [z, ← hk]
        exact List.mem_map.mpr ⟨e, h, rfl⟩
def prs (kvs : List (D × D)) : List D := kvs.map fun e => .tup [e.1, e.2]
theorem pairs_ok : ∀ {kvs : List (D × D)}, (∀ e ∈ kvs, Ky e.1) → ∃ l, pairsN (prs kvs) = some l ∧ ∀ acc : List (D × D), ((acc ++ kvs).map fun e => nk e.1).Nodup → putAll l acc = acc ++ kvs
  | [], _ => ⟨[], by simp [prs, pairsN], fun acc _ => by simp [putAll]⟩
  | e :: kvs, h => by
    obtain ⟨l, h1, h2⟩ := pairs_ok (kvs := kvs) fun x hx => h x (by simp [hx])
    obtain ⟨ks, k, e1, e2⟩ := (h e (by simp)).key
    refine ⟨(.tup ks, e.2, k) :: l, ?_, fun acc nd => ?_⟩
    · have : prs (e :: kvs) = .tup [.tup ks, e.2] :: prs kvs := by simp [prs, e1]
      rw [this, pairsN, pairN, e2, h1]
    · have hno : (lookN acc k).isSome = false := by
        unfold lookN
        rw [Option.isSome_map]
        rw [Bool.eq_false_iff]
        intro z
        rw [List.find?_isSome] at z
        obtain ⟨p, hp, hz⟩ := z
        rw [List.map_append, List.nodup_append] at nd
        refine nd.2.2 (nk p.1) (List.mem_map.mpr ⟨p, hp, rfl⟩) (nk e.1) (by simp) ?_
        rw [e1, keyN_nk e2]
        simpa using hz
      have hs : setN acc (.tup ks) k e.2 = acc ++ [e] := by
        unfold setN
        rw [hno]
        simp [← e1]
      show putAll l (setN acc (.tup ks) k e.2) = _
      rw [hs, h2 _ (by simpa using nd)]
      simp
theorem ded_mem {x : D} : ∀ {ds f : List D}, x ∈ ded f ds → x ∈ f ∨ x ∈ ds
  | [], f, h => .inl h
  | y :: ds, f, h => by
    rw [ded_cons] at h
    rcases ded_mem h with h | h
    · split at h
      · exact .inl h
      · rcases memA h with h | h
        · exact .inl h
        · simp at h; subst h; exact .inr (by simp)
    · exact .inr (by simp [h])
theorem ded_len : ∀ (ds f : List D), (ded f ds).length ≤ f.length + ds.length
  | [], f => by simp [ded_nil]
  | y :: ds, f => by
    rw [ded_cons]
    have := ded_len ds (if memB y f then f else f ++ [y])
    have h2 : (if memB y f then f else f ++ [y]).length ≤ f.length + 1 := by split <;> simp
    (simp only [List.length_cons]; omega)
theorem ord_ok : ∀ {n : N}, n.ok → okL n.ord
  | .col xs, h => okL.one.mpr h
  | .agg xs none, h => okL.one.mpr h
  | .agg xs (some c), h => fun m hm => by
    simp [N.ord] at hm
    rcases hm with rfl | rfl
    · exact h
    · exact h.2.2.2 c rfl
  | .atm w xs, h => okL.one.mpr h
  | .un w a, h => fun m hm => by
    simp [N.ord] at hm
    rcases hm with rfl | hm
    · exact h
    · exact ord_ok h.2 m hm
  | .inn a q, h => fun m hm => by
    simp [N.ord] at hm
    rcases hm with rfl | hm
    · exact h
    · exact ord_ok h.1 m hm
  | .two w p a b, h => fun m hm => by
    simp [N.ord] at hm
    rcases hm with rfl | hm | hm
    · exact h
    · exact ord_ok h.2.1 m hm
    · exact ord_ok h.2.2 m hm
theorem hits_ok {o : Option N} (h : okO o) {z : Str} (hz : z = "col" ∨ z = "agg") : ∀ x ∈ (seqO o).flatMap (N.hits z), Ky x ∧ fit 2 x := by
  intro x hx
  obtain ⟨m, hm, hx⟩ := List.mem_flatMap.mp hx
  have hmo : m.ok := by
    cases o with
    | none => simp [seqO] at hm
    | some n => exact ord_ok (h n rfl) m hm
  unfold N.hits at hx
  split at hx
  · rename_i e
    simp at hx; subst hx
    refine ⟨ky_hit hmo hz (by simpa using e), ?_⟩
    rcases hz with rfl | rfl
    · obtain ⟨xs, rfl⟩ := N.w_col hmo (by simpa using e)
      refine fit_tup (by have := hmo.2.1; simp; omega) fun y hy => ?_
      rcases memC hy with rfl | hy
      · exact fl_lit _ _
      · exact fit_flat (hmo.1 y hy) _
    · exact (agg_fit hmo (N.w_agg hmo (by simpa using e))).1
  · simp at hx
theorem hits_len (z : Str) (l : List N) : (l.flatMap (N.hits z)).length ≤ l.length := by
  refine sum_one (fun n => ?_) l
  unfold N.hits
  split <;> simp
theorem seqO_len (o : Option N) : (seqO o).length ≤ szO o := by
  cases o with
  | none => simp [seqO]
  | some n => simp [seqO, szO, N.ord_sz]
theorem fit_num (i : Int) : fit 5 (.tup [.str "num", .int i]) := fit_tup (by simp) fun y hy => by
  simp at hy
  rcases hy with rfl | rfl
  · exact fl_lit _ _
  · exact fit_flat rfl _
/-- swaps[key] = x -/
theorem g_put {γ : Sl} {T : Sto} {Q : Sl → Sto → Prop} {eo ei : EvM} {t : Nat} {d x : D} {kvs : List (D × D)} (ho : eo γ T = some (.ref t, T)) {T' : Sto} (hi : ei γ T = some (x, T')) (ht : T'[t]? = some (.dn false kvs)) (hk : KvOk kvs) (hl : kvs.length ≤ 100000) (hx : Ky x) (hxf : fit 2 x) (hd : fit 5 d)
    (q : ∀ kvs', KvOk kvs' → kvs'.length ≤ kvs.length + 1 → Q γ (T'.set t (.dn false kvs'))) : wG (subD eo ei) d γ T Q := by
  obtain ⟨ks, k, rfl, e⟩ := hx.key
  refine g_subD ⟨_, _, ho, ref_i ⟨_, _, hi, tup_i ⟨kvs, ht, k, e, by simp only [sizeLine]; omega, ?_⟩⟩⟩
  obtain ⟨h1, h2⟩ := setN_ok hk (x := d) e hx hxf hd
  exact q _ h1 h2
theorem put_go {γ : Sl} {T : Sto} {Q : Sl → Sto → Prop} {t : Nat} {d x : D} {kvs : List (D × D)} (ht : T[t]? = some (.dn false kvs)) (hk : KvOk kvs) (hl : kvs.length ≤ 1000000) (hx : Ky x ∧ fit 2 x) (hd : fit 5 d)
    (q : ∀ kvs', KvOk kvs' → kvs'.length ≤ kvs.length + 1 → Q γ (T.set t (.dn false kvs'))) : isTup x fun ks => ∃ kvs, T[t]? = some (.dn false kvs) ∧ ∃ k, keyN ks = some k ∧ kvs.length < sizeLine ∧ Q γ (T.set t (.dn false (setN kvs (.tup ks) k d))) := by
  obtain ⟨ks, k, rfl, e⟩ := hx.1.key
  refine tup_i ⟨kvs, ht, k, e, by simp only [sizeLine]; omega, ?_⟩
  obtain ⟨h1, h2⟩ := setN_ok hk (x := d) e hx.1 hx.2 hd
  exact q _ h1 h2
theorem tup_out {ks : List D} {P : List D → Prop} (h : isTup (.tup ks) P) : P ks := by
  obtain ⟨b, e, q⟩ := h
  cases e; exact q
theorem col_ky {xs : List D} (h : ∀ x ∈ xs, atm1 x) (hl : xs.length ≤ 2) : Ky (N.col xs).d ∧ fit 2 (N.col xs).d := ⟨ky_col h, fit_succ (col_fit h hl)⟩
theorem Bx.set {b p q t : Nat} {S : Sto} {o : O} (h : Bx b p q S) (hb : t ≠ b) (hp : t ≠ p) (hq : t ≠ q) : Bx b p q (S.set t o) := by
  obtain ⟨i, pl, sg, ns, ag, h1, h2, h3, h4, h5⟩ := h.ex
  exact ⟨i, pl, sg, ns, ag, lk_ne hb.symm h1, h2, lk_ne hp.symm h3, lk_ne hq.symm h4, h5⟩
theorem Gp.set {b q t : Nat} {S T : Sto} {o : O} (g : Gp b q S T) (ht : S[t]? = none) : Gp b q S (T.set t o) := ⟨fun i u h1 h2 e z => lk_ne (fun z => by subst z; rw [ht] at e; cases e) (g.at_ i u h1 h2 e z)⟩
theorem table_ok {b p q : Nat} {o : Option N} (ho : okO o) (hs : szO o ≤ 20000) {k : Nat} {S : Sto} {Q : D → Sto → Prop} (hB : Bx b p q S) (hQ : ∀ t kvs S', S[t]? = none → t ≠ b → t ≠ p → t ≠ q → S'[t]? = some (.dn false kvs) → KvOk kvs → kvs.length ≤ 200000 → Bx b p q S' → Gp b q S S' → Q (.ref t) S') : w1 (den (k + 4) ._law_table) [.ref b, od o] S Q := by
  have hlt := hB.lt
  refine w_body ?_
  unfold b__law_table
  sizeOf_list_dec
  refine found_ok ho hs (.inl rfl) ?_
  intro S1 k1
  sizeOf_list_dec
  refine found_ok ho hs (.inr rfl) ?_
  intro S2 k2
  sizeOf_list_dec
  have sl := seqO_len o
  have lc := ded_len ((seqO o).flatMap (N.hits "col")) []
  have lg := ded_len ((seqO o).flatMap (N.hits "agg")) []
  have hc2 := hits_len "col" (seqO o)
  have hg2 := hits_len "agg" (seqO o)
  simp only [List.length_nil, Nat.zero_add] at lc lg
  refine o_addT (by simp only [sizeLine]; omega) ?_
  sizeOf_list_dec
  have hkeys : ∀ x ∈ ded [] ((seqO o).flatMap (N.hits "col")) ++ ded [] ((seqO o).flatMap (N.hits "agg")), Ky x ∧ fit 2 x := by
    intro x hx
    rcases memA hx with hx | hx
    · rcases ded_mem hx with hx | hx
      · simp at hx
      · exact hits_ok ho (.inl rfl) x hx
    · rcases ded_mem hx with hx | hx
      · simp at hx
      · exact hits_ok ho (.inr rfl) x hx
  have hklen : (ded [] ((seqO o).flatMap (N.hits "col")) ++ ded [] ((seqO o).flatMap (N.hits "agg"))).length ≤ 40000 := by rw [List.length_append]; omega
  generalize ded [] ((seqO o).flatMap (N.hits "col")) ++ ded [] ((seqO o).flatMap (N.hits "agg")) = keys at *
  have tb : S.length ≠ b := by omega
  have tp : S.length ≠ p := by omega
  have tq : S.length ≠ q := by omega
  have hSn : S[S.length]? = none := by simp
  have fnum := fit_num
  refine for_inv (fun rest γ T => ∃ kvs x y, (∀ x ∈ rest, Ky x ∧ fit 2 x) ∧ γ = [some (.ref b), some (od o), some (.ref S.length), x, y] ∧ Bx b p q T ∧ Gp b q S T ∧ T[S.length]? = some (.dn false kvs) ∧ KvOk kvs ∧ kvs.length + 4 * rest.length ≤ 160000) ?_ ?_ _ _ _ ?_
  · rintro x rest γ T ⟨kvs, x1, y1, hr, rfl, BT, GT, ht, hk, hl⟩
    refine ⟨trivial, ?_⟩
    have hx := hr x (by simp)
    have hr' : ∀ x ∈ rest, Ky x ∧ fit 2 x := fun y hy => hr y (by simp [hy])
    simp only [List.length_cons] at hl
    sizeOf_list_dec
    refine take_ok (by decide) BT ?_
    intro r T1 r0 r1 B1 G1
    sizeOf_list_dec
    have ht1 := G1.at tb ht
    have G01 : Gp b q S T1 := GT.trans G1.wk
    have fx : fit 4 x := fit_le hx.2 (by omega)
    -- the ends of the turn
    have e5 : ∀ (T : Sto) (kvs : List (D × D)), Bx b p q T → Gp b q S T → T[S.length]? = some (.dn false kvs) → KvOk kvs → kvs.length + 4 * rest.length ≤ 160000 →
        turnQ (fun γ T => ∃ kvs x y, (∀ x ∈ rest, Ky x ∧ fit 2 x) ∧ γ = [some (.ref b), some (od o), some (.ref S.length), x, y] ∧ Bx b p q T ∧ Gp b q S T ∧ T[S.length]? = some (.dn false kvs) ∧ KvOk kvs ∧ kvs.length + 4 * rest.length ≤ 160000) (thenQ (seqM (asgM (tupM (consA (conM (.str "num")) (consA (conM (.int 0)) (nilA)))) (subD (varM 2) (callM 1 (den (k + 3) ._law_col) (consA (varM 0) (nilA))))) (seqM (asgM (tupM (consA (conM (.str "col")) (consA (conM (.str "s")) (consA (conM (.str "b")) (nilA))))) (subD (varM 2) (callM 1 (den (k + 3) ._law_agg) (consA (varM 0) (nilA))))) (rtM (varM 2)))) (retQ Q)) .nx [some (.ref b), some (od o), some (.ref S.length), some x, some (.int r)] T := fun T kvs h1 h2 h3 h4 h5 => .nx ⟨kvs, _, _, hr', rfl, h1, h2, h3, h4, h5⟩
    have e4 : ∀ (T : Sto) (kvs : List (D × D)), Bx b p q T → Gp b q S T → T[S.length]? = some (.dn false kvs) → KvOk kvs → kvs.length + 1 + 4 * rest.length ≤ 160000 →
        wS (ifS (tstM (binM eqF (varM 4) (conM (.int 4)))) (asgM (tupM (consA (conM (.str "agg")) (consA (callM 2 (den (k + 3) ._law_take) (consA (varM 0) (consA (conM (.int 4)) (nilA)))) (nilA)))) (subD (varM 2) (varM 3))) (nxM)) [some (.ref b), some (od o), some (.ref S.length), some x, some (.int r)] T (turnQ (fun γ T => ∃ kvs x y, (∀ x ∈ rest, Ky x ∧ fit 2 x) ∧ γ = [some (.ref b), some (od o), some (.ref S.length), x, y] ∧ Bx b p q T ∧ Gp b q S T ∧ T[S.length]? = some (.dn false kvs) ∧ KvOk kvs ∧ kvs.length + 4 * rest.length ≤ 160000) (thenQ (seqM (asgM (tupM (consA (conM (.str "num")) (consA (conM (.int 0)) (nilA)))) (subD (varM 2) (callM 1 (den (k + 3) ._law_col) (consA (varM 0) (nilA))))) (seqM (asgM (tupM (consA (conM (.str "col")) (consA (conM (.str "s")) (consA (conM (.str "b")) (nilA))))) (subD (varM 2) (callM 1 (den (k + 3) ._law_agg) (consA (varM 0) (nilA))))) (rtM (varM 2)))) (retQ Q))) := by
      intro T kvs h1 h2 h3 h4 h5
      sizeOf_list_dec
      refine iff_b (fun h => ?_) (fun h => ?_)
      · sizeOf_list_dec
        refine take_ok (by decide) h1 ?_
        intro r2 T2 _ _ B2 G2
        sizeOf_list_dec
        refine put_go (G2.at tb h3) h4 (by omega) hx ?_ ?_
        · refine fit_tup (by simp) fun y hy => ?_
          simp at hy
          rcases hy with rfl | rfl
          · exact fl_lit _ _
          · exact fit_flat rfl _
        · intro kvs' k1 k2
          exact e5 _ kvs' (B2.set tb tp tq) ((h2.trans G2.wk).set hSn) (lk_set (G2.at tb h3)) k1 (by omega)
      · refine s_nx ?_
        exact e5 T kvs h1 h2 h3 h4 (by omega)
    have e3 : ∀ (T : Sto) (kvs : List (D × D)), Bx b p q T → Gp b q S T → T[S.length]? = some (.dn false kvs) → KvOk kvs → kvs.length + 2 + 4 * rest.length ≤ 160000 →
        wS (seqM (ifS (tstM (binM eqF (varM 4) (conM (.int 3)))) (asgM (tupM (consA (conM (.str "neg")) (consA (tupM (consA (conM (.str "agg")) (consA (conM (.str "sum")) (consA (tupM (consA (conM (.str "col")) (consA (conM (.str "t")) (consA (conM (.str "a")) (nilA))))) (nilA))))) (nilA)))) (subD (varM 2) (varM 3))) (nxM)) (ifS (tstM (binM eqF (varM 4) (conM (.int 4)))) (asgM (tupM (consA (conM (.str "agg")) (consA (callM 2 (den (k + 3) ._law_take) (consA (varM 0) (consA (conM (.int 4)) (nilA)))) (nilA)))) (subD (varM 2) (varM 3))) (nxM))) [some (.ref b), some (od o), some (.ref S.length), some x, some (.int r)] T (turnQ (fun γ T => ∃ kvs x y, (∀ x ∈ rest, Ky x ∧ fit 2 x) ∧ γ = [some (.ref b), some (od o), some (.ref S.length), x, y] ∧ Bx b p q T ∧ Gp b q S T ∧ T[S.length]? = some (.dn false kvs) ∧ KvOk kvs ∧ kvs.length + 4 * rest.length ≤ 160000) (thenQ (seqM (asgM (tupM (consA (conM (.str "num")) (consA (conM (.int 0)) (nilA)))) (subD (varM 2) (callM 1 (den (k + 3) ._law_col) (consA (varM 0) (nilA))))) (seqM (asgM (tupM (consA (conM (.str "col")) (consA (conM (.str "s")) (consA (conM (.str "b")) (nilA))))) (subD (varM 2) (callM 1 (den (k + 3) ._law_agg) (consA (varM 0) (nilA))))) (rtM (varM 2)))) (retQ Q))) := by
      intro T kvs h1 h2 h3 h4 h5
      sizeOf_list_dec
      refine iff_b (fun h => ?_) (fun h => ?_)
      · sizeOf_list_dec
        refine put_go h3 h4 (by omega) hx ?_ ?_
        · refine fit_tup (by simp) fun y hy => ?_
          simp at hy
          rcases hy with rfl | rfl
          · exact fl_lit _ _
          · refine fit_tup (by simp) fun y hy => ?_
            simp at hy
            rcases hy with rfl | rfl | rfl
            · exact fl_lit _ _
            · exact fl_lit _ _
            · refine fit_tup (by simp) fun y hy => ?_
              simp at hy
              rcases hy with rfl | rfl | rfl <;> exact fl_lit _ _
        · intro kvs' k1 k2
          refine th_nx ?_
          exact e4 _ kvs' (h1.set tb tp tq) (h2.set hSn) (lk_set h3) k1 (by omega)
      · refine s_nx (th_nx ?_)
        exact e4 T kvs h1 h2 h3 h4 (by omega)
    have e2 : ∀ (T : Sto) (kvs : List (D × D)), Bx b p q T → Gp b q S T → T[S.length]? = some (.dn false kvs) → KvOk kvs → kvs.length + 3 + 4 * rest.length ≤ 160000 →
        wS (seqM (ifS (tstM (binM eqF (varM 4) (conM (.int 2)))) (asgM (callM 1 (den (k + 3) ._law_col) (consA (varM 0) (nilA))) (subD (varM 2) (varM 3))) (nxM)) (seqM (ifS (tstM (binM eqF (varM 4) (conM (.int 3)))) (asgM (tupM (consA (conM (.str "neg")) (consA (tupM (consA (conM (.str "agg")) (consA (conM (.str "sum")) (consA (tupM (consA (conM (.str "col")) (consA (conM (.str "t")) (consA (conM (.str "a")) (nilA))))) (nilA))))) (nilA)))) (subD (varM 2) (varM 3))) (nxM)) (ifS (tstM (binM eqF (varM 4) (conM (.int 4)))) (asgM (tupM (consA (conM (.str "agg")) (consA (callM 2 (den (k + 3) ._law_take) (consA (varM 0) (consA (conM (.int 4)) (nilA)))) (nilA)))) (subD (varM 2) (varM 3))) (nxM)))) [some (.ref b), some (od o), some (.ref S.length), some x, some (.int r)] T (turnQ (fun γ T => ∃ kvs x y, (∀ x ∈ rest, Ky x ∧ fit 2 x) ∧ γ = [some (.ref b), some (od o), some (.ref S.length), x, y] ∧ Bx b p q T ∧ Gp b q S T ∧ T[S.length]? = some (.dn false kvs) ∧ KvOk kvs ∧ kvs.length + 4 * rest.length ≤ 160000) (thenQ (seqM (asgM (tupM (consA (conM (.str "num")) (consA (conM (.int 0)) (nilA)))) (subD (varM 2) (callM 1 (den (k + 3) ._law_col) (consA (varM 0) (nilA))))) (seqM (asgM (tupM (consA (conM (.str "col")) (consA (conM (.str "s")) (consA (conM (.str "b")) (nilA))))) (subD (varM 2) (callM 1 (den (k + 3) ._law_agg) (consA (varM 0) (nilA))))) (rtM (varM 2)))) (retQ Q))) := by
      intro T kvs h1 h2 h3 h4 h5
      sizeOf_list_dec
      refine iff_b (fun h => ?_) (fun h => ?_)
      · sizeOf_list_dec
        refine col_ok h1 ?_
        intro xs T2 hxs hxl B2 G2
        sizeOf_list_dec
        refine put_go (G2.at tb h3) h4 (by omega) hx (fit_le (col_fit hxs hxl) (by omega)) ?_
        intro kvs' k1 k2
        refine th_nx ?_
        exact e3 _ kvs' (B2.set tb tp tq) ((h2.trans G2.wk).set hSn) (lk_set (G2.at tb h3)) k1 (by omega)
      · refine s_nx (th_nx ?_)
        exact e3 T kvs h1 h2 h3 h4 (by omega)
    refine iff_b (fun h => ?_) (fun h => ?_)
    · sizeOf_list_dec
      refine put_go ht1 hk (by omega) hx ?_ ?_
      · refine fit_tup (by simp) fun y hy => ?_
        simp at hy
        rcases hy with rfl | rfl | rfl
        · exact fl_lit _ _
        · exact fx
        · refine fit_tup (by simp) fun y hy => ?_
          simp at hy
          rcases hy with rfl | rfl
          · exact fl_lit _ _
          · exact fit_flat rfl _
      · intro kvs' k1 k2
        refine th_nx ?_
        exact e2 _ kvs' (B1.set tb tp tq) (G01.set hSn) (lk_set ht1) k1 (by omega)
    · refine s_nx (th_nx ?_)
      exact e2 T1 kvs B1 G01 ht1 hk (by omega)
  · rintro γ T ⟨kvs, x1, y1, hr, rfl, BT, GT, ht, hk, hl⟩
    refine ⟨trivial, ?_⟩
    sizeOf_list_dec
    refine col_ok BT ?_
    intro xs T2 hxs hxl B2 G2
    sizeOf_list_dec
    refine tup_out (put_go (x := (N.col xs).d) (G2.at tb ht) hk (by omega) (col_ky hxs hxl) (fnum 0) ?_)
    intro kvs2 k1 k2
    sizeOf_list_dec
    refine agg_ok (B2.set tb tp tq) ?_
    intro n T3 hn ha B3 G3
    sizeOf_list_dec
    have ht3 := G3.go _ _ tb tq (lk_set (G2.at tb ht) (o := .dn false kvs2))
    have hna : Ky n.d ∧ fit 2 n.d := by
      obtain ⟨xs, c, rfl⟩ := ha
      exact ⟨hn.2.2.1, (agg_fit hn ⟨xs, c, rfl⟩).1⟩
    refine put_go ht3 k1 (by omega) hna ?_ ?_
    · refine fit_tup (by simp) fun y hy => ?_
      simp at hy
      rcases hy with rfl | rfl | rfl <;> exact fl_lit _ _
    intro kvs3 k3 k4
    sizeOf_list_dec
    exact hQ _ kvs3 _ hSn tb tp tq (lk_set ht3) k3 (by omega) (B3.set tb tp tq) ((((GT.trans G2.wk).set hSn).trans G3).set hSn)
  · refine ⟨[], none, none, hkeys, rfl, ?_, ?_, ?_, ⟨by simp, by simp⟩, by simp; omega⟩
    · exact ((hB.kp Kp.refl.app).kp k1).kp k2
    · exact Gp.kp ((Kp.refl.app.trans k1).trans k2)
    · exact k2 _ _ (k1 _ _ lk_new)
theorem lookN_mem {kvs : List (D × D)} {k : NestedKey} {v : D} (h : lookN kvs k = some v) : ∃ e ∈ kvs, e.2 = v := by
  unfold lookN at h
  cases hf : kvs.find? (fun p => decide (nk p.1 = some k)) with
  | none => (rw [hf] at h; cases h)
  | some e =>
    rw [hf] at h
    refine ⟨e, List.mem_of_find?_eq_some hf, ?_⟩
    simpa using h
theorem look_fit {kvs : List (D × D)} (hk : KvOk kvs) {x v : D} (h : look kvs x = some v) : fit 5 v := by
  unfold look at h
  split at h
  · split at h
    · obtain ⟨e, he, rfl⟩ := lookN_mem h
      exact (hk.key e he).2.2
    · cases h
  · cases h
theorem lookD_fit {kvs : List (D × D)} (hk : KvOk kvs) {x : D} {m : Nat} (hx : fit m x) : fit (m + 5) (lookD kvs x) := by
  unfold lookD
  cases h : look kvs x with
  | none => exact fit_le hx (by omega)
  | some v => exact fit_le (look_fit hk h) (by omega)
theorem fit_pred {m : Nat} {xs : List D} (h : fit m (.tup xs)) : ∃ r, m = r + 1 ∧ xs.length ≤ 1000000 ∧ ∀ x ∈ xs, fit r x := by
  cases m with
  | zero => exact absurd h not_fit0
  | succ r => exact ⟨r, rfl, fit_of_tup h⟩
theorem putN_fit {kvs : List (D × D)} (hk : KvOk kvs) : ∀ (n : N) (m : Nat), fit m n.d → fit (m + 5) (putN kvs n)
  | .col xs, m, h => lookD_fit hk h
  | .agg xs none, m, h => lookD_fit hk h
  | .agg xs (some c), m, h => by
    unfold putN
    cases hl : look kvs (N.agg xs (some c)).d with
    | some v => exact fit_le (look_fit hk hl) (by omega)
    | none =>
      obtain ⟨r, rfl, hlen, hel⟩ := fit_pred (by simpa [N.d] using h)
      rw [show r + 1 + 5 = (r + 5) + 1 from by omega]
      refine fit_tup (by simp at hlen ⊢; omega) fun x hx => ?_
      rcases memC hx with rfl | hx
      · exact fl_lit _ _
      · rcases memA hx with hx | hx
        · exact fit_le (hel x (by simp [hx])) (by omega)
        · simp at hx; subst hx
          exact lookD_fit hk (hel _ (by simp))
  | .atm w xs, m, h => fit_le h (by omega)
  | .un w a, m, h => by
    obtain ⟨r, rfl, hlen, hel⟩ := fit_pred (by simpa [N.d] using h)
    unfold putN
    rw [show r + 1 + 5 = (r + 5) + 1 from by omega]
    refine fit_tup (by simp) fun x hx => ?_
    simp at hx
    rcases hx with rfl | rfl
    · exact fl_lit _ _
    · exact putN_fit hk a r (hel _ (by simp))
  | .inn a q, m, h => by
    obtain ⟨r, rfl, hlen, hel⟩ := fit_pred (by simpa [N.d] using h)
    unfold putN
    rw [show r + 1 + 5 = (r + 5) + 1 from by omega]
    refine fit_tup (by simp) fun x hx => ?_
    simp at hx
    rcases hx with rfl | rfl | rfl
    · exact fl_lit _ _
    · exact putN_fit hk a r (hel _ (by simp))
    · exact fit_le (hel x (by simp)) (by omega)
  | .two w p a b, m, h => by
    obtain ⟨r, rfl, hlen, hel⟩ := fit_pred (by simpa [N.d] using h)
    unfold putN
    rw [show r + 1 + 5 = (r + 5) + 1 from by omega]
    refine fit_tup (by simp at hlen ⊢; omega) fun x hx => ?_
    simp at hx
    rcases hx with rfl | hx | rfl | rfl
    · exact fl_lit _ _
    · exact fit_le (hel x (by simp [hx])) (by omega)
    · exact putN_fit hk a r (hel _ (by simp))
    · exact putN_fit hk b r (hel _ (by simp))
theorem lookD_nil (x : D) : lookD [] x = x := by
  unfold lookD look
  split
  · split <;> rfl
  · rfl
theorem look_nil (x : D) : look [] x = none := by
  unfold look
  split
  · split <;> rfl
  · rfl
theorem putN_nil : ∀ n : N, putN [] n = n.d
  | .col xs => lookD_nil _
  | .agg xs none => lookD_nil _
  | .agg xs (some c) => by simp [putN, look_nil, lookD_nil, N.d]
  | .atm w xs => rfl
  | .un w a => by simp [putN, N.d, putN_nil a]
  | .inn a q => by simp [putN, N.d, putN_nil a]
  | .two w p a b => by simp [putN, N.d, putN_nil a, putN_nil b]
def putO (kvs : List (D × D)) : Option N → D
  | none => .non
  | some n => putN kvs n
def hpO : Option N → Nat
  | none => 1
  | some n => hp n
theorem replacedO_ok {o : Option N} (h : okO o) (hs : szO o ≤ 100000) {t : Nat} {kvs : List (D × D)} {k : Nat} {S : Sto} {Q : D → Sto → Prop} (ht : S[t]? = some (.dn false kvs)) (q : ∀ S', Kj S S' → Q (putO kvs o) S') : w1 (den (k + 7) .replaced) [od o, .ref t] S Q := by
  cases o with
  | none => exact replaced_non (q _ Kp.refl.kj)
  | some n => exact replaced_ok (h n rfl) hs ht q
theorem putO_ok {o : Option N} (h : okO o) {t : Nat} {kvs : List (D × D)} {K : Nat} (hK : hpO o ≤ K) {S : Sto} {Q : D → Sto → Prop} (ht : S[t]? = some (.dn false kvs)) (q : ∀ S', Kp S S' → Q (putO kvs o) S') : w1 (den K ._law_put) [od o, .ref t] S Q := by
  cases o with
  | none =>
    obtain ⟨K, rfl⟩ : ∃ r, K = r + 1 := ⟨K - 1, by simp [hpO] at hK; omega⟩
    exact put_non (q _ .refl)
  | some n => exact put_ok n (h n rfl) K t kvs hK S Q ht q
theorem pairs_go {γ : Sl} {T : Sto} {t n : Nat} {kvs : List (D × D)} {Q : Sto → Prop} (hγ : γ[2]? = some (some (.ref t))) (h5 : 5 < γ.length) (hn : T[n]? = some (.lst [])) (ht : T[t]? = some (.dn true kvs)) (hk : KvOk kvs) (hl : kvs.length ≤ 200000)
    (q : ∀ T', T'[n]? = some (.lst (prs kvs)) → (∀ (j : Nat) (o : O), j ≠ n → T[j]? = some o → T'[j]? = some o) → Q T') : wK (some (t, .dn true kvs)) (.one 5) yesC (tupM (consA (varM 5) (consA (binM getF (varM 2) (varM 5)) nilA))) γ n (kvs.map (·.1)) T Q := by
  have hnt : t ≠ n := fun z => by subst z; rw [hn] at ht; cases ht
  refine k_inv (fun rest T' => ∃ a b, a ++ b = kvs ∧ rest = b.map (·.1) ∧ T'[n]? = some (.lst (prs a)) ∧ (∀ (j : Nat) (o : O), j ≠ n → T[j]? = some o → T'[j]? = some o)) ?_ ?_ _ _ ?_
  · rintro x r T' ⟨a, b, hab, hr, h1, h2⟩
    have ht' := h2 _ _ hnt ht
    refine ⟨ht', _, rfl, ?_⟩
    refine c_yes ?_
    refine iff_t ?_
    cases b with
    | nil => simp at hr
    | cons e b =>
      simp at hr
      obtain ⟨rfl, rfl⟩ := hr
      have hmem : e ∈ kvs := by rw [← hab]; simp
      obtain ⟨ks, k, e1, e2⟩ := (hk.key e hmem).1.key
      have hlook := look_self hk.nd hmem (k := k) (by rw [e1]; exact keyN_nk e2)
      have g5 : (γ.set 5 (some e.1))[5]? = some (some e.1) := List.getElem?_set_self h5
      have g2 : (γ.set 5 (some e.1))[2]? = some (some (.ref t)) := by rw [List.getElem?_set_ne (by decide)]; exact hγ
      refine v_tup (a_cons (v_var g5 (a_cons (v_bin (v_var g2 (v_var g5 ?_))))))
      rw [e1]
      refine o_get ht' e2 hlook ?_
      refine a_nil ⟨by simp [sizeLine], _, h1, ?_, ?_⟩
      · have : a.length ≤ kvs.length := by rw [← hab]; simp
        simp only [prs, List.length_map, sizeLine]; omega
      · refine ⟨a ++ [e], b, by simpa using hab, rfl, ?_, fun j o hj hjo => lk_ne hj (h2 j o hj hjo)⟩
        have : prs (a ++ [e]) = prs a ++ [.tup [e.1, e.2]] := by simp [prs]
        rw [this, ← e1]
        exact lk_set h1
  · rintro T' ⟨a, b, hab, hr, h1, h2⟩
    refine ⟨h2 _ _ hnt ht, ?_⟩
    have : b = [] := by simpa using hr.symm
    subst this
    rw [List.append_nil] at hab
    subst hab
    exact q _ h1 h2
  · exact ⟨[], kvs, rfl, rfl, hn, fun _ _ _ h => h⟩
theorem cols_eqO {o : Option N} (h : okO o) : colsOf o = (seqO o).flatMap (N.hits "col") := by
  cases o with
  | none => rfl
  | some n => simp [colsOf, stk, seqO, cols_eq n (h n rfl)]
theorem aggs_eqO {o : Option N} (h : okO o) : aggsOf o = (seqO o).flatMap (N.hits "agg") := by
  cases o with
  | none => rfl
  | some n => simp [aggsOf, stk, seqO, aggs_eq n (h n rfl)]
theorem ded_fit {o : Option N} (h : okO o) (hs : szO o ≤ 20000) {z : Str} (hz : z = "col" ∨ z = "agg") : fit 3 (.tup (ded [] ((seqO o).flatMap (N.hits z)))) := by
  have l1 := ded_len ((seqO o).flatMap (N.hits z)) []
  have l2 := hits_len z (seqO o)
  have l3 := seqO_len o
  simp only [List.length_nil] at l1
  refine fit_tup (by omega) fun x hx => ?_
  rcases ded_mem hx with hx | hx
  · simp at hx
  · exact (hits_ok h hz x hx).2
theorem tot_szO (o : Option N) : tot (stk o) ≤ szO o := by
  cases o with
  | none => simp [stk, tot]
  | some n => simp [stk, tot, szO]
theorem prs_fit {kvs : List (D × D)} (hk : KvOk kvs) (hl : kvs.length ≤ 200000) : fit 7 (.tup (prs kvs)) := by
  refine fit_tup (by simp [prs]; omega) fun x hx => ?_
  simp only [prs, List.mem_map] at hx
  obtain ⟨e, he, rfl⟩ := hx
  obtain ⟨h1, h2, h3⟩ := hk.key e he
  refine fit_tup (by simp) fun y hy => ?_
  simp at hy
  rcases hy with rfl | rfl
  · exact fit_le h2 (by omega)
  · exact h3
/-- what the law asks of a tree -/
structure Gd (m : Nat) (o : Option N) : Prop where
  ok : okO o
  sz : szO o ≤ 20000
  ht : hts (stk o) ≤ 400
  fit : Gn.fit m (od o)
  hp : hpO o ≤ m + 2
theorem Bx.pl {b p q : Nat} {S : Sto} (h : Bx b p q S) : ∃ (i : Int) (pl : Bool) (sg : Int), S[b]? = some (.lst [.ref p, .int i, .bl pl, .int sg, .ref q]) := by
  obtain ⟨i, pl, sg, ns, ag, h1, _⟩ := h.ex
  exact ⟨i, pl, sg, h1⟩
theorem is_right_ok {b p q : Nat} {o : Option N} {m : Nat} (g : Gd m o) {K : Nat} (hK : m + 12 ≤ K) {S : Sto} {Q : D → Sto → Prop} (hB : Bx b p q S) (hQ : ∀ S', Bx b p q S' → Gp b q S S' → Q (.bl true) S') : w1 (den (K + 1) ._law_is_right) [.ref b, od o] S Q := by
  obtain ⟨k, rfl⟩ : ∃ r, K = r + 7 := ⟨K - 7, by omega⟩
  have htot : tot (stk o) ≤ 100000 := by have := tot_szO o; have := g.sz; omega
  have fc := ded_fit g.ok g.sz (.inl rfl)
  have fa := ded_fit g.ok g.sz (.inr rfl)
  have hc := cols_eqO g.ok
  have ha := aggs_eqO g.ok
  refine w_body ?_
  unfold b__law_is_right
  sizeOf_list_dec
  refine columns_in_ok g.ok htot ?_
  intro S1 k1
  sizeOf_list_dec
  refine found_ok g.ok g.sz (.inl rfl) ?_
  intro S2 k2
  sizeOf_list_dec
  rw [hc]
  refine same_ok 3 _ fc _ (by omega) _ _ ?_
  intro S3 k3
  sizeOf_list_dec
  refine iff_f ?_
  sizeOf_list_dec
  refine v_callK ?_
  sizeOf_list_dec
  show w1 (den (k + 7) .aggs_in) [od o] _ _
  refine aggs_in_ok g.ok htot ?_
  intro S4 k4
  sizeOf_list_dec
  refine found_ok g.ok g.sz (.inr rfl) ?_
  intro S5 k5
  sizeOf_list_dec
  rw [ha]
  refine same_ok 3 _ fa _ (by omega) _ _ ?_
  intro S6 k6
  sizeOf_list_dec
  refine iff_f ?_
  have k06 : Kp S S6 := ((k1.trans k2).trans k3).trans ((k4.trans k5).trans k6)
  have B6 := hB.kp k06
  obtain ⟨i6, pl6, sg6, h6⟩ := B6.pl
  sizeOf_list_dec
  refine o_ixL h6 rfl ?_
  sizeOf_list_dec
  have rest : ∀ (T : Sto), Kp S6 T → wS (seqM (asgM (callM 2 (den (k + 7) ._law_table) (consA (varM 0) (consA (varM 1) (nilA)))) (nameG 2)) (seqM (lockS 2 (asgM (compM (keysI (varM 2)) (.one 5) (yesC) (tupM (consA (varM 5) (consA (binM getF (varM 2) (varM 5)) (nilA)))) [5]) (nameG 3))) (seqM (ifS (notC (truC (callM 2 (den (k + 7) ._law_same) (consA (callM 2 (den (k + 7) .replaced) (consA (varM 1) (consA (varM 2) (nilA)))) (consA (callM 2 (den (k + 7) ._law_put) (consA (varM 1) (consA (appM dictF (consA (varM 3) nilA)) (nilA)))) (nilA)))))) (rtM (conM (.bl false))) (nxM)) (seqM (ifS (notC (truC (callM 2 (den (k + 7) ._law_same) (consA (appM tupleF (consA (lockM 2 (compM (keysI (varM 2)) (.one 5) (yesC) (tupM (consA (varM 5) (consA (binM getF (varM 2) (varM 5)) (nilA)))) [5])) (nilA))) (consA (appM tupleF (consA (varM 3) (nilA))) (nilA)))))) (rtM (conM (.bl false))) (nxM)) (seqM (asgM (tupM (consA (varM 1) (consA (callM 2 (den (k + 7) ._law_found) (consA (varM 1) (consA (conM (.str "col")) (nilA)))) (nilA)))) (nameG 4)) (rtM (callM 2 (den (k + 7) ._law_same) (consA (tupM (consA (callKM 0 2 2 [1, 0] (den (k + 7) .replaced) (nilA) (consA (newD) (consA (varM 1) (nilA)))) (consA (callKM 0 1 1 [0] (den (k + 7) .columns_in) (nilA) (consA (varM 1) (nilA))) (nilA)))) (consA (varM 4) (nilA)))))))))) [some (.ref b), some (od o), none, none, none, none] T (retQ Q) := by
    intro T kT
    have BT := B6.kp kT
    have kST := k06.trans kT
    have lt := BT.lt
    sizeOf_list_dec
    refine table_ok g.ok g.sz BT ?_
    intro t kvs S7 tn tb tp tq ht hkv hkl B7 G7
    sizeOf_list_dec
    refine s_lock rfl ht ?_
    have htl : (S7.set t (.dn true kvs))[t]? = some (.dn true kvs) := lk_set ht
    sizeOf_list_dec
    refine ⟨kvs, htl, ?_⟩
    have hnt : t ≠ (S7.set t (.dn true kvs)).length := Kp.ne htl
    refine pairs_go rfl (by simp [wipeD]) lk_new (lk_app htl) hkv hkl ?_
    intro S8 p1 p2
    have ht8 := p2 _ _ hnt (lk_app htl)
    sizeOf_list_dec
    refine ⟨kvs, ht8, ?_⟩
    generalize hr : (S7.set t (.dn true kvs)).length = r at *
    have hrS : r = S7.length := by rw [← hr]; simp
    have p1' : (S8.set t (.dn false kvs))[r]? = some (.lst (prs kvs)) := lk_ne (Ne.symm hnt) p1
    have ht9 : (S8.set t (.dn false kvs))[t]? = some (.dn false kvs) := lk_set ht8
    have k9 : Kp S7 (S8.set t (.dn false kvs)) := by
      intro j u e
      by_cases hj : j = t
      · subst hj
        rw [ht] at e; cases e
        exact lk_set ht8
      · exact lk_ne hj (p2 j u (by have := lt_of e; omega) (lk_app (lk_ne hj e)))
    generalize S8.set t (.dn false kvs) = S9 at *
    sizeOf_list_dec
    refine replacedO_ok g.ok (by have := g.sz; omega) ht9 ?_
    intro S10 k10
    sizeOf_list_dec
    obtain ⟨l, hp1, hp2⟩ := pairs_ok (kvs := kvs) fun e he => (hkv.key e he).1
    have hcopy : putAll l [] = kvs := by simpa using hp2 [] (by simpa using hkv.nd)
    refine f_dict (k10 _ _ p1' rfl) hp1 ?_
    rw [hcopy]
    sizeOf_list_dec
    refine putO_ok g.ok (by have := g.hp; omega) lk_new ?_
    intro S11 k11
    sizeOf_list_dec
    have fput : fit (m + 5) (putO kvs o) := by
      cases o with
      | none => exact fl_non _
      | some n => exact putN_fit hkv n m g.fit
    refine same_ok (m + 5) _ fput _ (by omega) _ _ ?_
    intro S12 k12
    sizeOf_list_dec
    refine iff_f ?_
    have k912 : Kj S9 S12 := k10.trans ((Kp.refl.app.trans k11).trans k12).kj
    have ht12 := k912 _ _ ht9 rfl
    have pr12 := k912 _ _ p1' rfl
    sizeOf_list_dec
    refine v_lock rfl ht12 ?_
    have htl2 : (S12.set t (.dn true kvs))[t]? = some (.dn true kvs) := lk_set ht12
    sizeOf_list_dec
    refine ⟨kvs, htl2, ?_⟩
    have hnt2 : t ≠ (S12.set t (.dn true kvs)).length := Kp.ne htl2
    refine pairs_go rfl (by simp [wipeD]) lk_new (lk_app htl2) hkv hkl ?_
    intro S13 p3 p4
    have ht13 := p4 _ _ hnt2 (lk_app htl2)
    refine ⟨kvs, ht13, ?_⟩
    generalize hr2 : (S12.set t (.dn true kvs)).length = r2 at *
    have hrS2 : r2 = S12.length := by rw [← hr2]; simp
    have p3' : (S13.set t (.dn false kvs))[r2]? = some (.lst (prs kvs)) := lk_ne (Ne.symm hnt2) p3
    have k14 : Kp S12 (S13.set t (.dn false kvs)) := by
      intro j u e
      by_cases hj : j = t
      · subst hj
        rw [ht12] at e; cases e
        exact lk_set ht13
      · exact lk_ne hj (p4 j u (by have := lt_of e; omega) (lk_app (lk_ne hj e)))
    generalize S13.set t (.dn false kvs) = S14 at *
    sizeOf_list_dec
    refine f_tupL (k14 _ _ pr12) ?_
    sizeOf_list_dec
    refine same_ok 7 _ (prs_fit hkv hkl) _ (by omega) _ _ ?_
    intro S15 k15
    sizeOf_list_dec
    refine iff_f ?_
    sizeOf_list_dec
    refine found_ok g.ok g.sz (.inl rfl) ?_
    intro S16 k16
    sizeOf_list_dec
    refine v_callK ?_
    sizeOf_list_dec
    show w1 (den (k + 7) .replaced) [od o, .ref S16.length] _ _
    refine replacedO_ok g.ok (by have := g.sz; omega) lk_new ?_
    intro S17 k17
    sizeOf_list_dec
    refine v_callK ?_
    sizeOf_list_dec
    show w1 (den (k + 7) .columns_in) [od o] _ _
    refine columns_in_ok g.ok htot ?_
    intro S18 k18
    sizeOf_list_dec
    have hput : putO [] o = od o := by
      cases o with
      | none => rfl
      | some n => exact putN_nil n
    rw [hput, hc]
    refine same_ok (m + 4) _ ?_ _ (by omega) _ _ ?_
    · refine fit_tup (by simp) fun x hx => ?_
      simp at hx
      rcases hx with rfl | rfl
      · exact fit_le g.fit (by omega)
      · exact fit_le fc (by omega)
    intro S19 k19
    sizeOf_list_dec
    have kend : Kj S7 S19 := (((k9.kj.trans k912).trans k14.kj).trans (k15.trans k16).kj).trans (((Kp.refl.app.kj.trans k17).trans k18.kj).trans k19.kj)
    exact hQ _ (B7.kj kend) (((Gp.kp kST).trans G7).trans (Gp.kj kend))
  refine iff_b (fun hpl => ?_) (fun hpl => ?_)
  · sizeOf_list_dec
    refine v_callK ?_
    sizeOf_list_dec
    show w1 (den (k + 7) .height) [od o] _ _
    refine height_ok g.ok htot ?_
    intro S7 k7
    sizeOf_list_dec
    refine levels_ok g.ok htot g.ht ?_
    intro S8 k8
    sizeOf_list_dec
    refine same_ok 0 (.int ((hts (stk o) : Nat) : Int)) rfl _ (by omega) _ _ ?_
    intro S9 k9
    sizeOf_list_dec
    refine iff_f ?_
    refine s_nx (th_nx ?_)
    exact rest S9 ((k7.trans k8).trans k9)
  · refine iff_f ?_
    refine s_nx (th_nx ?_)
    exact rest S6 .refl
theorem hp_le : ∀ n : N, hp n ≤ n.ht + 2
  | .col _ => by simp [hp]
  | .agg _ _ => by simp [hp]
  | .atm _ _ => by simp [hp]
  | .un _ a => by have := hp_le a; simp only [hp, N.ht]; omega
  | .inn a _ => by have := hp_le a; simp only [hp, N.ht]; omega
  | .two _ _ a b => by have := hp_le a; have := hp_le b; simp only [hp, N.ht]; omega
def and2 (a b : N) : N := .two "and" [] a b
def andO : Option N → N → Option N
  | none, t => some t
  | some a, t => some (and2 a t)
theorem andAll_fold (l : List N) : andAll l = l.foldl andO none := by
  cases l with
  | nil => rfl
  | cons n l =>
    show some (l.foldl _ n) = l.foldl andO (some n)
    induction l generalizing n with
    | nil => rfl
    | cons t l ih => exact ih (and2 n t)
theorem mem_and (a b : N) : (and2 a b).mem = a.mem ++ b.mem := by simp [and2, N.mem]
def memO (o : Option N) : List N := (stk o).flatMap N.mem
theorem memO_and (o : Option N) (t : N) : memO (andO o t) = memO o ++ t.mem := by
  cases o with
  | none => simp [memO, andO, stk]
  | some a => simp [memO, andO, stk, mem_and]
theorem memO_fold (l : List N) (o : Option N) : memO (l.foldl andO o) = memO o ++ l.flatMap N.mem := by
  induction l generalizing o with
  | nil => simp
  | cons t l ih => rw [List.foldl_cons, ih, memO_and]; simp
theorem memO_all (l : List N) : memO (andAll l) = l.flatMap N.mem := by
  rw [andAll_fold, memO_fold]; simp [memO, stk]
theorem mem_mem : ∀ (n x : N), x ∈ n.mem → x.mem = [x]
  | .col _, x, h => by simp [N.mem] at h; subst h; rfl
  | .agg _ _, x, h => by simp [N.mem] at h; subst h; rfl
  | .atm _ _, x, h => by simp [N.mem] at h; subst h; rfl
  | .un _ a, x, h => by simp [N.mem] at h; subst h; rfl
  | .inn a _, x, h => by simp [N.mem] at h; subst h; rfl
  | .two w p a b, x, h => by
    unfold N.mem at h
    split at h
    · rcases memA h with h | h
      · exact mem_mem a x h
      · exact mem_mem b x h
    · rename_i hw
      simp at h; subst h
      simp [N.mem, hw]
theorem mem_ok : ∀ (n x : N), n.ok → x ∈ n.mem → x.ok
  | .col _, x, o, h => by simp [N.mem] at h; subst h; exact o
  | .agg _ _, x, o, h => by simp [N.mem] at h; subst h; exact o
  | .atm _ _, x, o, h => by simp [N.mem] at h; subst h; exact o
  | .un _ a, x, o, h => by simp [N.mem] at h; subst h; exact o
  | .inn a _, x, o, h => by simp [N.mem] at h; subst h; exact o
  | .two w p a b, x, o, h => by
    unfold N.mem at h
    split at h
    · rcases memA h with h | h
      · exact mem_ok a x o.2.1 h
      · exact mem_ok b x o.2.2 h
    · simp at h; subst h; exact o
theorem mem_fit : ∀ (n x : N) (m : Nat), fit m n.d → x ∈ n.mem → fit m x.d
  | .col _, x, m, f, h => by simp [N.mem] at h; subst h; exact f
  | .agg _ _, x, m, f, h => by simp [N.mem] at h; subst h; exact f
  | .atm _ _, x, m, f, h => by simp [N.mem] at h; subst h; exact f
  | .un _ a, x, m, f, h => by simp [N.mem] at h; subst h; exact f
  | .inn a _, x, m, f, h => by simp [N.mem] at h; subst h; exact f
  | .two w p a b, x, m, f, h => by
    unfold N.mem at h
    split at h
    · obtain ⟨r, rfl, hl, hel⟩ := fit_pred (by simpa [N.d] using f)
      rcases memA h with h | h
      · exact fit_succ (mem_fit a x r (hel _ (by simp)) h)
      · exact fit_succ (mem_fit b x r (hel _ (by simp)) h)
    · simp at h; subst h; exact f
theorem mem_tot : ∀ n : N, tot n.mem ≤ n.sz
  | .col _ => by simp [N.mem, tot]
  | .agg _ _ => by simp [N.mem, tot]
  | .atm _ _ => by simp [N.mem, tot]
  | .un _ a => by simp [N.mem, tot]
  | .inn a _ => by simp [N.mem, tot]
  | .two w p a b => by
    have := mem_tot a; have := mem_tot b
    unfold N.mem
    split
    · rw [tot_app]; simp only [N.sz]; omega
    · simp [tot]
theorem mems_tot (l : List N) : tot (l.flatMap N.mem) ≤ tot l := by
  induction l with
  | nil => simp [tot]
  | cons n l ih =>
    have := mem_tot n
    have e : tot (n :: l) = n.sz + tot l := by simp [tot]
    rw [List.flatMap_cons, tot_app]; omega
theorem fold_sz (l : List N) (o : Option N) : tot (stk (l.foldl andO o)) ≤ tot (stk o) + tot l + l.length := by
  induction l generalizing o with
  | nil => simp
  | cons t l ih =>
    have e : tot (t :: l) = t.sz + tot l := by simp [tot]
    have := ih (andO o t)
    have h2 : tot (stk (andO o t)) ≤ tot (stk o) + t.sz + 1 := by
      cases o with
      | none => simp [andO, stk, tot]
      | some a => simp [andO, stk, tot, and2, N.sz]
    rw [List.foldl_cons]
    (simp only [List.length_cons]; omega)
theorem andAll_sz (l : List N) : tot (stk (andAll l)) ≤ tot l + l.length := by
  have := fold_sz l none
  rw [andAll_fold]
  simp [stk, tot] at this ⊢
  exact this
theorem fold_ok (l : List N) (o : Option N) (ho : okO o) (hl : okL l) : okO (l.foldl andO o) := by
  induction l generalizing o with
  | nil => exact ho
  | cons t l ih =>
    refine ih _ ?_ fun n hn => hl n (by simp [hn])
    have ht : t.ok := hl t (by simp)
    cases o with
    | none => intro n e; cases e; exact ht
    | some a =>
      intro n e; cases e
      exact ⟨.inl ⟨.inr (.inr (.inr (.inl rfl))), rfl⟩, ho a rfl, ht⟩
theorem andAll_ok {l : List N} (hl : okL l) : okO (andAll l) := by
  rw [andAll_fold]
  exact fold_ok l none (fun n e => by cases e) hl
theorem fold_fit (l : List N) (o : Option N) (m : Nat) (ho : fit m (od o)) (hl : ∀ t ∈ l, fit m t.d) : fit (m + l.length) (od (l.foldl andO o)) := by
  induction l generalizing o m with
  | nil => simpa using ho
  | cons t l ih =>
    have ht := hl t (by simp)
    have := ih (andO o t) (m + 1) ?_ fun x hx => fit_succ (hl x (by simp [hx]))
    · rw [List.foldl_cons]
      refine fit_le this (by simp only [List.length_cons]; omega)
    · cases o with
      | none => exact fit_succ ht
      | some a =>
        refine fit_tup (by simp) fun x hx => ?_
        simp at hx
        rcases hx with rfl | rfl | rfl
        · exact fl_lit _ _
        · exact ho
        · exact ht
theorem fold_ht (l : List N) (o : Option N) (m : Nat) (ho : hts (stk o) ≤ m) (hl : ∀ t ∈ l, t.ht + 1 ≤ m) : hts (stk (l.foldl andO o)) ≤ m + l.length := by
  induction l generalizing o m with
  | nil => simpa using ho
  | cons t l ih =>
    have ht := hl t (by simp)
    have := ih (andO o t) (m + 1) ?_ fun x hx => by have := hl x (by simp [hx]); omega
    · rw [List.foldl_cons]
      (simp only [List.length_cons]; omega)
    · cases o with
      | none => simp [andO, stk, hts]; omega
      | some a =>
        simp only [stk, hts, List.foldr_cons, List.foldr_nil] at ho
        simp only [andO, stk, hts, List.foldr_cons, List.foldr_nil, and2, N.ht]; omega
theorem gd_some {n : N} {m : Nat} (h : n.ok) (hs : n.sz ≤ 20000) (hh : n.ht ≤ m) (hm : m ≤ 300) (hf : fit m n.d) : Gd m (some n) := by
  refine ⟨fun x e => by cases e; exact h, hs, ?_, hf, ?_⟩
  · simp [stk, hts]; omega
  · have := hp_le n; simp only [hpO]; omega
theorem gd_none (m : Nat) : Gd m none := ⟨fun x e => (by cases e), by simp [szO], by simp [stk, hts], fl_non _, by simp [hpO]⟩
theorem gd_all {l : List N} {m : Nat} (hok : okL l) (hs : tot l + l.length ≤ 20000) (hf : ∀ t ∈ l, fit m t.d) (hh : ∀ t ∈ l, t.ht + 1 ≤ m) (hm : m + l.length ≤ 300) : Gd (m + l.length) (andAll l) := by
  have h1 := andAll_ok hok
  have h2 := andAll_sz l
  have h3 := fold_fit l none m (fl_non _) hf
  have h4 := fold_ht l none m (by simp [stk, hts]) hh
  rw [← andAll_fold] at h3 h4
  cases h : andAll l with
  | none => exact gd_none _
  | some n =>
    rw [h] at h1 h2 h3 h4
    simp only [stk, tot_one] at h2
    simp only [stk, hts, List.foldr_cons, List.foldr_nil] at h4
    exact gd_some (h1 n rfl) (by omega) (by omega) (by omega) h3
theorem flat_mem {l : List N} (x : N) (hx : x ∈ l.flatMap N.mem) : ∃ n ∈ l, x ∈ n.mem := by
  obtain ⟨n, h1, h2⟩ := List.mem_flatMap.mp hx
  exact ⟨n, h1, h2⟩
theorem mems_mem (l : List N) : (l.flatMap N.mem).flatMap N.mem = l.flatMap N.mem := by
  have : ∀ ms : List N, (∀ x ∈ ms, x.mem = [x]) → ms.flatMap N.mem = ms := by
    intro ms
    induction ms with
    | nil => intro _; rfl
    | cons a ms ih => intro h; rw [List.flatMap_cons, h a (by simp), ih fun x hx => h x (by simp [hx])]; rfl
  refine this _ fun x hx => ?_
  obtain ⟨n, _, h⟩ := flat_mem x hx
  exact mem_mem n x h
theorem conds_right_ok {b p q r : Nat} {l : List N} {m : Nat} (hok : okL l) (hs : tot l + l.length ≤ 20000) (hf : ∀ t ∈ l, fit m t.d) (hm : m ≤ 60) (g : Gd (m + l.length) (andAll l)) (hl : l.length ≤ 40) {K : Nat} (hK : m + l.length + 14 ≤ K) {S : Sto} {Q : D → Sto → Prop} (hB : Bx b p q S) (hr : S[r]? = some (.lst (ms l))) (hQ : ∀ S', Bx b p q S' → Gp b q S S' → Q (.bl true) S') : w1 (den (K + 1) ._law_conds_right) [.ref b, .ref r] S Q := by
  obtain ⟨k, rfl⟩ : ∃ r, K = r + 4 := ⟨K - 4, by omega⟩
  have lt := len_tot l
  refine w_body ?_
  unfold b__law_conds_right
  sizeOf_list_dec
  refine for_inv (fun rest γ T => ∃ done todo' x, done ++ todo' = l ∧ rest = ms todo' ∧ γ = [some (.ref b), some (.ref r), some (od (done.foldl andO none)), x, none, none] ∧ T = S) ?_ ?_ _ _ _ ?_
  · rintro x rest γ T ⟨done, tl, x1, hd, hrest, rfl, rfl⟩
    refine ⟨hr, ?_⟩
    cases tl with
    | nil => cases hrest
    | cons t tl =>
      rw [ms_cons] at hrest
      cases hrest
      have fin : od ((done ++ [t]).foldl andO none) = od (andO (done.foldl andO none) t) := by rw [List.foldl_append]; rfl
      sizeOf_list_dec
      cases ho : done.foldl andO none with
      | none =>
        refine iff_t ?_
        sizeOf_list_dec
        refine ⟨done ++ [t], tl, some t.d, by simpa using hd, rfl, ?_, rfl⟩
        rw [fin, ho]; rfl
      | some a =>
        rw [show isN (od (some a)) = false from isN_d a]
        refine iff_f ?_
        sizeOf_list_dec
        refine ⟨done ++ [t], tl, some t.d, by simpa using hd, rfl, ?_, rfl⟩
        rw [fin, ho]; rfl
  · rintro γ T ⟨done, tl, x1, hd, hrest, rfl, rfl⟩
    refine ⟨hr, ?_⟩
    have : tl = [] := by cases tl with
      | nil => rfl
      | cons b m => cases hrest
    subst this
    rw [List.append_nil] at hd
    subst hd
    rw [← andAll_fold]
    sizeOf_list_dec
    have hr1 : (T ++ [O.lst []])[r]? = some (.lst (ms done)) := lk_app hr
    sizeOf_list_dec
    refine for_inv (fun rest γ T2 => ∃ (dn tl : List N) (x : Option D) (c : Nat), dn ++ tl = done ∧ rest = ms tl ∧ γ = [some (.ref b), some (.ref r), some (od (andAll done)), x, some (.ref c), none] ∧ T2[c]? = some (.lst (ms (dn.flatMap N.mem))) ∧ Kp T T2) ?_ ?_ _ _ _ ?_
    · rintro x rest γ T2 ⟨dn, tl, x1, c, hd, hrest, rfl, hc, hk⟩
      refine ⟨hk _ _ hr, ?_⟩
      cases tl with
      | nil => cases hrest
      | cons t tl =>
        rw [ms_cons] at hrest
        cases hrest
        have htd : t ∈ done := by rw [← hd]; simp
        have htot : tot done = tot dn + (t.sz + tot tl) := by rw [← hd, tot_app]; simp [tot]
        sizeOf_list_dec
        refine split_ok (hok t htd) (by omega) ?_
        intro S3 k3
        sizeOf_list_dec
        have m1 := mems_tot dn
        have m2 := len_tot (dn.flatMap N.mem)
        have m3 := N.mem_sz t
        refine o_addL (lk_app (k3 _ _ hc)) lk_new (by rw [ms_length, ms_length]; simp only [sizeLine]; omega) ?_
        rw [← ms_app]
        sizeOf_list_dec
        refine ⟨dn ++ [t], tl, _, _, by simpa using hd, rfl, rfl, ?_, ((hk.trans k3).app).app⟩
        simp only [List.flatMap_append, List.flatMap_cons, List.flatMap_nil, List.append_nil]
        exact lk_new
    · rintro γ T2 ⟨dn, tl, x1, c, hd, hrest, rfl, hc, hk⟩
      refine ⟨hk _ _ hr, ?_⟩
      have : tl = [] := by cases tl with
        | nil => rfl
        | cons b m => cases hrest
      subst this
      rw [List.append_nil] at hd
      subst hd
      have hr2 := hk _ _ hr
      have htotA : tot (stk (andAll dn)) ≤ 100000 := by have := andAll_sz dn; omega
      have hmem : (stk (andAll dn)).flatMap N.mem = dn.flatMap N.mem := memO_all dn
      sizeOf_list_dec
      refine v_callK ?_
      sizeOf_list_dec
      show w1 (den (k + 4) .joined) [.tup (ms dn)] _ _
      refine joined_ok ?_
      sizeOf_list_dec
      refine same_ok (m + dn.length) _ g.fit _ (by omega) _ _ ?_
      intro S3 k3
      sizeOf_list_dec
      refine iff_f ?_
      sizeOf_list_dec
      refine v_callK ?_
      sizeOf_list_dec
      show w1 (den (k + 4) .members) [od (andAll dn)] _ _
      refine members_ok g.ok htotA ?_
      intro S4 k4
      sizeOf_list_dec
      refine f_tupL (k4 _ _ (k3 _ _ hc)) ?_
      sizeOf_list_dec
      rw [hmem]
      have fms : fit (m + 1) (.tup (ms (dn.flatMap N.mem))) := by
        have m1 := mems_tot dn
        have m2 := len_tot (dn.flatMap N.mem)
        refine fit_tup (by rw [ms_length]; omega) fun x hx => ?_
        simp only [ms, List.mem_map] at hx
        obtain ⟨y, hy, rfl⟩ := hx
        obtain ⟨n, h1, h2⟩ := flat_mem y hy
        exact mem_fit n y m (hf n h1) h2
      refine same_ok (m + 1) _ fms _ (by omega) _ _ ?_
      intro S5 k5
      sizeOf_list_dec
      refine iff_f ?_
      sizeOf_list_dec
      refine members_ok g.ok htotA ?_
      intro S6 k6
      sizeOf_list_dec
      rw [hmem]
      refine joined_ok ?_
      sizeOf_list_dec
      have okm : okL (dn.flatMap N.mem) := fun x hx => by
        obtain ⟨n, h1, h2⟩ := flat_mem x hx
        exact mem_ok n x (hok n h1) h2
      refine members_ok (andAll_ok okm) ?_ ?_
      · have m0 := andAll_sz (dn.flatMap N.mem)
        have m1 := mems_tot dn
        have m2 := len_tot (dn.flatMap N.mem)
        omega
      intro S7 k7
      sizeOf_list_dec
      rw [show (stk (andAll (dn.flatMap N.mem))).flatMap N.mem = dn.flatMap N.mem from (memO_all _).trans (mems_mem dn)]
      have kk : Kp T2 S7 := ((k3.trans k4).trans k5).trans (k6.trans k7)
      refine f_tupL (kk _ _ hc) ?_
      sizeOf_list_dec
      refine same_ok (m + 1) _ fms _ (by omega) _ _ ?_
      intro S8 k8
      sizeOf_list_dec
      refine iff_t ?_
      sizeOf_list_dec
      have kend : Kp T S8 := (hk.trans kk).trans k8
      refine is_right_ok g (K := k + 3) (by omega) (hB.kp kend) ?_
      intro S9 B9 G9
      sizeOf_list_dec
      exact hQ S9 B9 ((Gp.kp kend).trans G9)
    · exact ⟨[], done, _, T.length, rfl, rfl, rfl, lk_new, Kp.refl.app⟩
  · exact ⟨[], l, none, rfl, rfl, rfl, rfl⟩
theorem gd_ex {d : Nat} {n : N} (h : Ex d n) (hd : d ≤ 6) : Gd (d + 2) (some n) := by
  have h1 := h.ht
  have h2 := h.sz
  have : eb d ≤ eb 6 := by
    have : ∀ d k, eb d ≤ eb (d + k) := by
      intro d k
      induction k with
      | zero => exact Nat.le_refl _
      | succ k ih => have : eb (d + (k + 1)) = 2 * eb (d + k) + 1 := rfl; omega
    have := this d (6 - d)
    rwa [show d + (6 - d) = 6 from by omega] at this
  have e6 : eb 6 = 191 := rfl
  exact gd_some h.ok (by omega) (by omega) (by omega) h.fit
theorem cb_mono {d e : Nat} (h : d ≤ e) : cb d ≤ cb e := by
  have : ∀ d k, cb d ≤ cb (d + k) := by
    intro d k
    induction k with
    | zero => exact Nat.le_refl _
    | succ k ih => have : cb (d + (k + 1)) = 2 * cb (d + k) + 1 := rfl; omega
  have := this d (e - d)
  rwa [show d + (e - d) = e from by omega] at this
theorem gd_cd {d : Nat} {n : N} (h : Cd d n) (hd : d ≤ 5) : Gd (d + 9) (some n) := by
  have h1 := h.ht
  have h2 := h.sz
  have := cb_mono hd
  have e6 : cb 5 = 1567 := rfl
  exact gd_some h.ok (by omega) (by omega) (by omega) h.fit
theorem good : Good := by
  intro ns hns
  have main : w1 (den 100 .law) [.rl (ns.map D.int)] [] fun d _ => d = .bl true := by
    refine w_body ?_
    unfold b_law
    sizeOf_list_dec
    refine numbers_ok hns ?_
    intro p S1 nums k1 hp hpn
    sizeOf_list_dec
    have hpl := lt_of hp
    generalize hb : (S1 ++ [O.lst []]).length = b
    have hb' : b = S1.length + 1 := by rw [← hb]; simp
    have B0 : Bx b p S1.length (S1 ++ [O.lst []] ++ [O.lst [.ref p, .int 0, .bl true, .int 40, .ref S1.length]]) := by
      refine ⟨0, true, 40, nums, [], ?_, by omega, lk_app (lk_app hp), lk_app lk_new, by simp, by simp, by omega, by omega, by omega⟩
      rw [← hb]; exact lk_new
    generalize S1.length = q0 at *
    generalize S1 ++ [O.lst []] ++ [O.lst [.ref p, .int 0, .bl true, .int 40, .ref q0]] = S2 at *
    refine cond_ok 5 99 (by omega) (by omega) B0 ?_
    intro first S3 hfirst B3 _
    sizeOf_list_dec
    have gF := gd_cd hfirst (by omega)
    have cF := gF.sz
    -- none at all
    refine conds_right_ok (l := []) (m := 0) (by intro n hn; simp at hn) (by simp [tot]) (by simp) (by omega) (gd_none _) (by simp) (K := 98) (by simp) (B3.kp Kp.refl.app) lk_new ?_
    intro S4 B4 _
    sizeOf_list_dec
    refine iff_f ?_
    sizeOf_list_dec
    refine members_ok (o := none) (fun n e => by cases e) (by simp [stk, tot]) ?_
    intro S5 k5
    sizeOf_list_dec
    refine same_ok 1 (.tup []) (fit_tup (by simp) (by simp)) 99 (by omega) _ _ ?_
    intro S6 k6
    sizeOf_list_dec
    refine iff_f ?_
    sizeOf_list_dec
    refine is_right_ok (o := none) (m := 0) (gd_none _) (K := 98) (by omega) ((B4.kp k5).kp k6) ?_
    intro S7 B7 _
    sizeOf_list_dec
    refine iff_f ?_
    sizeOf_list_dec
    -- the first
    refine is_right_ok (o := some first) gF (K := 98) (by omega) B7 ?_
    intro S8 B8 _
    sizeOf_list_dec
    refine iff_f ?_
    sizeOf_list_dec
    refine members_ok (o := some first) gF.ok (by have := tot_szO (some first); omega) ?_
    intro S9 k9
    sizeOf_list_dec
    refine split_ok hfirst.ok (by simpa [szO] using cF) ?_
    intro S10 k10
    sizeOf_list_dec
    have fmem : fit (5 + 9 + 1) (.tup (ms first.mem)) := by
      have := N.mem_sz first
      simp only [szO] at cF
      refine fit_tup (by rw [ms_length]; omega) fun x hx => ?_
      simp only [ms, List.mem_map] at hx
      obtain ⟨y, hy, rfl⟩ := hx
      exact mem_fit first y _ hfirst.fit hy
    have emem : (stk (some first)).flatMap N.mem = first.mem := by simp [stk]
    rw [emem]
    refine same_ok _ _ fmem 99 (by omega) _ _ ?_
    intro S11 k11
    sizeOf_list_dec
    refine iff_f ?_
    have B11 := ((B8.kp k9).kp k10).kp k11
    have slotF : ∀ x : D, x = first.d → True := fun _ _ => trivial
    sizeOf_list_dec
    -- expressions
    generalize hL : S11.length = L
    have hLb : L ≠ b ∧ L ≠ p ∧ L ≠ q0 := by have := B11.lt; omega
    refine for_inv (fun rest γ T => ∃ (q : Nat) (x y z w : Option D), (∀ v ∈ rest, ∃ d : Nat, v = .int (d : Nat) ∧ d ≤ 6) ∧ γ = [some (.rl (ns.map D.int)), some (.ref b), some first.d, x, y, z, w] ∧ T[L]? = some (.lst [.int 4, .int 5, .int 2, .int 6]) ∧ Bx b p q T ∧ L ≠ b ∧ L ≠ q) ?_ ?_ _ _ _ ?_
    · rintro v rest γ T ⟨q, x1, x2, x3, x4, hv, rfl, hT, BT, l1, l2⟩
      refine ⟨hT, ?_⟩
      obtain ⟨d, rfl, hd⟩ := hv v (by simp)
      have hv' : ∀ v ∈ rest, ∃ d : Nat, v = .int (d : Nat) ∧ d ≤ 6 := fun y hy => hv y (by simp [hy])
      sizeOf_list_dec
      refine take_ok (by decide) BT ?_
      intro r S _ _ BS GS
      sizeOf_list_dec
      have t1 := GS.at l1 hT
      refine begun_ok BS ?_
      intro q' S' hq' BS' GS'
      have t2 := GS'.at l1 t1
      have l3 : L ≠ q' := fun z => by subst z; rw [t1] at hq'; cases hq'
      sizeOf_list_dec
      refine expr_ok d 99 (by omega) BS' ?_
      intro n Sa hn Ba Ga
      sizeOf_list_dec
      refine is_right_ok (o := some n) (gd_ex hn hd) (K := 98) (by omega) Ba ?_
      intro Sb Bb Gb
      sizeOf_list_dec
      refine iff_f ?_
      sizeOf_list_dec
      exact ⟨q', _, _, _, _, hv', rfl, Gb.go _ _ l1 l3 (Ga.go _ _ l1 l3 t2), Bb, l1, l3⟩
    · rintro γ T ⟨q, x1, x2, x3, x4, hv, rfl, hT, BT, l1, l2⟩
      refine ⟨hT, ?_⟩
      sizeOf_list_dec
      generalize hL2 : T.length = L2
      have hLb2 : L2 ≠ b ∧ L2 ≠ p ∧ L2 ≠ q := by have := BT.lt; omega
      refine for_inv (fun rest γ T => ∃ (q : Nat) (x y z w : Option D), (∀ v ∈ rest, ∃ d : Nat, v = .int (d : Nat) ∧ d ≤ 5) ∧ γ = [some (.rl (ns.map D.int)), some (.ref b), some first.d, x, y, z, w] ∧ T[L2]? = some (.lst [.int 5, .int 2]) ∧ Bx b p q T ∧ L2 ≠ b ∧ L2 ≠ q) ?_ ?_ _ _ _ ?_
      · rintro v rest γ T ⟨q, x1, x2, x3, x4, hv, rfl, hT, BT, l1, l2⟩
        refine ⟨hT, ?_⟩
        obtain ⟨d, rfl, hd⟩ := hv v (by simp)
        have hv' : ∀ v ∈ rest, ∃ d : Nat, v = .int (d : Nat) ∧ d ≤ 5 := fun y hy => hv y (by simp [hy])
        sizeOf_list_dec
        refine begun_ok BT ?_
        intro q' S' hq' BS' GS'
        have t2 := GS'.at l1 hT
        have l3 : L2 ≠ q' := fun z => by subst z; rw [hT] at hq'; cases hq'
        sizeOf_list_dec
        refine cond_ok d 99 (by omega) (by omega) BS' ?_
        intro n Sa hn Ba Ga
        sizeOf_list_dec
        refine is_right_ok (o := some n) (gd_cd hn hd) (K := 98) (by omega) Ba ?_
        intro Sb Bb Gb
        sizeOf_list_dec
        refine iff_f ?_
        sizeOf_list_dec
        exact ⟨q', _, _, _, _, hv', rfl, Gb.go _ _ l1 l3 (Ga.go _ _ l1 l3 t2), Bb, l1, l3⟩
      · rintro γ T ⟨q, x1, x2, x3, x4, hv, rfl, hT, BT, l1, l2⟩
        refine ⟨hT, ?_⟩
        sizeOf_list_dec
        generalize hL3 : T.length = L3
        have hLb3 : L3 ≠ b ∧ L3 ≠ p ∧ L3 ≠ q := by have := BT.lt; omega
        refine for_inv (fun rest γ T => ∃ (q : Nat) (x y z w : Option D), (∀ v ∈ rest, ∃ d : Nat, v = .int (d : Nat) ∧ d ≤ 40) ∧ γ = [some (.rl (ns.map D.int)), some (.ref b), some first.d, x, y, z, w] ∧ T[L3]? = some (.lst [.int 3, .int 40]) ∧ Bx b p q T ∧ L3 ≠ b ∧ L3 ≠ q) ?_ ?_ _ _ _ ?_
        · rintro v rest γ T ⟨q, x1, x2, x3, x4, hv, rfl, hT, BT, l1, l2⟩
          refine ⟨hT, ?_⟩
          obtain ⟨d, rfl, hd⟩ := hv v (by simp)
          have hv' : ∀ v ∈ rest, ∃ d : Nat, v = .int (d : Nat) ∧ d ≤ 40 := fun y hy => hv y (by simp [hy])
          sizeOf_list_dec
          have hlt := BT.lt
          refine take_ok (by decide) (BT.kp Kp.refl.app) ?_
          intro r S s0 s1 BS GS
          sizeOf_list_dec
          refine ⟨GS.at (by omega) lk_new, ?_⟩
          have t0 := GS.at l1 (lk_app hT (J := [O.lst [.int 1, .int 2, .int 3, .int 4, .int 6, .int 40]]))
          obtain ⟨x, hx, hxm⟩ := pick_mem (xs := [.int 1, .int 2, .int 3, .int 4, .int 6, .int 40]) (i := r) s0 (by simpa using s1)
          refine ⟨x, hx, ?_⟩
          have hxx : ∃ e : Nat, x = .int (e : Nat) ∧ e ≤ 40 := by
            simp at hxm
            rcases hxm with rfl | rfl | rfl | rfl | rfl | rfl
            · exact ⟨1, rfl, by omega⟩
            · exact ⟨2, rfl, by omega⟩
            · exact ⟨3, rfl, by omega⟩
            · exact ⟨4, rfl, by omega⟩
            · exact ⟨6, rfl, by omega⟩
            · exact ⟨40, rfl, by omega⟩
          obtain ⟨e, rfl, he⟩ := hxx
          sizeOf_list_dec
          have hmany : ∃ many : Nat, (if (e : Int) < (d : Int) then (e : Int) else (d : Int)) = (many : Nat) ∧ many ≤ 40 := by
            split
            · exact ⟨e, rfl, he⟩
            · exact ⟨d, rfl, hd⟩
          obtain ⟨many, hmany, hm40⟩ := hmany
          rw [hmany]
          refine begun_ok BS ?_
          intro q' S' hq' BS' GS'
          have t2 := GS'.at l1 t0
          have l3 : L3 ≠ q' := fun z => by subst z; rw [t0] at hq'; cases hq'
          sizeOf_list_dec
          refine ⟨⟨by omega, by omega⟩, ?_⟩
          rw [Int.toNat_natCast]
          have hlt' := BS'.lt
          refine k_inv (fun rest T2 => ∃ (n m : Nat) (acc : List N), rest = (List.range m).map (fun (i : Nat) => D.int ((n + i : Nat) : Int)) ∧ n + m = many ∧ acc.length = n ∧ (∀ t ∈ acc, Cd 2 t) ∧ T2[S'.length]? = some (.lst (ms acc)) ∧ T2[L3]? = some (.lst [.int 3, .int 40]) ∧ Bx b p q' T2) ?_ ?_ _ _ ?_
          · rintro z rest2 T2 ⟨n, m, acc, hr, hnm, hal, hacc, g1, g2, g3⟩
            refine ⟨trivial, _, rfl, ?_⟩
            sizeOf_list_dec
            refine iff_t ?_
            cases m with
            | zero => simp at hr
            | succ m =>
              rw [List.range_succ_eq_map] at hr
              simp only [List.map_cons, List.map_map, Nat.add_zero] at hr
              obtain ⟨hz, hrt⟩ := List.cons.inj hr
              subst hz
              sizeOf_list_dec
              refine o_mul (mul_r ⟨by decide, by decide⟩) ?_
              sizeOf_list_dec
              have hdep : ∃ dd : Nat, (if decide ((n : Int) < 7) = true then (1 : Int) else 0) * 2 = (dd : Nat) ∧ dd ≤ 2 := by
                split
                · exact ⟨2, rfl, by omega⟩
                · exact ⟨0, rfl, by omega⟩
              obtain ⟨dd, hdd, hd2⟩ := hdep
              rw [hdd]
              refine cond_ok dd 99 (by omega) (by omega) g3 ?_
              intro t T3 ht B3 G3
              have nb : S'.length ≠ b := by omega
              have nq : S'.length ≠ q' := by omega
              have np : S'.length ≠ p := by omega
              have nL : L3 ≠ S'.length := by have := lt_of t2; omega
              have ht2 : Cd 2 t := by
                refine ⟨ht.ok, ?_, ?_, ?_⟩
                · have := ht.sz; have := cb_mono hd2; omega
                · have := ht.ht; omega
                · exact fit_le ht.fit (by omega)
              refine ⟨_, G3.go _ _ nb nq g1, by rw [ms_length]; simp only [sizeLine]; omega, n + 1, m, acc ++ [t], ?_, by omega, by simp [hal], ?_, ?_, lk_ne nL (G3.go _ _ l1 l3 g2), B3.set nb np nq⟩
              · rw [hrt]
                apply List.map_congr_left
                intro i _
                simp only [Function.comp_apply]
                congr 2
                omega
              · intro t' ht'
                rcases memA ht' with ht' | ht'
                · exact hacc t' ht'
                · simp at ht'; subst ht'; exact ht2
              · rw [ms_snoc]; exact lk_set (G3.go _ _ nb nq g1)
          · rintro T2 ⟨n, m, acc, hr, hnm, hal, hacc, g1, g2, g3⟩
            refine ⟨trivial, ?_⟩
            have hm0 : m = 0 := by
              cases m with
              | zero => rfl
              | succ m => rw [List.range_succ_eq_map] at hr; simp at hr
            have haL : acc.length ≤ 40 := by omega
            have hta : tot acc ≤ 195 * acc.length := by
              clear g1 hal hr hnm haL
              induction acc with
              | nil => simp [tot]
              | cons t acc ih =>
                have h1 := (hacc t (by simp)).sz
                have c2 : cb 2 = 195 := rfl
                have h2 := ih fun y hy => hacc y (by simp [hy])
                have e : tot (t :: acc) = t.sz + tot acc := by simp [tot]
                (simp only [List.length_cons]; omega)
            have hok : okL acc := fun t ht => (hacc t ht).ok
            have hfit : ∀ t ∈ acc, fit 11 t.d := fun t ht => (hacc t ht).fit
            have hht : ∀ t ∈ acc, t.ht + 1 ≤ 11 := fun t ht => by have := (hacc t ht).ht; omega
            have gA := gd_all hok (by omega) hfit hht (by omega)
            sizeOf_list_dec
            refine conds_right_ok hok (by omega) hfit (by omega) gA haL (K := 98) (by omega) g3 g1 ?_
            intro S5 B5 G5
            sizeOf_list_dec
            refine iff_f ?_
            sizeOf_list_dec
            exact ⟨q', _, _, _, _, hv', rfl, G5.go _ _ l1 l3 g2, B5, l1, l3⟩
          · refine ⟨0, many, [], ?_, by omega, rfl, by simp, lk_new, lk_app t2, BS'.kp Kp.refl.app⟩
            simp [rngD]
        · rintro γ T ⟨q, x1, x2, x3, x4, hv, rfl, hT, BT, l1, l2⟩
          refine ⟨hT, ?_⟩
          sizeOf_list_dec
          have htot : tot (stk (some first)) ≤ 100000 := by have := tot_szO (some first); omega
          refine columns_in_ok (o := some first) gF.ok htot ?_
          intro Sa ka
          sizeOf_list_dec
          refine found_ok (o := some first) gF.ok gF.sz (.inl rfl) ?_
          intro Sb kb
          sizeOf_list_dec
          rw [cols_eqO gF.ok]
          refine same_ok 3 _ (ded_fit gF.ok gF.sz (.inl rfl)) 99 (by omega) _ _ ?_
          intro Sc kc
          sizeOf_list_dec
          refine iff_t ?_
          sizeOf_list_dec
          refine members_ok (o := some first) gF.ok htot ?_
          intro Sd kd
          sizeOf_list_dec
          refine split_ok hfirst.ok (by simpa [szO] using cF) ?_
          intro Se ke
          sizeOf_list_dec
          rw [emem]
          refine same_ok _ _ fmem 99 (by omega) _ _ ?_
          intro Sf kf
          sizeOf_list_dec
          rfl
        · refine ⟨q, _, _, _, _, ?_, rfl, ?_, BT.kp Kp.refl.app, hLb3.1, hLb3.2.2⟩
          · intro v hv
            simp at hv
            rcases hv with rfl | rfl
            · exact ⟨3, rfl, by omega⟩
            · exact ⟨40, rfl, by omega⟩
          · rw [← hL3]; exact lk_new
      · refine ⟨q, _, _, _, _, ?_, rfl, ?_, BT.kp Kp.refl.app, hLb2.1, hLb2.2.2⟩
        · intro v hv
          simp at hv
          rcases hv with rfl | rfl
          · exact ⟨5, rfl, by omega⟩
          · exact ⟨2, rfl, by omega⟩
        · rw [← hL2]; exact lk_new
    · refine ⟨q0, _, _, _, _, ?_, rfl, ?_, B11.kp Kp.refl.app, hLb.1, hLb.2.2⟩
      · intro v hv
        simp at hv
        rcases hv with rfl | rfl | rfl | rfl
        · exact ⟨4, rfl, by omega⟩
        · exact ⟨5, rfl, by omega⟩
        · exact ⟨2, rfl, by omega⟩
        · exact ⟨6, rfl, by omega⟩
      · rw [← hL]; exact lk_new
  obtain ⟨d, S, e, rfl⟩ := main
  exact ⟨S, e⟩
end Gn
set_option maxHeartbeats 4000000 -- wide
namespace Gn
open L2 PyProof.Rows PySem PySem.Spec Ml
theorem walk (good : Good) {l : PySem.W.OpenLaw} {q : Program} {loose : List Str} {XP : (Str → Option Value) → Heap → Prop} {YP : World → Heap → Prop} {d : DefRec} {K : Params → PySem.W.Frag} (hn : l.most = some 63) (hdf : d.params.defaults = []) (hd : d.name = "law")
    (hY : ∀ (v : World) (h : Heap), YP v h → (K v.params).In h)
    (F : ∀ (w : World) (mg : Str → Option Value) (fa : Addr) (h : Heap), YP w h → (K w.params).In h → h.Ns mainGlobals mg → mg "law" = some (.ref fa) → ∃ T : Txt (K w.params) w mg, ∀ p ∈ T.cs, h.get? p.2 = some (PySem.W.tabObj #[]) ∧ (K w.params).lookup p.2 = none ∧ PySem.W.CodeHd h p.1 p.2) :
    PySem.W.WalkO q loose XP YP l.row.toRowW d [] (fun g us => PySem.call g us) :=
  LamX.walk_ofTs (n := 63) (k := 100) (x := "_law_script") (CX := fun _ => CX0) hn (by decide) hdf ⟨rfl, by decide, by decide⟩ hY
    (fun w mg fa h Y X G hfa => by
      rw [hd] at hfa
      obtain ⟨T, hT⟩ := F w mg fa h Y X G hfa
      have e := hfa.symm.trans (T.mg .law rfl)
      cases e
      refine ⟨T.fd .law, T.cs, spLaw (K w.params) T.tb, fun p hp => (hT p hp).1, fun p hp => (hT p hp).2.1, fun p hp => (hT p hp).2.2, T.lawB, fun H a ns hl _ hH hS => ⟨a, ns, rfl, hl, fun p hp => ?_, hS, fun _ => rfl⟩, fun base _ _ hTB => fn_law ((all_ok T 100 base hTB).f .law rfl) good⟩
      have : p.1 ∈ T.cs.map (·.2) := by
        have h2 : p.1 ∈ T.tb.map (·.1) := List.mem_map.mpr ⟨p, hp, rfl⟩
        exact h2
      obtain ⟨p2, hp2, e⟩ := List.mem_map.mp this
      rw [← e]
      exact hH p2 hp2)
    fun _ _ _ _ _ z => z
end Gn
open PySem.W PyProof.Rows PySem
set_option maxRecDepth 100001 in
set_option maxHeartbeats 0 in
theorem PySem.Challenge.cw_leastplans_k20_trees_gone_through_holds : PySem.Challenge.rw_leastplans_k20_trees_gone_through.Holds := by
  w_on; o_law
  k_head
  case hw => w_witness2
  k_fill
  refine Gn.walk Gn.good (l := PySem.Challenge.rw_leastplans_k20_trees_gone_through) rfl rfl rfl (fun w h Y => PySem.W.km_in_of Y) ?F
  case F =>
    intro w mg fa h Y KX G hmg
    refine' Gn.mk_txt KX G ?a0 ?l0 ?c0 ?k0 ?a1 ?l1 ?c1 ?k1 ?a2 ?l2 ?c2 ?k2 ?a3 ?l3 ?c3 ?k3 ?lc3 ?lp3 ?lh3 ?ln3 ?lt3 ?a4 ?l4 ?c4 ?k4 ?a5 ?l5 ?c5 ?k5 ?a6 ?l6 ?c6 ?k6 ?a7 ?l7 ?c7 ?k7 ?a8 ?l8 ?c8 ?k8 ?a9 ?l9 ?c9 ?k9 ?lc9 ?lp9 ?lh9 ?ln9 ?lt9 ?ne3_9 ?a10 ?l10 ?c10 ?k10 ?a11 ?l11 ?c11 ?k11 ?a12 ?l12 ?c12 ?k12 ?a13 ?l13 ?c13 ?k13 ?a14 ?l14 ?c14 ?k14 ?a15 ?l15 ?c15 ?k15 ?a16 ?l16 ?c16 ?k16 ?a17 ?l17 ?c17 ?k17 ?a18 ?l18 ?c18 ?k18 ?a19 ?l19 ?c19 ?k19 ?a20 ?l20 ?c20 ?k20 ?a21 ?l21 ?c21 ?k21 ?a22 ?l22 ?c22 ?k22 ?a23 ?l23 ?c23 ?k23 ?a24 ?l24 ?c24 ?k24 ?a25 ?l25 ?c25 ?k25 ?a26 ?l26 ?c26 ?k26 ?a27 ?l27 ?c27 ?k27 ?a28 ?l28 ?c28 ?k28 ?a29 ?l29 ?c29 ?k29 ?a30 ?l30 ?c30 ?k30 ?a31 ?l31 ?c31 ?k31 ?z_abs ?z_all ?z_bool ?z_dict ?z_int ?z_isinstance ?z_len ?z_list ?z_max ?z_min ?z_range ?z_reversed ?z_str ?z_tuple ?dg_NO_PLACES ?tl_NO_PLACES ?dg_PART_PLACES ?dl_PART_PLACES ?dk_PART_PLACES ?dw_PART_PLACES ?e_PART_PLACES_0 ?tl_PART_PLACES_0 ?e_PART_PLACES_1 ?tl_PART_PLACES_1 ?e_PART_PLACES_2 ?tl_PART_PLACES_2 ?e_PART_PLACES_3 ?tl_PART_PLACES_3 ?e_PART_PLACES_4 ?tl_PART_PLACES_4 ?e_PART_PLACES_5 ?tl_PART_PLACES_5 ?e_PART_PLACES_6 ?tl_PART_PLACES_6 ?e_PART_PLACES_7 ?tl_PART_PLACES_7 ?e_PART_PLACES_8 ?tl_PART_PLACES_8 ?e_PART_PLACES_9 ?tl_PART_PLACES_9 ?e_PART_PLACES_10 ?tl_PART_PLACES_10 ?m_PART_PLACES_0 ?m_PART_PLACES_1 ?m_PART_PLACES_2 ?m_PART_PLACES_3 ?m_PART_PLACES_4
    (case a0 => k_is)
    (case l0 => k_is)
    (case c0 => k_is)
    (case k0 => k_is)
    (case a1 => k_is)
    (case l1 => k_is)
    (case c1 => k_is)
    (case k1 => k_is)
    (case a2 => k_is)
    (case l2 => k_is)
    (case c2 => k_is)
    (case k2 => k_is)
    (case a3 => k_is)
    (case l3 => k_is)
    (case c3 => k_is)
    (case k3 => k_is)
    (case lc3 => k_is)
    (case lp3 => rfl)
    (case lh3 => first | k_is | kernel_rfl | rfl)
    (case ln3 => first | k_is | kernel_rfl | rfl)
    (case lt3 => exact PySem.W.km_tabs_of Y _ (by simp))
    (case a4 => k_is)
    (case l4 => k_is)
    (case c4 => k_is)
    (case k4 => k_is)
    (case a5 => k_is)
    (case l5 => k_is)
    (case c5 => k_is)
    (case k5 => k_is)
    (case a6 => k_is)
    (case l6 => k_is)
    (case c6 => k_is)
    (case k6 => k_is)
    (case a7 => k_is)
    (case l7 => k_is)
    (case c7 => k_is)
    (case k7 => k_is)
    (case a8 => k_is)
    (case l8 => k_is)
    (case c8 => k_is)
    (case k8 => k_is)
    (case a9 => k_is)
    (case l9 => k_is)
    (case c9 => k_is)
    (case k9 => k_is)
    (case lc9 => k_is)
    (case lp9 => rfl)
    (case lh9 => first | k_is | kernel_rfl | rfl)
    (case ln9 => first | k_is | kernel_rfl | rfl)
    (case lt9 => exact PySem.W.km_tabs_of Y _ (by simp))
    (case ne3_9 => decide +kernel)
    (case a10 => k_is)
    (case l10 => k_is)
    (case c10 => k_is)
    (case k10 => k_is)
    (case a11 => k_is)
    (case l11 => k_is)
    (case c11 => k_is)
    (case k11 => k_is)
    (case a12 => k_is)
    (case l12 => k_is)
    (case c12 => k_is)
    (case k12 => k_is)
    (case a13 => k_is)
    (case l13 => k_is)
    (case c13 => k_is)
    (case k13 => k_is)
    (case a14 => k_is)
    (case l14 => k_is)
    (case c14 => k_is)
    (case k14 => k_is)
    (case a15 => k_is)
    (case l15 => k_is)
    (case c15 => k_is)
    (case k15 => k_is)
    (case a16 => k_is)
    (case l16 => k_is)
    (case c16 => k_is)
    (case k16 => k_is)
    (case a17 => k_is)
    (case l17 => k_is)
    (case c17 => k_is)
    (case k17 => k_is)
    (case a18 => k_is)
    (case l18 => k_is)
    (case c18 => k_is)
    (case k18 => k_is)
    (case a19 => k_is)
    (case l19 => k_is)
    (case c19 => k_is)
    (case k19 => k_is)
    (case a20 => k_is)
    (case l20 => k_is)
    (case c20 => k_is)
    (case k20 => k_is)
    (case a21 => k_is)
    (case l21 => k_is)
    (case c21 => k_is)
    (case k21 => k_is)
    (case a22 => k_is)
    (case l22 => k_is)
    (case c22 => k_is)
    (case k22 => k_is)
    (case a23 => k_is)
    (case l23 => k_is)
    (case c23 => k_is)
    (case k23 => k_is)
    (case a24 => k_is)
    (case l24 => k_is)
    (case c24 => k_is)
    (case k24 => k_is)
    (case a25 => k_is)
    (case l25 => k_is)
    (case c25 => k_is)
    (case k25 => k_is)
    (case a26 => k_is)
    (case l26 => k_is)
    (case c26 => k_is)
    (case k26 => k_is)
    (case a27 => k_is)
    (case l27 => k_is)
    (case c27 => k_is)
    (case k27 => k_is)
    (case a28 => k_is)
    (case l28 => k_is)
    (case c28 => k_is)
    (case k28 => k_is)
    (case a29 => k_is)
    (case l29 => k_is)
    (case c29 => k_is)
    (case k29 => k_is)
    (case a30 => k_is)
    (case l30 => k_is)
    (case c30 => k_is)
    (case k30 => k_is)
    (case a31 => k_is)
    (case l31 => k_is)
    (case c31 => k_is)
    (case k31 => k_is)
    (case z_abs => k_is)
    (case z_all => k_is)
    (case z_bool => k_is)
    (case z_dict => k_is)
    (case z_int => k_is)
    (case z_isinstance => k_is)
    (case z_len => k_is)
    (case z_list => k_is)
    (case z_max => k_is)
    (case z_min => k_is)
    (case z_range => k_is)
    (case z_reversed => k_is)
    (case z_str => k_is)
    (case z_tuple => k_is)
    (case dg_NO_PLACES => k_is)
    (case tl_NO_PLACES => k_is)
    (case dg_PART_PLACES => k_is)
    (case dl_PART_PLACES => k_is)
    (case dk_PART_PLACES => simp [PySem.W.KeysLit])
    (case dw_PART_PLACES => decide +kernel)
    (case e_PART_PLACES_0 => k_is)
    (case tl_PART_PLACES_0 => k_is)
    (case e_PART_PLACES_1 => k_is)
    (case tl_PART_PLACES_1 => k_is)
    (case e_PART_PLACES_2 => k_is)
    (case tl_PART_PLACES_2 => k_is)
    (case e_PART_PLACES_3 => k_is)
    (case tl_PART_PLACES_3 => k_is)
    (case e_PART_PLACES_4 => k_is)
    (case tl_PART_PLACES_4 => k_is)
    (case e_PART_PLACES_5 => k_is)
    (case tl_PART_PLACES_5 => k_is)
    (case e_PART_PLACES_6 => k_is)
    (case tl_PART_PLACES_6 => k_is)
    (case e_PART_PLACES_7 => k_is)
    (case tl_PART_PLACES_7 => k_is)
    (case e_PART_PLACES_8 => k_is)
    (case tl_PART_PLACES_8 => k_is)
    (case e_PART_PLACES_9 => k_is)
    (case tl_PART_PLACES_9 => k_is)
    (case e_PART_PLACES_10 => k_is)
    (case tl_PART_PLACES_10 => k_is)
    (case m_PART_PLACES_0 => k_is)
    (case m_PART_PLACES_1 => k_is)
    (case m_PART_PLACES_2 => k_is)
    (case m_PART_PLACES_3 => k_is)
    (case m_PART_PLACES_4 => k_is)

