import PyProof.Rows.All
import Wide.All
import OpenK.AllK
import Wide.FinOn
import PyProof.EqAt
import PyProof.EqKinds
import PyProof.TupleCall
import KE.BitLaws
import PySem.Challenge.RW_callchain_k10_whole_phones
set_option Elab.async false
set_option linter.all false
set_option maxRecDepth 100000
namespace L2
open PySem PySem.Spec PyProof.Rows

abbrev Key := Sum Int Str
def keyIs : Key → Value → Bool
  | .inl k, v => Value.isInt k v
  | .inr x, v => Value.isStrOf x v
def keyH (w : World) : Key → Int
  | .inl k => hashInt k
  | .inr x => hashStr w x
theorem keyIs_shape : ∀ {k : Key} {v : Value}, keyIs k v = true → (∃ i t, k = Sum.inl i ∧ v = Value.int i t) ∨ (∃ x t, k = Sum.inr x ∧ v = Value.str x t)
  | .inl i, v, h => by
    obtain ⟨t, e⟩ := Value.isInt_shape (k := i) (v := v) h
    exact .inl ⟨i, t, rfl, e⟩
  | .inr x, v, h => by
    obtain ⟨t, e⟩ := Value.isStrOf_shape (x := x) (v := v) h
    exact .inr ⟨x, t, rfl, e⟩
theorem keyIs_int (i : Int) (t : Tok) : keyIs (.inl i) (.int i t) = true := by simp [keyIs, Value.isInt]
theorem keyIs_str (x : Str) (t : Tok) : keyIs (.inr x) (.str x t) = true := by simp [keyIs, Value.isStrOf]
theorem key_ll (a b : Int) : decide ((Sum.inl a : Key) = Sum.inl b) = (a == b) := by
  by_cases e : a = b
  · subst e; simp
  · have h : ¬ (Sum.inl a : Key) = Sum.inl b := fun q => e (Sum.inl.inj q)
    rw [decide_eq_false h]
    exact (beq_eq_false_iff_ne.mpr e).symm
theorem key_rr (a b : Str) : decide ((Sum.inr a : Key) = Sum.inr b) = decide (a = b) := by
  by_cases e : a = b
  · subst e; simp
  · have h : ¬ (Sum.inr a : Key) = Sum.inr b := fun q => e (Sum.inr.inj q)
    rw [decide_eq_false h, decide_eq_false e]
theorem key_lr (a : Int) (b : Str) : decide ((Sum.inl a : Key) = Sum.inr b) = false := decide_eq_false (fun q => nomatch q)
theorem key_rl (a : Str) (b : Int) : decide ((Sum.inr a : Key) = Sum.inl b) = false := decide_eq_false (fun q => nomatch q)

def mixKind (prog : Program) (w : World) : PySem.KeyKind prog w Key where
  is := keyIs
  hash := keyH w
  inj := fun v a b ha hb => by
    rcases keyIs_shape ha with ⟨i, t, rfl, rfl⟩ | ⟨x, t, rfl, rfl⟩
    · rcases keyIs_shape hb with ⟨j, u, rfl, e⟩ | ⟨y, u, rfl, e⟩
      · injection e with e1 _; rw [e1]
      · exact nomatch e
    · rcases keyIs_shape hb with ⟨j, u, rfl, e⟩ | ⟨y, u, rfl, e⟩
      · exact nomatch e
      · injection e with e1 _; rw [e1]
  byValue := fun k v h => by
    rcases keyIs_shape h with ⟨i, t, rfl, rfl⟩ | ⟨x, t, rfl, rfl⟩ <;> rfl
  pyHash := fun hv h => by
    rcases keyIs_shape hv with ⟨i, t, rfl, rfl⟩ | ⟨x, t, rfl, rfl⟩
    · exact wpAny_pyHash_int h
    · exact wpAny_pyHash_str h
  eqBool := fun hu hv h => by
    rcases keyIs_shape hu with ⟨i, t, rfl, rfl⟩ | ⟨x, t, rfl, rfl⟩
    · rcases keyIs_shape hv with ⟨j, u, rfl, rfl⟩ | ⟨y, u, rfl, rfl⟩
      · rw [key_ll] at h; exact wpAny_eqBool_int h
      · rw [key_lr] at h; exact SeqAt.EqAt.int_str i t y u _ _ _ _ h
    · rcases keyIs_shape hv with ⟨j, u, rfl, rfl⟩ | ⟨y, u, rfl, rfl⟩
      · rw [key_rl] at h; exact SeqAt.EqAt.str_int x t j u _ _ _ _ h
      · rw [key_rr] at h; exact wpAny_eqBool_str h
  «strs» := fun k x t v h => by
    rcases keyIs_shape h with ⟨i, u, rfl, e⟩ | ⟨y, u, rfl, e⟩
    · exact nomatch e
    · injection e with e1 _
      subst e1
      cases v <;> rfl

theorem mixKind_int (prog : Program) (w : World) (i : Int) (t : Tok) : (mixKind prog w).is (.inl i) (.int i t) = true := keyIs_int i t
theorem mixKind_str (prog : Program) (w : World) (x : Str) (t : Tok) : (mixKind prog w).is (.inr x) (.str x t) = true := keyIs_str x t
end L2

namespace L2
open PySem PySem.Spec PyProof.Rows

inductive V where
  | non | bl (b : Bool) | int (i : Int) | str (x : Str) | byt (b : Array UInt8) | flt (b : UInt64) | ref (a : Addr) | ty (n : String)
  deriving DecidableEq

def RelV : V → Value → Prop
  | .non, u => u = Value.none
  | .bl b, u => u = Value.bool b
  | .int i, u => ∃ t, u = Value.int i t
  | .str x, u => ∃ t, u = Value.str x t
  | .byt b, u => ∃ t, u = Value.bytes b t
  | .flt b, u => ∃ t, u = Value.float b t
  | .ref a, u => u = Value.ref a
  | .ty n, u => u = Value.type n

abbrev Vals : List V → List Value → Prop := Paired RelV
theorem Vals.length {xs : List V} {us : List Value} (r : Vals xs us) : xs.length = us.length := Paired.length r
theorem Vals.get : ∀ {xs : List V} {us : List Value} {i : Nat} {x : V}, Vals xs us → xs[i]? = some x → ∃ u, us[i]? = some u ∧ RelV x u
  | _, _, _, _, .nil, e => by simp at e
  | _, _, 0, _, .cons r _, e => by simp at e; subst e; exact ⟨_, rfl, r⟩
  | _, _, i + 1, x, .cons _ t, e => by
    obtain ⟨u, h1, h2⟩ := Vals.get (i := i) (x := x) t (by simpa using e)
    exact ⟨u, by simpa using h1, h2⟩
theorem Vals.set {x : V} {u : Value} (r : RelV x u) : ∀ {xs : List V} {us : List Value} (i : Nat), Vals xs us → Vals (xs.set i x) (us.set i u)
  | _, _, _, .nil => .nil
  | _, _, 0, .cons _ t => .cons r t
  | _, _, i + 1, .cons q t => .cons q (Vals.set r i t)
theorem Vals.append : ∀ {xs ys : List V} {us ws : List Value}, Vals xs us → Vals ys ws → Vals (xs ++ ys) (us ++ ws)
  | _, _, _, _, .nil, s => s
  | _, _, _, _, .cons r t, s => .cons r (Vals.append t s)
theorem Vals.take : ∀ {xs : List V} {us : List Value} (n : Nat), Vals xs us → Vals (xs.take n) (us.take n)
  | _, _, 0, _ => .nil
  | _, _, _ + 1, .nil => .nil
  | _, _, n + 1, .cons r t => .cons r (Vals.take n t)
theorem Vals.drop : ∀ {xs : List V} {us : List Value} (n : Nat), Vals xs us → Vals (xs.drop n) (us.drop n)
  | _, _, 0, r => r
  | _, _, _ + 1, .nil => .nil
  | _, _, n + 1, .cons _ t => Vals.drop n t
theorem Vals.none_of : ∀ {xs : List V} {us : List Value} {i : Nat}, Vals xs us → xs[i]? = none → us[i]? = none := fun {xs us i} r e => by
  have h1 := r.length
  have h2 : xs.length ≤ i := List.getElem?_eq_none_iff.mp e
  exact List.getElem?_eq_none_iff.mpr (by omega)

def RelO : Option V → Option Value → Prop
  | some v, some u => RelV v u
  | none, none => True
  | _, _ => False
def KV {κ : Type} : List (κ × V) → List (κ × Value) → Prop := Paired fun (p : κ × V) (q : κ × Value) => p.1 = q.1 ∧ RelV p.2 q.2

def kV : Key → V
  | .inl i => .int i
  | .inr x => .str x

inductive HO where
    | lst (xs : List V)
    | tup (xs : List V)
    | dK (kvs : List (Key × V)) | dT (kvs : List (List Key × V))
    | set (S : Int → Bool) (n : Nat)
    | ins (C dx : Addr) (fs : List (Str × V))
    | own (x : Addr)
    | xd (fs : List (Str × V))
    | met (f x : Addr)
    | rng (lo hi : Int)
    | frz (o : Obj) (u : HO)
    | tbl (ps : Array Value)
    | ext (φ : Heap → Prop)

abbrev Hp := Addr → Option HO
def upd (H : Hp) (a : Addr) (o : HO) : Hp := fun b => if b = a then some o else H b
theorem upd_same {H : Hp} {a : Addr} {o : HO} : upd H a o a = some o := by unfold upd; rw [if_pos rfl]
theorem upd_ne {H : Hp} {a b : Addr} {o : HO} (h : b ≠ a) : upd H a o b = H b := by unfold upd; rw [if_neg h]
theorem ne_of {H : Hp} {a b : Addr} {o u : HO} (h : H a = some o) (h' : H b = some u) (d : o ≠ u) : a ≠ b := by
  intro e; subst e; rw [h] at h'; exact d (Option.some.inj h')
theorem ne_of_none {H : Hp} {a b : Addr} {o : HO} (h : H a = some o) (h' : H b = none) : a ≠ b := by
  intro e; subst e; rw [h] at h'; cases h'

section
variable (P : Program) (w : World)
def ObjOk (H : Hp) (h : Heap) (a : Addr) : HO → Prop
  | .lst xs => xs.length ≤ sizeLine ∧ ∃ (its : List Value) (n : Nat), Vals xs its ∧ h.get? a = some { cls := .type "list", data := .seq its.toArray n }
  | .tup xs => xs.length ≤ sizeLine ∧ ∃ its : List Value, Vals xs its ∧ IsTup h a its.toArray
  | .dK kvs => kvs.length ≤ sizeLine ∧ (a == sysModules) = false ∧ ∃ vs, KV kvs vs ∧ h.DictOf (mixKind P w) a vs
  | .dT kvs => kvs.length ≤ sizeLine ∧ (a == sysModules) = false ∧ ∃ xs : List (List Key × Addr × Value),
      Paired (fun (p : List Key × V) (q : List Key × Addr × Value) => p.1 = q.1 ∧ H q.2.1 = some (.tup (p.1.map kV)) ∧ RelV p.2 q.2.2) kvs xs ∧
      ∃ o es ep, h.get? a = some o ∧ o.ExactDict ∧ o.data = .dict es ep ∧ es.toList = xs.map (entryOfKey (tupleKind (mixKind P w))) ∧ (xs.map (·.1)).Nodup
  | .set S n => h.SetOf (intKind P w) a S n
  | .ins C dx fs => H dx = some (.own a) ∧ fs.length ≤ 1000 ∧ dx ≠ a ∧ h.get? a = some (PySem.W.instObj C dx) ∧
      ∃ mA, h.Ns1 dx mA ∧ (∀ f, RelO (fs.lookup f) (mA f)) ∧ PySem.Within mA (fs.map (·.1))
  | .own _ => ∃ o, h.get? a = some o
  | .xd fs => ∃ mA, h.Ns1 a mA ∧ ∀ f, RelO (fs.lookup f) (mA f)
  | .rng lo hi => ∃ t u v, h.get? a = some { cls := .type "range", data := .fields #[.int lo t, .int hi u, .int 1 v] }
  | .frz o u => h.get? a = some o ∧ ObjOk H h a u
  | .tbl ps => h.get? a = some { cls := .none, data := .fields ps }
  | .met f x => h.get? a = some (PySem.W.methodObj (.ref f) (.ref x))
  | .ext φ => φ h ∧ (∃ o, h.get? a = some o) ∧ ∀ h1 h2 : Heap, φ h1 → (∀ o, h1.get? a = some o → h2.get? a = some o) → φ h2
def HOk (H : Hp) (h : Heap) : Prop := ∀ a o, H a = some o → ObjOk P w H h a o
end

section
variable {P : Program} {w : World} {H H' : Hp} {h h' : Heap} {a : Addr} {o : HO}
theorem ObjOk.lt (x : ObjOk P w H h a o) : a < h.objs.size := by
  cases o with
  | lst xs => obtain ⟨_, _, _, _, e⟩ := x; exact Heap.lt_size e
  | tup xs => obtain ⟨_, _, _, p⟩ := x; exact p.lt
  | dK kvs => obtain ⟨_, _, _, _, o, _, _, e, _⟩ := x; exact Heap.lt_size e
  | dT kvs => obtain ⟨_, _, _, _, o, _, _, e, _⟩ := x; exact Heap.lt_size e
  | set S n => obtain ⟨o, _, _, _, e, _⟩ := x; exact Heap.lt_size e
  | ins C dx fs => obtain ⟨_, _, _, e, _⟩ := x; exact Heap.lt_size e
  | own y => obtain ⟨_, e⟩ := x; exact Heap.lt_size e
  | xd fs => obtain ⟨_, ⟨_, _, _, e, _⟩, _⟩ := x; exact Heap.lt_size e
  | rng lo hi => obtain ⟨_, _, _, e⟩ := x; exact Heap.lt_size e
  | frz ob u => obtain ⟨e, _⟩ := x; exact Heap.lt_size e
  | tbl ps => exact Heap.lt_size (show h.get? a = some _ from x)
  | met f y => exact Heap.lt_size (show h.get? a = some _ from x)
  | ext φ => obtain ⟨_, ⟨_, e⟩, _⟩ := x; exact Heap.lt_size e
theorem Paired.mapP {α β : Type} {F G : α → β → Prop} : ∀ {l₁ : List α} {l₂ : List β}, Paired F l₁ l₂ → (∀ a b, F a b → G a b) → Paired G l₁ l₂
  | _, _, .nil, _ => .nil
  | _, _, .cons r t, f => .cons (f _ _ r) (Paired.mapP t f)
theorem ObjOk.stay (x : ObjOk P w H h a o) (k : ∀ b u, (b = a ∨ H b = some (.own a)) → h.get? b = some u → h'.get? b = some u)
    (ho : ∀ b, H b = some (.own a) → H' b = some (.own a)) (ht : ∀ b xs, H b = some (.tup xs) → H' b = some (.tup xs)) : ObjOk P w H' h' a o := by
  induction o with
  | lst xs => obtain ⟨z, its, n, r, e⟩ := x; exact ⟨z, its, n, r, k _ _ (.inl rfl) e⟩
  | tup xs => obtain ⟨z, its, r, ob, e, c⟩ := x; exact ⟨z, its, r, ob, k _ _ (.inl rfl) e, c⟩
  | dK kvs => obtain ⟨z, y, vs, r, ob, es, ep, e, c⟩ := x; exact ⟨z, y, vs, r, ob, es, ep, k _ _ (.inl rfl) e, c⟩
  | dT kvs =>
    obtain ⟨z, y, xs, r, ob, es, ep, e, c⟩ := x
    exact ⟨z, y, xs, Paired.mapP r fun p q z => ⟨z.1, ht _ _ z.2.1, z.2.2⟩, ob, es, ep, k _ _ (.inl rfl) e, c⟩
  | set S n => obtain ⟨ob, es, ep, t, e, c⟩ := x; exact ⟨ob, es, ep, t, k _ _ (.inl rfl) e, c⟩
  | ins C dx fs =>
    obtain ⟨d, z, ne, e, mA, ⟨od, es, ep, e2, c⟩, r⟩ := x
    exact ⟨ho _ d, z, ne, k _ _ (.inl rfl) e, mA, ⟨od, es, ep, k _ _ (.inr d) e2, c⟩, r⟩
  | own y => obtain ⟨ob, e⟩ := x; exact ⟨ob, k _ _ (.inl rfl) e⟩
  | xd fs => obtain ⟨mA, ⟨od, es, ep, e, c⟩, r⟩ := x; exact ⟨mA, ⟨od, es, ep, k _ _ (.inl rfl) e, c⟩, r⟩
  | rng lo hi => obtain ⟨t, u, v, e⟩ := x; exact ⟨t, u, v, k _ _ (.inl rfl) e⟩
  | frz ob u ih => obtain ⟨e, q⟩ := x; exact ⟨k _ _ (.inl rfl) e, ih q⟩
  | tbl ps =>
    have e : h.get? a = some { cls := .none, data := .fields ps } := x
    show h'.get? a = some { cls := .none, data := .fields ps }
    exact k a _ (.inl rfl) e
  | met f y =>
    have e : h.get? a = some (PySem.W.methodObj (.ref f) (.ref y)) := x
    show h'.get? a = some (PySem.W.methodObj (.ref f) (.ref y))
    exact k a _ (.inl rfl) e
  | ext φ => obtain ⟨p, ⟨o, e⟩, st⟩ := x; exact ⟨st _ _ p fun o q => k _ _ (.inl rfl) q, ⟨o, k _ _ (.inl rfl) e⟩, st⟩
theorem HOk.lt (x : HOk P w H h) (e : H a = some o) : a < h.objs.size := (x a o e).lt
theorem HOk.fresh (x : HOk P w H h) (e : h.objs.size ≤ a) : H a = none := by
  cases q : H a with
  | none => rfl
  | some u => exact absurd (Nat.lt_of_lt_of_le (x.lt q) e) (Nat.lt_irrefl _)
theorem HOk.kept (x : HOk P w H h) (k : ∀ b u, h.get? b = some u → h'.get? b = some u) : HOk P w H h' := fun a o e =>
  (x a o e).stay (fun b u _ q => k b u q) (fun _ q => q) fun _ _ q => q
theorem HOk.laid (x : HOk P w H h) (k : ∀ b u, h.get? b = some u → h'.get? b = some u) (hp : h.objs.size ≤ a) (new : ObjOk P w (upd H a o) h' a o) : HOk P w (upd H a o) h' := fun b u e => by
  have hn := x.fresh hp
  by_cases hb : b = a
  · subst hb; rw [upd_same] at e; cases e; exact new
  · rw [upd_ne hb] at e
    exact (x b u e).stay (fun c v _ q => k c v q) (fun c q => by rw [upd_ne (ne_of_none q hn)]; exact q) fun c xs q => by rw [upd_ne (ne_of_none q hn)]; exact q
end

def Rd (H : Hp) (a : Addr) (u : HO) : Prop := H a = some u ∨ ∃ o, H a = some (.frz o u)
theorem Rd.of {H : Hp} {a : Addr} {u : HO} (h : H a = some u) : Rd H a u := .inl h
theorem Rd.ok {P : Program} {w : World} {H : Hp} {h : Heap} {a : Addr} {u : HO} (r : Rd H a u) (x : HOk P w H h) : ObjOk P w H h a u := by
  rcases r with r | ⟨o, r⟩
  · exact x a u r
  · obtain ⟨_, q⟩ := x a _ r
    exact q
def Mut : Option HO → Prop
  | some (.lst _) => True
  | some (.dK _) => True
  | some (.dT _) => True
  | some (.set _ _) => True
  | some (.ins _ _ _) => True
  | some (.ext _) => True
  | _ => False
section
variable {P : Program} {w : World} {H : Hp} {h h' : Heap} {x e : Addr} {o' : HO}
theorem HOk.write (ok : HOk P w H h) (mu : Mut (H x)) (he : e = x ∨ H e = some (.own x)) (k : ∀ b u, b ≠ e → h.get? b = some u → h'.get? b = some u) (heo : ∃ u, h'.get? e = some u)
    (new : ObjOk P w (upd H x o') h' x o') : HOk P w (upd H x o') h' := fun b u q => by
  have nown : ∀ c y, H c = some (.own y) → c ≠ x := fun c y r z => by subst z; rw [r] at mu; exact mu
  have ntup : ∀ c xs, H c = some (.tup xs) → c ≠ x := fun c xs r z => by subst z; rw [r] at mu; exact mu
  by_cases hb : b = x
  · subst hb; rw [upd_same] at q; cases q; exact new
  · rw [upd_ne hb] at q
    by_cases hbe : b = e
    · have q' : H b = some (.own x) := by
        rcases he with z | z
        · exact absurd (hbe.trans z) hb
        · rw [hbe]; exact z
      rw [q] at q'; cases q'
      obtain ⟨v, hv⟩ := heo
      exact ⟨v, by rw [hbe]; exact hv⟩
    · refine (ok b u q).stay (fun c v hc r => k c v ?_ r) (fun c r => by rw [upd_ne (nown c b r)]; exact r) fun c xs r => by rw [upd_ne (ntup c xs r)]; exact r
      rcases hc with rfl | hc
      · exact hbe
      · rintro rfl
        rcases he with z | z
        · exact nown c b hc z
        · rw [hc] at z; cases z; exact hb rfl
end

structure Un (fs ex : List Addr) (H H' : Hp) (h h' : Heap) : Prop where
  keep : ∀ b o, h.get? b = some o → H b = none → b ∉ fs → b ∉ ex → h'.get? b = some o
  slot : ∀ b o, h.get? b = some o → H b = none → b ∈ fs → b ∉ ex → ∃ sl, h'.get? b = some { o with slots := sl }
  free : ∀ b o, h.get? b = some o → H b = none → b ∉ ex → H' b = none
  there : ∀ b o, h.get? b = some o → b ∉ ex → ∃ o', h'.get? b = some o'
  tups : ∀ b xs, H b = some (.tup xs) → H' b = some (.tup xs)
  frzs : ∀ b o u, H b = some (.frz o u) → H' b = some (.frz o u)
  tbls : ∀ b ps, H b = some (.tbl ps) → ∃ more, H' b = some (.tbl (ps ++ more))
section
variable {fs fs' ex ex' : List Addr} {H H1 H2 : Hp} {h h1 h2 h' : Heap} {a x e : Addr} {o : HO}
theorem Un.any (u : Un fs ex H H1 h h1) {b : Addr} {ob : Obj} (q : h.get? b = some ob) (n : H b = none) (hx : b ∉ ex) : ∃ sl, h1.get? b = some { ob with slots := sl } := by
  by_cases hb : b ∈ fs
  · exact u.slot b ob q n hb hx
  · exact ⟨ob.slots, u.keep b ob q n hb hx⟩
theorem Un.trans (a : Un fs ex H H1 h h1) (b : Un fs ex H1 H2 h1 h2) : Un fs ex H H2 h h2 where
  keep := fun c ob q n hc hx => b.keep c ob (a.keep c ob q n hc hx) (a.free c ob q n hx) hc hx
  slot := fun c ob q n hc hx => by
    obtain ⟨sl, e1⟩ := a.slot c ob q n hc hx
    obtain ⟨sl', e2⟩ := b.slot c _ e1 (a.free c ob q n hx) hc hx
    exact ⟨sl', e2⟩
  free := fun c ob q n hx => by
    obtain ⟨o', e1⟩ := a.there c ob q hx
    exact b.free c o' e1 (a.free c ob q n hx) hx
  there := fun c ob q hx => by
    obtain ⟨o', e1⟩ := a.there c ob q hx
    exact b.there c o' e1 hx
  tups := fun c xs q => b.tups c xs (a.tups c xs q)
  frzs := fun c ob xs q => b.frzs c ob xs (a.frzs c ob xs q)
  tbls := fun c ps q => by
    obtain ⟨m1, e1⟩ := a.tbls c ps q
    obtain ⟨m2, e2⟩ := b.tbls c _ e1
    exact ⟨m1 ++ m2, by rw [e2, Array.append_assoc]⟩
theorem Un.kept (k : ∀ b u, h.get? b = some u → h'.get? b = some u) : Un fs ex H H h h' :=
  ⟨fun b ob q _ _ _ => k b ob q, fun b ob q _ _ _ => ⟨ob.slots, k b ob q⟩, fun _ _ _ n _ => n, fun b ob q _ => ⟨ob, k b ob q⟩, fun _ _ q => q, fun _ _ _ q => q, fun _ ps q => ⟨#[], by rw [q]; simp⟩⟩
theorem Un.refl : Un fs ex H H h h := Un.kept fun _ _ q => q
theorem Un.laid (k : ∀ b u, h.get? b = some u → h'.get? b = some u) (hp : h.objs.size ≤ a) (hn : H a = none) : Un fs ex H (upd H a o) h h' where
  keep := fun b u q _ _ _ => k b u q
  slot := fun b u q _ _ _ => ⟨u.slots, k b u q⟩
  free := fun b u q n _ => by rw [upd_ne (Nat.ne_of_lt (Nat.lt_of_lt_of_le (Heap.lt_size q) hp))]; exact n
  there := fun b u q _ => ⟨u, k b u q⟩
  tups := fun b xs q => by rw [upd_ne (ne_of_none q hn)]; exact q
  frzs := fun b u xs q => by rw [upd_ne (ne_of_none q hn)]; exact q
  tbls := fun b ps q => ⟨#[], by rw [upd_ne (ne_of_none q hn), q]; simp⟩
theorem Un.write (mu : Mut (H x)) (he : e = x ∨ H e = some (.own x)) (k : ∀ b u, b ≠ e → h.get? b = some u → h'.get? b = some u) (heo : ∃ u, h'.get? e = some u) : Un fs ex H (upd H x o) h h' := by
  have hx : ∀ b, H b = none → b ≠ x := fun b n z => by subst z; rw [n] at mu; exact mu
  have hb : ∀ b, H b = none → b ≠ e := fun b n z => by
    subst z
    rcases he with r | r
    · exact hx b n r
    · rw [n] at r; cases r
  have hm : ∀ b u, H b = some u → ¬ Mut (some u) → b ≠ x := fun b u q nm z => by subst z; rw [q] at mu; exact nm mu
  refine ⟨fun b u q n _ _ => k b u (hb b n) q, fun b u q n _ _ => ⟨u.slots, k b u (hb b n) q⟩, fun b u q n _ => by rw [upd_ne (hx b n)]; exact n, fun b u q _ => ?_,
    fun b xs q => by rw [upd_ne (hm b _ q fun z => z)]; exact q, fun b u xs q => by rw [upd_ne (hm b _ q fun z => z)]; exact q, fun b ps q => ⟨#[], by rw [upd_ne (hm b _ q fun z => z), q]; simp⟩⟩
  by_cases hbe : b = e
  · subst hbe; exact heo
  · exact ⟨u, k b u hbe q⟩
theorem Un.mono (u : Un fs ex H H1 h h1) (hs : ∀ b ∈ fs, b ∈ fs') (hx : ∀ b ∈ ex, b ∈ ex') : Un fs' ex' H H1 h h1 :=
  ⟨fun b ob q n hb he => u.keep b ob q n (fun z => hb (hs b z)) fun z => he (hx b z), fun _ _ q n _ he => u.any q n fun z => he (hx _ z), fun b ob q n he => u.free b ob q n fun z => he (hx b z), fun b ob q he => u.there b ob q fun z => he (hx b z), u.tups, u.frzs, u.tbls⟩
end

def trk (h : Heap) (H : Hp) : List Addr := (List.range h.objs.size).filter fun a => (H a).isSome
def hidT (h : Heap) (H : Hp) : Heap := PySem.W.hideAll h (trk h H)
theorem hidT_size (h : Heap) (H : Hp) : (hidT h H).objs.size = h.objs.size := PySem.W.hideAll_size _ _
theorem hidT_get {h : Heap} {H : Hp} {b : Addr} {o : Obj} (e : h.get? b = some o) (n : H b = none) : (hidT h H).get? b = some o :=
  PySem.W.hideAll_get _ e fun hm => by
    have q : (H b).isSome = true := (List.mem_filter.mp hm).2
    rw [n] at q; simp at q
theorem of_hidT {h : Heap} {H : Hp} {b : Addr} {o : Obj} (e : (hidT h H).get? b = some o) : h.get? b = some o ∧ H b = none := by
  have e' : h.get? b = some o := PySem.W.of_hideAll (trk h H) e
  refine ⟨e', ?_⟩
  cases q : H b with
  | none => rfl
  | some x =>
    have hm : b ∈ trk h H := List.mem_filter.mpr ⟨List.mem_range.mpr (Heap.lt_size e'), by simp [q]⟩
    have z : (hidT h H).get? b = none := PySem.W.hideAll_none (trk h H) hm
    rw [z] at e; cases e

def allNews (g h : Heap) (L : Addr) : List (Addr × Obj) := (List.range h.objs.size).filterMap fun a => if a = L ∨ (g.get? a).isSome = true then none else (h.get? a).map fun o => (a, o)
def rest (g h : Heap) (L d : Addr) : List (Addr × Obj) := (allNews g h L).filter fun p => decide (p.1 ≠ d)
end L2

namespace L2
open PySem PySem.Spec PyProof.Rows

structure Mod (K : PySem.W.Frag) (mg : Str → Option Value) (base : Heap) : Prop where
  kin : K.In base
  glob : base.Ns mainGlobals mg
  blt : ∃ mb, base.Ns builtinsNs mb ∧ ∀ x : Str, x ≠ "__name__" → mb x = bootBuiltins x
  nolimit : base.NoLimit

structure Cx where
  prog : Program
  w : World
  K : PySem.W.Frag
  mg : Str → Option Value
  base : Heap
  A : Around
  N : List Str
  s_0 : Shared
  H_0 : Hp
  env : Env
  outer : List Env
  stack : List Env
  ex : List Addr
  fn : Str → Bool
  calm : Bool
  pn : List (Addr × Obj)
  xe : Value → Shared → Prop
def frs (l : List Env) : List Addr := l.filterMap (·.frame)
abbrev Cx.fs (X : Cx) : List Addr := frs X.outer

def Vis (sc : Scope) (x : Str) : Prop := sc.names.lookup x = some .local ∨ sc.names.lookup x = some .cell ∨ sc.names.lookup x = some .free
def Loc (sc : Scope) (x : Str) : Prop := sc.names.lookup x = some .local ∨ sc.names.lookup x = some .cell
def Look (env : Env) (h : Heap) (m : Str → Option Value) (x : Str) (u : Value) : Prop :=
  (env.kindOf x = some .local ∧ m x = some u) ∨ ((env.kindOf x = some .cell ∨ env.kindOf x = some .free) ∧ ∃ c, env.cells.lookup x = some c ∧ h.IsCell c (some u))

structure Cx.Ok (X : Cx) : Prop where
  mod : Mod X.K X.mg X.base
  kind : X.env.scope.kind = .function
  glob : X.env.globals = mainGlobals
  blt : X.env.builtins = builtinsNs
  above : X.s_0.heap.objs.size ≤ X.env.locals
  inj : ∀ x y c, X.env.cells.lookup x = some c → X.env.cells.lookup y = some c → x = y
  has : ∀ x, (X.env.kindOf x = some .cell ∨ X.env.kindOf x = some .free) → ∃ c, X.env.cells.lookup x = some c
  cab : ∀ x c, X.fn x = true → X.env.cells.lookup x = some c → X.s_0.heap.objs.size ≤ c
  hd : X.calm = true → X.A.handled = none
  frames : X.A.frames = some X.stack
  stk : X.stack = X.outer ∨ (X.stack = X.env :: X.outer ∧ X.env.frame = some X.env.locals)
  exf : ∀ b ∈ X.ex, b ≠ X.env.locals ∧ ∀ x c, X.env.cells.lookup x = some c → c ≠ b
  bs : ∀ b o, X.base.get? b = some o → X.s_0.heap.get? b = some o ∧ X.H_0 b = none
  bsz : X.base.objs.size ≤ X.s_0.heap.objs.size
  noex : ∀ b o, X.base.get? b = some o → b ∉ X.ex
  exfs : ∀ b ∈ X.ex, b ∉ X.fs
  funs : X.s_0.heap.FunFrames X.base X.outer
  frf : ∀ b ∈ X.fs, X.H_0 b = none

structure Inv (X : Cx) (pins : List (Addr × Obj)) (σ : List (Option V)) (H : Hp) (s : Shared) : Prop where
  ok : X.Ok
  os : s.os = X.s_0.os
  bare : AllBare s.gens
  base : Un X.fs X.ex X.H_0 H X.s_0.heap s.heap
  loc : ∃ m, s.heap.Ns X.env.locals m ∧ ∀ (i : Nat) (x : Str) (v : V), X.N[i]? = some x → σ[i]? = some (some v) → Vis X.env.scope x → ∃ u, RelV v u ∧ Look X.env s.heap m x u
  cell : ∀ x c, X.env.cells.lookup x = some c → ∃ v, s.heap.IsCell c v
  free : H X.env.locals = none
  freeC : ∀ x c, X.env.cells.lookup x = some c → H c = none
  pin : ∀ p ∈ X.pn ++ pins, s.heap.get? p.1 = some p.2 ∧ H p.1 = none ∧ p.1 ≠ X.env.locals ∧ p.1 ∉ X.fs ∧ ∀ v, p.2.data ≠ .cell v
  hok : HOk X.prog X.w H s.heap
  len : σ.length = X.N.length

section
variable {X : Cx} {pins : List (Addr × Obj)} {σ : List (Option V)} {H H' : Hp} {s : Shared} {h' : Heap}

theorem Cx.Ok.nofr (ok : X.Ok) {b : Addr} {o : Obj} (e : X.base.get? b = some o) : b ∉ X.fs := fun hb => by
  have := (ok.funs.mem hb).1
  rw [e] at this; cases this
theorem Inv.bs (I : Inv X pins σ H s) : ∀ b o, X.base.get? b = some o → s.heap.get? b = some o ∧ H b = none := fun b o e =>
  ⟨I.base.keep b o (I.ok.bs b o e).1 (I.ok.bs b o e).2 (I.ok.nofr e) (I.ok.noex b o e), I.base.free b o (I.ok.bs b o e).1 (I.ok.bs b o e).2 (I.ok.noex b o e)⟩
theorem Inv.bk (I : Inv X pins σ H s) : ∀ b o, X.base.get? b = some o → s.heap.get? b = some o := fun b o e => (I.bs b o e).1
theorem Inv.mod (I : Inv X pins σ H s) : Mod X.K X.mg X.base := I.ok.mod
theorem Inv.kIn (I : Inv X pins σ H s) : X.K.In s.heap := I.ok.mod.kin.keeps I.bk
theorem Inv.nolimit (I : Inv X pins σ H s) : s.heap.NoLimit := I.ok.mod.nolimit.keeps I.bk
theorem Inv.lt (I : Inv X pins σ H s) : X.env.locals < s.heap.objs.size := let ⟨_, hn, _⟩ := I.loc; hn.lt
theorem Inv.sz (I : Inv X pins σ H s) : X.s_0.heap.objs.size ≤ s.heap.objs.size := Nat.le_trans I.ok.above (Nat.le_of_lt I.lt)
theorem Inv.nofs (I : Inv X pins σ H s) {a : Addr} (h : s.heap.objs.size ≤ a) : a ∉ X.fs := fun hb => by
  obtain ⟨_, o, ho, _⟩ := I.ok.funs.mem hb
  exact absurd (Nat.lt_of_lt_of_le (Heap.lt_size ho) (Nat.le_trans I.sz h)) (Nat.lt_irrefl _)
theorem Inv.cne (I : Inv X pins σ H s) : ∀ x c, X.env.cells.lookup x = some c → c ≠ X.env.locals := fun x c e z => by
  obtain ⟨v, o, ho, hd⟩ := I.cell x c e
  obtain ⟨m, ⟨o', es, ep, ho', hd', _⟩, _⟩ := I.loc
  rw [z, ho'] at ho; cases ho; rw [hd'] at hd; cases hd
theorem Inv.funs (I : Inv X pins σ H s) : s.heap.FunFrames X.base X.outer := by
  have all : ∀ (l : List Env), (∀ b ∈ frs l, b ∈ X.fs) → X.s_0.heap.FunFrames X.base l → s.heap.FunFrames X.base l := by
    intro l
    induction l with
    | nil => intro _ _; trivial
    | cons env r ih =>
      intro hs hl
      obtain ⟨hk, ⟨L, o, hf, hn, ho, hd⟩, hr⟩ := hl
      have hL : L ∈ X.fs := hs L (by unfold frs; rw [List.filterMap_cons, hf]; exact List.mem_cons_self)
      obtain ⟨sl, e⟩ := I.base.slot L o ho (I.ok.frf L hL) hL fun z => I.ok.exfs L z hL
      exact ⟨hk, ⟨L, _, hf, hn, e, hd⟩, ih (fun b hb => hs b (by unfold frs; rw [List.filterMap_cons, hf]; exact List.mem_cons_of_mem _ hb)) hr⟩
  exact all X.outer (fun _ hb => hb) I.ok.funs

theorem Inv.stack (I : Inv X pins σ H s) : s.heap.FunFrames X.base X.stack := by
  rcases I.ok.stk with e | ⟨e, hf⟩
  · rw [e]; exact I.funs
  · rw [e]
    obtain ⟨m, hn, _⟩ := I.loc
    refine .cons (by rw [I.ok.kind]; decide) hf hn ?_ I.funs
    exact Heap.get?_none_of_le (Nat.le_trans I.ok.bsz I.ok.above)
theorem Inv.stkSub (I : Inv X pins σ H s) : ∀ b ∈ frs X.stack, b ∈ X.env.locals :: X.fs := fun b hb => by
  rcases I.ok.stk with e | ⟨e, hf⟩
  · rw [e] at hb; exact List.mem_cons_of_mem _ hb
  · rw [e] at hb
    unfold frs at hb
    rw [List.filterMap_cons, hf] at hb
    exact hb
theorem Inv.stkFree (I : Inv X pins σ H s) : ∀ b ∈ frs X.stack, H b = none := fun b hb => by
  rcases List.mem_cons.mp (I.stkSub b hb) with e | hb
  · rw [e]; exact I.free
  · obtain ⟨_, o, ho, _⟩ := I.ok.funs.mem hb
    exact I.base.free b o ho (I.ok.frf b hb) fun z => I.ok.exfs b z hb

theorem Inv.step {g' : Array GenState} {t' : Nat} {d' : Drawn} {ch : List Addr} (I : Inv X pins σ H s)
    (hch : ∀ b ∈ ch, (b ∈ X.ex ∨ X.s_0.heap.objs.size ≤ b) ∧ b ≠ X.env.locals ∧ (∀ x c, X.env.cells.lookup x = some c → c ≠ b) ∧ ∀ p ∈ X.pn ++ pins, p.1 ≠ b)
    (keep : ∀ b o, b ≠ X.env.locals → b ∉ X.fs → b ∉ ch → s.heap.get? b = some o → H b = none → h'.get? b = some o)
    (slot : ∀ b o, b ≠ X.env.locals → b ∈ X.fs → b ∉ ch → s.heap.get? b = some o → H b = none → ∃ sl, h'.get? b = some { o with slots := sl }) (free : ∀ b o, b ∉ ch → s.heap.get? b = some o → H b = none → H' b = none)
    (there : ∀ b o, b ∉ ch → s.heap.get? b = some o → ∃ o', h'.get? b = some o')
    (tups : ∀ b xs, H b = some (.tup xs) → H' b = some (.tup xs)) (frzs : ∀ b o u, H b = some (.frz o u) → H' b = some (.frz o u)) (tbls : ∀ b ps, H b = some (.tbl ps) → ∃ more, H' b = some (.tbl (ps ++ more)))
    (ns : ∀ m, s.heap.Ns X.env.locals m → h'.Ns X.env.locals m) (hok : HOk X.prog X.w H' h') (hg : AllBare g') :
    Inv X pins σ H' { s with heap := h', gens := g', drawn := d', toks := t' } := by
  have neL : ∀ b o, X.s_0.heap.get? b = some o → b ≠ X.env.locals := fun b o e => Nat.ne_of_lt (Nat.lt_of_lt_of_le (Heap.lt_size e) I.ok.above)
  have neC : ∀ b o, X.s_0.heap.get? b = some o → b ∉ X.ex → b ∉ ch := fun b o e hx hb => by
    rcases (hch b hb).1 with z | z
    · exact hx z
    · exact absurd (Nat.lt_of_lt_of_le (Heap.lt_size e) z) (Nat.lt_irrefl _)
  have cellK : ∀ x c, X.env.cells.lookup x = some c → ∀ v, s.heap.IsCell c v → h'.IsCell c v := fun x c e v ⟨o, ho, hd⟩ => by
    have nch : c ∉ ch := fun z => (hch c z).2.2.1 x c e rfl
    by_cases hc : c ∈ X.fs
    · obtain ⟨sl, q⟩ := slot c o (I.cne x c e) hc nch ho (I.freeC x c e)
      exact ⟨_, q, hd⟩
    · exact ⟨o, keep c o (I.cne x c e) hc nch ho (I.freeC x c e), hd⟩
  refine ⟨I.ok, I.os, hg, ⟨fun b o e n hb hx => ?_, fun b o e n hb hx => ?_, fun b o e n hx => ?_, fun b o e hx => ?_, fun b xs e => tups b xs (I.base.tups b xs e), fun b o xs e => frzs b o xs (I.base.frzs b o xs e), fun b ps e => ?_⟩, ?_, fun x c e => ?_, ?_, fun x c e => ?_, fun p hp => ?_, hok, I.len⟩
  · exact keep b o (neL b o e) hb (neC b o e hx) (I.base.keep b o e n hb hx) (I.base.free b o e n hx)
  · obtain ⟨sl, e1⟩ := I.base.slot b o e n hb hx
    obtain ⟨sl', e2⟩ := slot b _ (neL b o e) hb (neC b o e hx) e1 (I.base.free b o e n hx)
    exact ⟨sl', e2⟩
  · obtain ⟨o', e1⟩ := I.base.there b o e hx
    exact free b o' (neC b o e hx) e1 (I.base.free b o e n hx)
  · obtain ⟨o', e1⟩ := I.base.there b o e hx
    exact there b o' (neC b o e hx) e1
  · obtain ⟨m1, e1⟩ := I.base.tbls b ps e
    obtain ⟨m2, e2⟩ := tbls b _ e1
    exact ⟨m1 ++ m2, by rw [e2, Array.append_assoc]⟩
  · obtain ⟨m, hn, hl⟩ := I.loc
    refine ⟨m, ns m hn, fun i x v e1 e2 e3 => ?_⟩
    obtain ⟨u, r, l⟩ := hl i x v e1 e2 e3
    refine ⟨u, r, ?_⟩
    rcases l with l | ⟨k, c, e, z⟩
    · exact .inl l
    · exact .inr ⟨k, c, e, cellK x c e _ z⟩
  · obtain ⟨v, z⟩ := I.cell x c e
    exact ⟨v, cellK x c e v z⟩
  · obtain ⟨m, ⟨o, _, _, ho, _⟩, _⟩ := I.loc
    exact free _ o (fun z => (hch _ z).2.1 rfl) ho I.free
  · obtain ⟨v, o, ho, hd⟩ := I.cell x c e
    exact free c o (fun z => (hch c z).2.2.1 x c e rfl) ho (I.freeC x c e)
  · obtain ⟨e, n, ne, nf, d⟩ := I.pin p hp
    have nch : p.1 ∉ ch := fun z => (hch p.1 z).2.2.2 p hp rfl
    exact ⟨keep p.1 p.2 ne nf nch e n, free p.1 p.2 nch e n, ne, nf, d⟩
theorem Inv.un {t' : Nat} (I : Inv X pins σ H s) (u : Un X.fs [] H H' s.heap h') (hok : HOk X.prog X.w H' h') : Inv X pins σ H' { s with heap := h', toks := t' } := by
  obtain ⟨m, ⟨o, es, ep, ho, r⟩, _⟩ := id I.loc
  obtain ⟨sl, hL⟩ := u.any ho I.free (by simp)
  exact I.step (g' := s.gens) (d' := s.drawn) (ch := []) (fun _ z => nomatch z) (fun b o _ hb _ e n => u.keep b o e n hb (by simp)) (fun b o _ hb _ e n => u.slot b o e n hb (by simp)) (fun b o _ e n => u.free b o e n (by simp)) (fun b o _ e => u.there b o e (by simp)) u.tups u.frzs u.tbls (fun m' hm => by
    obtain ⟨o', es', ep', ho', r'⟩ := hm
    rw [ho] at ho'; cases ho'
    exact ⟨_, es', ep', hL, r'⟩) hok I.bare
theorem Inv.call {g' : Array GenState} {t' : Nat} {d' : Drawn} {ch : List Addr} (I : Inv X pins σ H s) (u : Un (frs X.stack) ch H H' s.heap h') (hok : HOk X.prog X.w H' h') (hg : AllBare g')
    (hch : ∀ b ∈ ch, (b ∈ X.ex ∨ X.s_0.heap.objs.size ≤ b) ∧ b ≠ X.env.locals ∧ (∀ x c, X.env.cells.lookup x = some c → c ≠ b) ∧ ∀ p ∈ X.pn ++ pins, p.1 ≠ b) :
    Inv X pins σ H' { s with heap := h', gens := g', drawn := d', toks := t' } := by
  obtain ⟨m, ⟨o, es, ep, ho, r⟩, _⟩ := id I.loc
  obtain ⟨sl, hL⟩ := u.any ho I.free fun z => (hch _ z).2.1 rfl
  exact I.step (ch := ch) hch (fun b o hL hb hc e n => u.keep b o e n (fun z => (List.mem_cons.mp (I.stkSub b z)).elim hL hb) hc) (fun b o _ _ hc e n => u.any e n hc) (fun b o hc e n => u.free b o e n hc) (fun b o hc e => u.there b o e hc) u.tups u.frzs u.tbls (fun m' hm => by
    obtain ⟨o', es', ep', ho', r'⟩ := hm
    rw [ho] at ho'; cases ho'
    exact ⟨_, es', ep', hL, r'⟩) hok hg
theorem Inv.turned {t' : Nat} {it : Addr} (I : Inv X pins σ H s) (k : ∀ b o, b ≠ it → s.heap.get? b = some o → h'.get? b = some o) (hn : H it = none) (hL : it ≠ X.env.locals)
    (h1 : it ∈ X.ex ∨ X.s_0.heap.objs.size ≤ it) (h2 : ∀ x c, X.env.cells.lookup x = some c → c ≠ it) (h3 : ∀ p ∈ X.pn ++ pins, p.1 ≠ it) : Inv X pins σ H { s with heap := h', toks := t' } := by
  have nit : ∀ b u, H b = some u → b ≠ it := fun b u e z => by rw [z, hn] at e; cases e
  refine I.step (g' := s.gens) (d' := s.drawn) (ch := [it]) (fun b hb => ?_) (fun b o _ _ hc e _ => k b o (fun z => hc (by simp [z])) e) (fun b o _ _ hc e _ => ⟨o.slots, k b o (fun z => hc (by simp [z])) e⟩) (fun _ _ _ _ n => n)
    (fun b o hc e => ⟨o, k b o (fun z => hc (by simp [z])) e⟩) (fun _ _ e => e) (fun _ _ _ e => e) (fun b ps e => ⟨#[], by rw [e]; simp⟩) (fun m hm => ?_) (fun b u e => ?_) I.bare
  · have e : b = it := by simpa using hb
    subst e
    exact ⟨h1, hL, h2, h3⟩
  · obtain ⟨o, es, ep, ho, r⟩ := hm
    exact ⟨o, es, ep, k _ o (Ne.symm hL) ho, r⟩
  · refine (I.hok b u e).stay (fun c v hc q => k c v ?_ q) (fun _ q => q) fun _ _ q => q
    rcases hc with z | z
    · rw [z]; exact nit b u e
    · exact nit c _ z
theorem Inv.tok (I : Inv X pins σ H s) (t : Nat) : Inv X pins σ H { s with toks := t } := I.un (h' := s.heap) (t' := t) Un.refl I.hok
theorem Inv.kept {t' : Nat} (I : Inv X pins σ H s) (k : ∀ b u, s.heap.get? b = some u → h'.get? b = some u) : Inv X pins σ H { s with heap := h', toks := t' } := I.un (Un.kept k) (I.hok.kept k)
theorem Inv.laid {a : Addr} {o : HO} {t' : Nat} (I : Inv X pins σ H s) (k : ∀ b u, s.heap.get? b = some u → h'.get? b = some u) (hp : s.heap.objs.size ≤ a) (new : ObjOk X.prog X.w (upd H a o) h' a o) :
    Inv X pins σ (upd H a o) { s with heap := h', toks := t' } := I.un (Un.laid k hp (I.hok.fresh hp)) (I.hok.laid k hp new)
theorem Inv.write {x e : Addr} {o : HO} {t' : Nat} (I : Inv X pins σ H s) (mu : Mut (H x)) (he : e = x ∨ H e = some (.own x)) (k : ∀ b u, b ≠ e → s.heap.get? b = some u → h'.get? b = some u) (heo : ∃ u, h'.get? e = some u)
    (new : ObjOk X.prog X.w (upd H x o) h' x o) : Inv X pins σ (upd H x o) { s with heap := h', toks := t' } := I.un (Un.write mu he k heo) (I.hok.write mu he k heo new)
theorem Inv.weak {σ' : List (Option V)} (I : Inv X pins σ H s) (hl : σ'.length = σ.length) (w : ∀ (i : Nat) v, σ'[i]? = some (some v) → σ[i]? = some (some v)) : Inv X pins σ' H s :=
  ⟨I.ok, I.os, I.bare, I.base, let ⟨m, hn, hl'⟩ := I.loc; ⟨m, hn, fun i x v e1 e2 e3 => hl' i x v e1 (w i v e2) e3⟩, I.cell, I.free, I.freeC, I.pin, I.hok, hl.trans I.len⟩
theorem Inv.pins_of {pins' : List (Addr × Obj)} (I : Inv X pins σ H s) (h : ∀ p ∈ pins', s.heap.get? p.1 = some p.2 ∧ H p.1 = none ∧ p.1 ≠ X.env.locals ∧ p.1 ∉ X.fs ∧ ∀ v, p.2.data ≠ .cell v) : Inv X pins' σ H s :=
  ⟨I.ok, I.os, I.bare, I.base, I.loc, I.cell, I.free, I.freeC, fun p hp => (List.mem_append.mp hp).elim (fun z => I.pin p (List.mem_append_left _ z)) (h p), I.hok, I.len⟩

theorem nodup_ix {N : List Str} (hN : N.Nodup) {i j : Nat} {x : Str} (a : N[i]? = some x) (b : N[j]? = some x) : i = j := by
  obtain ⟨h1, e1⟩ := List.getElem?_eq_some_iff.mp a
  obtain ⟨h2, e2⟩ := List.getElem?_eq_some_iff.mp b
  exact (List.getElem_inj hN).mp (e1.trans e2.symm)

theorem store_ok2 {M : Model} {A : Around} {E : Value → Shared → Prop} {i : Nat} {x : Str} {v : V} {u : Value} {Q : Unit → Shared → Prop} (I : Inv X pins σ H s) (hN : X.N.Nodup) (hi : X.N[i]? = some x) (hx : Loc X.env.scope x) (r : RelV v u)
    (h : ∀ s', Inv X pins (σ.set i (some v)) H s' → (∃ a, Heap.SameBut a s.heap s'.heap ∧ (a = X.env.locals ∨ X.env.cells.lookup x = some a)) → Q () s') (hf : X.fn x = true ∨ X.env.scope.names.lookup x = some .local := by first | exact .inl rfl | exact .inr rfl | assumption) : wpAny M A (storeName X.env x u) Q E s := by
  obtain ⟨m, hn, hl⟩ := id I.loc
  have hcls : (X.env.scope.kind == .class || (X.env.scope.kind == .module && X.env.locals != X.env.globals)) = false := by rw [I.ok.kind]; rfl
  have hiσ : i < σ.length := by rw [I.len]; exact (List.getElem?_eq_some_iff.mp hi).1
  have cne := I.cne
  have tracked : ∀ {a : Addr} {h' : Heap}, (∃ o, s.heap.get? a = some o ∧ H a = none) → Heap.SameBut a s.heap h' → HOk X.prog X.w H h' := fun {a h'} ha hs b ob e => by
    obtain ⟨_, _, hfree⟩ := ha
    refine (I.hok b ob e).stay (fun c w' hc q => (hs.2 c ?_).trans q) (fun _ q => q) fun _ _ q => q
    rintro rfl
    rcases hc with rfl | hc
    · rw [hfree] at e; cases e
    · rw [hfree] at hc; cases hc
  rcases hx with hk | hk
  · refine wpAny_storeName_local hk hn (fun h' hn' hs => ?_) hcls
    obtain ⟨oL, _, _, hoL, _⟩ := id hn
    refine h _ ⟨I.ok, I.os, I.bare, ⟨fun b o e n hb hx => ?_, fun b o e n hb hx => ?_, I.base.free, fun b o e hx => ?_, I.base.tups, I.base.frzs, I.base.tbls⟩, ⟨_, hn', fun j y v' e1 e2 e3 => ?_⟩, fun y c e => ?_, I.free, I.freeC, fun p hp => ?_, tracked ⟨oL, hoL, I.free⟩ hs, by simpa using I.len⟩ ⟨_, hs, .inl rfl⟩
    · exact (hs.2 b (Nat.ne_of_lt (Nat.lt_of_lt_of_le (Heap.lt_size e) I.ok.above))).trans (I.base.keep b o e n hb hx)
    · obtain ⟨sl, e1⟩ := I.base.slot b o e n hb hx
      exact ⟨sl, (hs.2 b (Nat.ne_of_lt (Nat.lt_of_lt_of_le (Heap.lt_size e) I.ok.above))).trans e1⟩
    · obtain ⟨o', e1⟩ := I.base.there b o e hx
      exact ⟨o', (hs.2 b (Nat.ne_of_lt (Nat.lt_of_lt_of_le (Heap.lt_size e) I.ok.above))).trans e1⟩
    · by_cases hj : j = i
      · subst hj
        rw [hi] at e1; cases e1
        rw [List.getElem?_set_self hiσ] at e2
        cases e2
        exact ⟨u, r, .inl ⟨hk, by simp⟩⟩
      · rw [List.getElem?_set_ne (Ne.symm hj)] at e2
        obtain ⟨u', r', q⟩ := hl j y v' e1 e2 e3
        refine ⟨u', r', ?_⟩
        rcases q with ⟨k, e⟩ | ⟨k, c, e, z⟩
        · refine .inl ⟨k, ?_⟩
          have : y ≠ x := fun e => hj (nodup_ix hN e1 (e ▸ hi))
          simp [this, e]
        · exact .inr ⟨k, c, e, z.sameBut hs (cne y c e)⟩
    · obtain ⟨w', z⟩ := I.cell y c e
      exact ⟨w', z.sameBut hs (cne y c e)⟩
    · obtain ⟨e, n, ne, nf, d⟩ := I.pin p hp
      exact ⟨(hs.2 p.1 ne).trans e, n, ne, nf, d⟩
  · have hfn : X.fn x = true := by
      rcases hf with z | z
      · exact z
      · rw [z] at hk; cases hk
    obtain ⟨c, hc⟩ := I.ok.has x (.inl hk)
    obtain ⟨w', z⟩ := I.cell x c hc
    refine wpAny_storeName_cell I.ok.kind hk hc z (fun h' hc' hs => ?_)
    obtain ⟨oc, hoc, hocd⟩ := id z
    refine h { s with heap := h' } ⟨I.ok, I.os, I.bare, ⟨fun b o e n hb hx => ?_, fun b o e n hb hx => ?_, I.base.free, fun b o e hx => ?_, I.base.tups, I.base.frzs, I.base.tbls⟩, ⟨m, hn.sameBut hs (Ne.symm (cne x c hc)), fun j y v' e1 e2 e3 => ?_⟩, fun y c' e => ?_, I.free, I.freeC, fun p hp => ?_, tracked ⟨oc, hoc, I.freeC x c hc⟩ hs, by simpa using I.len⟩ ⟨c, hs, .inr hc⟩
    · exact (hs.2 b (Nat.ne_of_lt (Nat.lt_of_lt_of_le (Heap.lt_size e) (I.ok.cab x c hfn hc)))).trans (I.base.keep b o e n hb hx)
    · obtain ⟨sl, e1⟩ := I.base.slot b o e n hb hx
      exact ⟨sl, (hs.2 b (Nat.ne_of_lt (Nat.lt_of_lt_of_le (Heap.lt_size e) (I.ok.cab x c hfn hc)))).trans e1⟩
    · obtain ⟨o', e1⟩ := I.base.there b o e hx
      exact ⟨o', (hs.2 b (Nat.ne_of_lt (Nat.lt_of_lt_of_le (Heap.lt_size e) (I.ok.cab x c hfn hc)))).trans e1⟩
    · by_cases hj : j = i
      · subst hj
        rw [hi] at e1; cases e1
        rw [List.getElem?_set_self hiσ] at e2
        cases e2
        exact ⟨u, r, .inr ⟨.inl hk, c, hc, hc'⟩⟩
      · rw [List.getElem?_set_ne (Ne.symm hj)] at e2
        obtain ⟨u', r', q⟩ := hl j y v' e1 e2 e3
        refine ⟨u', r', ?_⟩
        rcases q with q | ⟨k, c', e, z'⟩
        · exact .inl q
        · refine .inr ⟨k, c', e, z'.sameBut hs ?_⟩
          rintro rfl
          exact hj (nodup_ix hN e1 (I.ok.inj _ _ _ e hc ▸ hi))
    · by_cases hcc : c' = c
      · subst hcc; exact ⟨_, hc'⟩
      · obtain ⟨w2, z2⟩ := I.cell y c' e
        exact ⟨w2, z2.sameBut hs hcc⟩
    · obtain ⟨e, n, ne, nf, d⟩ := I.pin p hp
      refine ⟨(hs.2 p.1 ?_).trans e, n, ne, nf, d⟩
      intro q
      rw [q, hoc] at e
      have q' : oc = p.2 := Option.some.inj e
      exact d w' (by rw [← q']; exact hocd)
theorem store_ok {M : Model} {A : Around} {E : Value → Shared → Prop} {i : Nat} {x : Str} {v : V} {u : Value} {Q : Unit → Shared → Prop} (I : Inv X pins σ H s) (hN : X.N.Nodup) (hi : X.N[i]? = some x) (hx : Loc X.env.scope x) (r : RelV v u)
    (h : ∀ s', Inv X pins (σ.set i (some v)) H s' → Q () s') (hf : X.fn x = true ∨ X.env.scope.names.lookup x = some .local := by first | exact .inl rfl | exact .inr rfl | assumption) : wpAny M A (storeName X.env x u) Q E s :=
  store_ok2 I hN hi hx r (fun s' I' _ => h s' I') hf
theorem Inv.call' {s' : Shared} {ch : List Addr} (I : Inv X pins σ H s) (ho : s'.os = s.os) (u : Un (frs X.stack) ch H H' s.heap s'.heap) (hok : HOk X.prog X.w H' s'.heap) (hg : AllBare s'.gens)
    (hch : ∀ b ∈ ch, (b ∈ X.ex ∨ X.s_0.heap.objs.size ≤ b) ∧ b ≠ X.env.locals ∧ (∀ x c, X.env.cells.lookup x = some c → c ≠ b) ∧ ∀ p ∈ X.pn ++ pins, p.1 ≠ b) : Inv X pins σ H' s' := by
  obtain ⟨h', g', d', t', o'⟩ := s'
  have e : o' = s.os := ho
  subst e
  exact I.call (g' := g') (t' := t') (d' := d') u hok hg hch
end

abbrev XK := Value → Option Addr → Hp → Prop
abbrev St := List (Option V)
abbrev VK := V → Hp → Prop
abbrev TE := St → Hp → VK → Prop
abbrev TT := St → Hp → (Bool → Hp → Prop) → Prop
abbrev TA := St → Hp → (List V → Hp → Prop) → Prop
structure Ends where
  nx : St → Hp → Prop
  rt : VK
  bk : St → Hp → Prop := fun _ _ => False
  ct : St → Hp → Prop := fun _ _ => False
abbrev TS := Ends → St → Hp → Prop

def EP (X : Cx) (pins : List (Addr × Obj)) (σ : St) (Q : VK) (u : Value) (s' : Shared) : Prop := ∃ v H', Inv X pins σ H' s' ∧ RelV v u ∧ Q v H'
def TP (X : Cx) (pins : List (Addr × Obj)) (σ : St) (Q : Bool → Hp → Prop) (b : Bool) (s' : Shared) : Prop := ∃ H', Inv X pins σ H' s' ∧ Q b H'
def AP (X : Cx) (pins : List (Addr × Obj)) (σ : St) (Q : List V → Hp → Prop) (us : List Value) (s' : Shared) : Prop := ∃ vs H', Inv X pins σ H' s' ∧ Vals vs us ∧ Q vs H'
def SP (X : Cx) (pins : List (Addr × Obj)) (D : Ends) (f : Flow) (s' : Shared) : Prop :=
  match f with
  | .next => ∃ σ' H', Inv X pins σ' H' s' ∧ D.nx σ' H'
  | .brk => ∃ σ' H', Inv X pins σ' H' s' ∧ D.bk σ' H'
  | .cont => ∃ σ' H', Inv X pins σ' H' s' ∧ D.ct σ' H'
  | .ret u => ∃ v σ' H', Inv X pins σ' H' s' ∧ RelV v u ∧ D.rt v H'

def PE (X : Cx) (e : Expr) (t : TE) : Prop :=
  ∀ (pins : List (Addr × Obj)) (s : Shared) (σ : St) (H : Hp) (Q : VK), Inv X pins σ H s → t σ H Q → wpAny (model X.prog X.w) X.A (eval e X.env) (EP X pins σ Q) X.xe s
def PT (X : Cx) (e : Expr) (t : TT) : Prop :=
  ∀ (pins : List (Addr × Obj)) (s : Shared) (σ : St) (H : Hp) (Q : Bool → Hp → Prop), Inv X pins σ H s → t σ H Q → wpAny (model X.prog X.w) X.A (isTrue e X.env (eval e X.env)) (TP X pins σ Q) X.xe s
def PW (X : Cx) (e : Expr) (t : TT) : Prop :=
  ∀ (whole : Sem Value) (pins : List (Addr × Obj)) (s : Shared) (σ : St) (H : Hp) (Q : Bool → Hp → Prop), Inv X pins σ H s → t σ H Q → wpAny (model X.prog X.w) X.A (isTrue e X.env whole) (TP X pins σ Q) X.xe s
theorem PW.pt {X : Cx} {e : Expr} {t : TT} (h : PW X e t) : PT X e t := h _
def PA (X : Cx) (es : List Expr) (t : TA) : Prop :=
  ∀ (pos : Pos) (pins : List (Addr × Obj)) (s : Shared) (σ : St) (H : Hp) (Q : List V → Hp → Prop), Inv X pins σ H s → t σ H Q → wpAny (model X.prog X.w) X.A (spliced (backTo pos (starEach es X.env))) (AP X pins σ Q) X.xe s
def PS (X : Cx) (st : Stmt) (t : TS) : Prop :=
  ∀ (pins : List (Addr × Obj)) (s : Shared) (σ : St) (H : Hp) (D : Ends), Inv X pins σ H s → t D σ H → wpAny (model X.prog X.w) X.A (exec st X.env) (SP X pins D) X.xe s
def PSs (X : Cx) (st : List Stmt) (t : TS) : Prop :=
  ∀ (pins : List (Addr × Obj)) (s : Shared) (σ : St) (H : Hp) (D : Ends), Inv X pins σ H s → t D σ H → wpAny (model X.prog X.w) X.A (execs st X.env) (SP X pins D) X.xe s
theorem thn {α : Type} {t : Sem α} {Q Q' : α → Shared → Prop} {M : Model} {A : Around} {E : Value → Shared → Prop} {s : Shared} (h : wpAny M A t Q E s) (hQ : ∀ a s, Q a s → Q' a s) : wpAny M A t Q' E s := wpAny_mono h hQ fun _ _ x => x
end L2

namespace L2
open PySem PySem.Spec PyProof.Rows
section
variable {X : Cx}

def tVar (i : Nat) : TE := fun σ H Q => ∃ v, σ[i]? = some (some v) ∧ Q v H
def tC (v : V) : TE := fun _ H Q => Q v H
theorem pe_var {i : Nat} {x : Str} {pos : Pos} (hN : X.N[i]? = some x) (hv : Vis X.env.scope x) (hd : (x == ("__debug__" : Str)) = false := by decide) (hcd : (x == ("__classdict__" : Str)) = false := by decide) : PE X (.Name x pos) (tVar i) := by
  intro pins s σ H Q I h
  obtain ⟨v, e, h⟩ := h
  obtain ⟨m, hn, hl⟩ := I.loc
  obtain ⟨u, r, l⟩ := hl i x v hN e hv
  have fin : EP X pins σ Q u s := ⟨v, H, I, r, h⟩
  rcases l with ⟨hk, hm⟩ | ⟨hk, c, hc, hcell⟩
  · exact wpAny_Name (wpAny_loadName_local I.ok.kind hk hn hm fin) hd
  · rcases hk with hk | hk
    · exact wpAny_Name (wpAny_loadName_cell I.ok.kind hk hc hcell fin) hd
    · exact wpAny_Name (wpAny_loadName_free I.ok.kind hk hc hcell fin hcd) hd
theorem pe_int {i j pos} : PE X (.Constant (.int i) j pos) (tC (.int i)) := fun _ _ _ H _ I h => wpAny_Constant_int ⟨.int i, H, I.tok _, ⟨_, rfl⟩, h⟩
theorem pe_bl {b j pos} : PE X (.Constant (.bool b) j pos) (tC (.bl b)) := fun _ _ _ H _ I h => Constant_bool ⟨.bl b, H, I, rfl, h⟩
theorem pe_non {j pos} : PE X (.Constant .none j pos) (tC .non) := fun _ _ _ H _ I h => Constant_none ⟨.non, H, I, rfl, h⟩
def Gl (X : Cx) (x : Str) : Prop := X.env.kindOf x = some .globalImplicit
theorem ld_glob {E : Value → Shared → Prop} {pins : List (Addr × Obj)} {s : Shared} {σ : St} {H : Hp} {x : Str} {u : Value} {pos : Pos} {Q : Value → Shared → Prop} (I : Inv X pins σ H s) (hg : Gl X x) (hm : X.mg x = some u) (h : Q u s)
    (hd : (x == ("__debug__" : Str)) = false := by decide) : wpAny (model X.prog X.w) X.A (eval (.Name x pos) X.env) Q E s :=
  Calls.Name_function_global I.ok.kind hg (Calls.loadGlobal_global (by rw [I.ok.glob]; exact I.mod.glob.keeps I.bk) hm h) hd
theorem ld_blt {E : Value → Shared → Prop} {pins : List (Addr × Obj)} {s : Shared} {σ : St} {H : Hp} {x : Str} {u : Value} {pos : Pos} {Q : Value → Shared → Prop} (I : Inv X pins σ H s) (hg : Gl X x) (hm : X.mg x = none) (hv : bootBuiltins x = some u) (h : Q u s)
    (hn : x ≠ "__name__" := by decide) (hd : (x == ("__debug__" : Str)) = false := by decide) : wpAny (model X.prog X.w) X.A (eval (.Name x pos) X.env) Q E s := by
  obtain ⟨mb, h1, h2⟩ := I.mod.blt
  exact Calls.Name_function_global I.ok.kind hg (Calls.loadGlobal_builtin (by rw [I.ok.glob]; exact I.mod.glob.keeps I.bk) hm (by rw [I.ok.blt]; exact h1.keeps I.bk) ((h2 x hn).trans hv) h) hd
theorem pe_glob {x : Str} {v : V} {u : Value} {pos : Pos} (hg : Gl X x) (hm : X.mg x = some u) (r : RelV v u) (hd : (x == ("__debug__" : Str)) = false := by decide) : PE X (.Name x pos) (tC v) :=
  fun _ _ _ H _ I h => ld_glob I hg hm ⟨v, H, I, r, h⟩ hd
theorem pe_bltn {x : Str} {v : V} {u : Value} {pos : Pos} (hg : Gl X x) (hm : X.mg x = none) (hv : bootBuiltins x = some u) (r : RelV v u) (hn : x ≠ "__name__" := by decide) (hd : (x == ("__debug__" : Str)) = false := by decide) : PE X (.Name x pos) (tC v) :=
  fun _ _ _ H _ I h => ld_blt I hg hm hv ⟨v, H, I, r, h⟩ hn hd

variable {a b : Expr} {ta tb : TE} {pos : Pos}
def tB (t : TE) : TT := fun σ H Q => t σ H fun x H1 => ∃ c, x = .bl c ∧ Q c H1
theorem pt_val {e : Expr} {t : TE} (h : PE X e t) (he : ∀ whole, isTrue e X.env whole = (do let v ← whole; standAt e.pos; holding [v] (truthy v)) := by intro _; rfl) : PT X e (tB t) := by
  intro pins s σ H Q I hw
  refine isTrue_plain (thn (h pins s σ H _ I hw) fun v s1 ⟨x, H1, I1, r1, q1⟩ => ?_) (he _)
  obtain ⟨d, rfl, q⟩ := q1
  cases r1
  exact wpAny_truthy_bool ⟨H1, I1, q⟩

variable {tA tB' : TT} {rest : List Expr}
def tAnd (t u : TT) : TT := fun σ H Q => t σ H fun c H1 => if c = true then u σ H1 Q else Q false H1
def tOr (t u : TT) : TT := fun σ H Q => t σ H fun c H1 => if c = true then Q true H1 else u σ H1 Q
def tNot (t : TT) : TT := fun σ H Q => t σ H fun c H1 => Q (!c) H1
theorem pw_and1 (ha : PT X a tA) : PW X (.BoolOp .And [a] pos) tA := by
  intro wh pins s σ H Q I h
  refine isTrue_and (thn (ha pins s σ H Q I h) fun c s1 e => ?_)
  cases c with
  | true => exact isTrue_and_nil e
  | false => exact e
theorem pw_or1 (ha : PT X a tA) : PW X (.BoolOp .Or [a] pos) tA := by
  intro wh pins s σ H Q I h
  refine isTrue_or (thn (ha pins s σ H Q I h) fun c s1 e => ?_)
  cases c with
  | false => exact isTrue_or_nil e
  | true => exact e
theorem pw_and (ha : PT X a tA) (hb : PW X (.BoolOp .And (b :: rest) pos) tB') : PW X (.BoolOp .And (a :: b :: rest) pos) (tAnd tA tB') := by
  intro wh pins s σ H Q I h
  refine isTrue_and (thn (ha pins s σ H _ I h) fun c s1 ⟨H1, I1, q1⟩ => ?_)
  cases c with
  | true => exact hb wh pins s1 σ H1 Q I1 q1
  | false => exact ⟨H1, I1, q1⟩
theorem pw_or (ha : PT X a tA) (hb : PW X (.BoolOp .Or (b :: rest) pos) tB') : PW X (.BoolOp .Or (a :: b :: rest) pos) (tOr tA tB') := by
  intro wh pins s σ H Q I h
  refine isTrue_or (thn (ha pins s σ H _ I h) fun c s1 ⟨H1, I1, q1⟩ => ?_)
  cases c with
  | true => exact ⟨H1, I1, q1⟩
  | false => exact hb wh pins s1 σ H1 Q I1 q1
theorem pt_not (ha : PT X a tA) : PT X (.UnaryOp .Not a pos) (tNot tA) := by
  intro pins s σ H Q I h
  exact isTrue_not (ha pins s σ H (fun c H1 => Q (!c) H1) I h)
def tAndV (ta tb : TE) : TE := fun σ H Q => ta σ H fun x H1 => ∃ c, x = .bl c ∧ if c = true then tb σ H1 Q else Q (.bl false) H1
def tNotV (ta : TE) : TE := fun σ H Q => ta σ H fun x H1 => ∃ c, x = .bl c ∧ Q (.bl (!c)) H1
theorem pe_one {op} {t : TE} (h : PE X a t) : PE X (.BoolOp op [a] pos) t := fun pins s σ H Q I hw => BoolOp_one (h pins s σ H Q I hw)
theorem pe_and (ha : PE X a ta) (hb : PE X (.BoolOp .And (b :: rest) pos) tb) : PE X (.BoolOp .And (a :: b :: rest) pos) (tAndV ta tb) := by
  intro pins s σ H Q I h
  refine BoolOp_and (thn (ha pins s σ H _ I h) fun v s1 ⟨x, H1, I1, r1, q1⟩ => ?_)
  obtain ⟨c, rfl, q1⟩ := q1
  cases r1
  refine wpAny_truthy_bool ?_
  cases c with
  | true => exact hb pins s1 σ H1 Q I1 q1
  | false => exact ⟨.bl false, H1, I1, rfl, q1⟩
theorem pe_not (ha : PE X a ta) : PE X (.UnaryOp .Not a pos) (tNotV ta) := by
  intro pins s σ H Q I h
  refine UnaryOp_ (thn (ha pins s σ H _ I h) fun v s1 ⟨x, H1, I1, r1, q1⟩ => ?_)
  obtain ⟨c, rfl, q1⟩ := q1
  cases r1
  exact not_of (wpAny_truthy_bool ⟨.bl (!c), H1, I1, rfl, q1⟩)
def tIf (t : TT) (ta tb : TE) : TE := fun σ H Q => t σ H fun c H1 => if c = true then ta σ H1 Q else tb σ H1 Q
theorem pe_ifExp {c : Expr} (hc : PT X c tA) (ha : PE X a ta) (hb : PE X b tb) : PE X (.IfExp c a b pos) (tIf tA ta tb) := by
  intro pins s σ H Q I h
  refine wpAny_IfExp (thn (hc pins s σ H _ I h) fun d s1 ⟨H1, I1, q1⟩ => ?_)
  cases d with
  | true => exact ha pins s1 σ H1 Q I1 q1
  | false => exact hb pins s1 σ H1 Q I1 q1
end
end L2

namespace L2
open PySem PySem.Spec PyProof.Rows

def SqL (K : PySem.W.Frag) (H : Hp) (a : Addr) (xs : List V) : Prop :=
  Rd H a (.lst xs) ∨
    ∃ (o : Obj) (its : Array Value) (n : Nat), K.lookup a = some o ∧ o.cls = .type "list" ∧ o.dict = none ∧ o.data = .seq its n ∧ its.size ≤ sizeLine ∧ Vals xs its.toList
def SqT (K : PySem.W.Frag) (H : Hp) (a : Addr) (xs : List V) : Prop :=
  Rd H a (.tup xs) ∨
    ∃ (o : Obj) (its : Array Value) (n : Nat), K.lookup a = some o ∧ o.cls = .type "tuple" ∧ o.data = .seq its n ∧ its.size ≤ sizeLine ∧ Vals xs its.toList
def absV : Value → Option V
  | .none => some .non
  | .bool b => some (.bl b)
  | .int i _ => some (.int i)
  | .str x _ => some (.str x)
  | .bytes b _ => some (.byt b)
  | .float b _ => some (.flt b)
  | .ref a => some (.ref a)
  | .type n => some (.ty n)
  | _ => none
theorem RelV.abs {x : V} {u : Value} (r : RelV x u) : absV u = some x := by
  cases x with
  | non => cases r; rfl
  | bl _ => cases r; rfl
  | int _ => obtain ⟨t, rfl⟩ := r; rfl
  | str _ => obtain ⟨t, rfl⟩ := r; rfl
  | byt _ => obtain ⟨t, rfl⟩ := r; rfl
  | flt _ => obtain ⟨t, rfl⟩ := r; rfl
  | ref _ => cases r; rfl
  | ty _ => cases r; rfl
theorem RelV.inj {x y : V} {u : Value} (r : RelV x u) (q : RelV y u) : x = y := Option.some.inj (r.abs.symm.trans q.abs)
theorem Vals.inj : ∀ {xs ys : List V} {us : List Value}, Vals xs us → Vals ys us → xs = ys
  | _, _, _, .nil, .nil => rfl
  | _, _, _, .cons r t, .cons r' t' => by rw [r.inj r', Vals.inj t t']
section
variable {X : Cx} {pins : List (Addr × Obj)} {σ : St} {H : Hp} {s : Shared} {a : Addr} {xs ys : List V}
theorem SqL.of {K : PySem.W.Frag} (h : H a = some (.lst xs)) : SqL K H a xs := .inl (.inl h)
theorem SqT.of {K : PySem.W.Frag} (h : H a = some (.tup xs)) : SqT K H a xs := .inl (.inl h)
theorem Inv.list (I : Inv X pins σ H s) (h : SqL X.K H a xs) : ∃ its : List Value, Vals xs its ∧ PlainL s.heap a its.toArray ∧ xs.length ≤ sizeLine := by
  rcases h with h | ⟨o, its, n, hk, hc, hd, hs, hz, r⟩
  · obtain ⟨z, its, n, r, e⟩ := h.ok I.hok
    exact ⟨its, r, ⟨_, n, e, rfl, rfl, rfl⟩, z⟩
  · refine ⟨its.toList, r, ⟨o, n, I.kIn a o hk, hc, hd, by simpa using hs⟩, ?_⟩
    have e := r.length
    simp only [Array.length_toList] at e
    omega
theorem Inv.tuple (I : Inv X pins σ H s) (h : SqT X.K H a xs) : ∃ its : List Value, Vals xs its ∧ IsTup s.heap a its.toArray ∧ xs.length ≤ sizeLine := by
  rcases h with h | ⟨o, its, n, hk, hc, hs, hz, r⟩
  · obtain ⟨z, its, r, p⟩ := h.ok I.hok
    exact ⟨its, r, p, z⟩
  · refine ⟨its.toList, r, ⟨o, I.kIn a o hk, hc, n, by simpa using hs⟩, ?_⟩
    have e := r.length
    simp only [Array.length_toList] at e
    omega
theorem Inv.list_inj (I : Inv X pins σ H s) (h : SqL X.K H a xs) (h' : SqL X.K H a ys) : xs = ys := by
  obtain ⟨its, r, ⟨o, n, e, _, _, d⟩, _⟩ := I.list h
  obtain ⟨its', r', ⟨o', n', e', _, _, d'⟩, _⟩ := I.list h'
  rw [e] at e'; cases e'
  rw [d] at d'
  injection d' with d1 _
  have : its = its' := by simpa using congrArg Array.toList d1
  subst this
  exact r.inj r'
end

abbrev Cx.wish (X : Cx) (E : Value → Shared → Prop) : Cx := { X with xe := E }
abbrev Cx.nox (X : Cx) : Cx := X.wish fun _ _ => False
theorem Cx.Ok.wish {X : Cx} (ok : X.Ok) (E : Value → Shared → Prop) : (X.wish E).Ok :=
  ⟨ok.mod, ok.kind, ok.glob, ok.blt, ok.above, ok.inj, ok.has, ok.cab, ok.hd, ok.frames, ok.stk, ok.exf, ok.bs, ok.bsz, ok.noex, ok.exfs, ok.funs, ok.frf⟩
theorem Cx.Ok.unwish {X : Cx} {E : Value → Shared → Prop} (ok : (X.wish E).Ok) : X.Ok :=
  ⟨ok.mod, ok.kind, ok.glob, ok.blt, ok.above, ok.inj, ok.has, ok.cab, ok.hd, ok.frames, ok.stk, ok.exf, ok.bs, ok.bsz, ok.noex, ok.exfs, ok.funs, ok.frf⟩
section
variable {X : Cx} {pins : List (Addr × Obj)} {σ : St} {H : Hp} {s : Shared} {E : Value → Shared → Prop}
theorem Inv.wish (I : Inv X pins σ H s) (E : Value → Shared → Prop) : Inv (X.wish E) pins σ H s := ⟨I.ok.wish E, I.os, I.bare, I.base, I.loc, I.cell, I.free, I.freeC, I.pin, I.hok, I.len⟩
theorem Inv.unwish (I : Inv (X.wish E) pins σ H s) : Inv X pins σ H s := ⟨I.ok.unwish, I.os, I.bare, I.base, I.loc, I.cell, I.free, I.freeC, I.pin, I.hok, I.len⟩
theorem SP.unwish {D : Ends} {f : Flow} {s' : Shared} (h : SP (X.wish E) pins D f s') : SP X pins D f s' := by
  cases f with
  | next => obtain ⟨σ', H', I, q⟩ := h; exact ⟨σ', H', I.unwish, q⟩
  | brk => obtain ⟨σ', H', I, q⟩ := h; exact ⟨σ', H', I.unwish, q⟩
  | cont => obtain ⟨σ', H', I, q⟩ := h; exact ⟨σ', H', I.unwish, q⟩
  | ret u => obtain ⟨v, σ', H', I, r, q⟩ := h; exact ⟨v, σ', H', I.unwish, r, q⟩
theorem PE.nox {e : Expr} {t : TE} (h : PE X.nox e t) : PE X e t := fun pins s σ H Q I hw =>
  wpAny_mono (h pins s σ H Q (I.wish _) hw) (fun _ _ ⟨v, H', I', r, q⟩ => ⟨v, H', I'.unwish, r, q⟩) fun _ _ z => False.elim z
theorem PT.nox {e : Expr} {t : TT} (h : PT X.nox e t) : PT X e t := fun pins s σ H Q I hw =>
  wpAny_mono (h pins s σ H Q (I.wish _) hw) (fun _ _ ⟨H', I', q⟩ => ⟨H', I'.unwish, q⟩) fun _ _ z => False.elim z
theorem PSs.nox {st : List Stmt} {t : TS} (h : PSs X.nox st t) : PSs X st t := fun pins s σ H D I hw =>
  wpAny_mono (h pins s σ H D (I.wish _) hw) (fun _ _ q => q.unwish) fun _ _ z => False.elim z
end

section
variable {X : Cx} {st : Stmt} {rest : List Stmt} {t u : TS} {e : Expr} {te : TE} {pos : Pos}
def tNext : TS := fun D σ H => D.nx σ H
def tSeq (t u : TS) : TS := fun D σ H => t { D with nx := u D } σ H
theorem pss_nil : PSs X [] tNext := fun _ _ σ H _ I h => wpAny_execs_nil ⟨σ, H, I, h⟩
theorem pss_cons (h1 : PS X st t) (h2 : PSs X rest u) : PSs X (st :: rest) (tSeq t u) := by
  intro pins s σ H D I h
  refine wpAny_execs_cons (thn (h1 pins s σ H { D with nx := u D } I h) fun f s1 q => ?_)
  cases f with
  | next =>
    obtain ⟨σ', H', I', q⟩ := q
    exact h2 pins s1 σ' H' D I' q
  | ret v => exact q
  | brk => exact q
  | cont => exact q
theorem pss_one (h1 : PS X st t) : PSs X [st] t := by
  intro pins s σ H D I h
  refine wpAny_execs_cons (thn (h1 pins s σ H D I h) fun f s1 q => ?_)
  cases f with
  | next => exact wpAny_execs_nil q
  | ret v => exact q
  | brk => exact q
  | cont => exact q
def tCont : TS := fun D σ H => D.ct σ H
theorem ps_continue : PS X (.Continue pos) tCont := fun _ _ σ H _ I h => wpAny_Continue ⟨σ, H, I, h⟩
theorem Inv.quiet {pins : List (Addr × Obj)} {σ : St} {H : Hp} {s : Shared} (I : Inv X pins σ H s) : interactive X.env = false := by simp [interactive, I.ok.kind]
def tDrop (te : TE) : TS := fun D σ H => te σ H fun _ H1 => D.nx σ H1
theorem ps_expr (he : PE X e te) (hs : swapsWith e none pos.line X.env = pure false := by rfl) : PS X (.Expr e pos) (tDrop te) := by
  intro pins s σ H D I h
  exact wpAny_Expr_any (thn (he pins s σ H _ I h) fun v s1 ⟨x, H1, I1, r1, q1⟩ => ⟨σ, H1, I1, q1⟩) I.quiet hs
def tRet (te : TE) : TS := fun D σ H => te σ H D.rt
theorem ps_ret (he : PE X e te) : PS X (.Return (some e) pos) (tRet te) := by
  intro pins s σ H D I h
  exact wpAny_Return_some (thn (he pins s σ H _ I h) fun v s1 ⟨x, H1, I1, r1, q1⟩ => ⟨x, σ, H1, I1, r1, q1⟩)
def tIfS (c : TT) (t u : TS) : TS := fun D σ H => c σ H fun b H1 => if b = true then t D σ H1 else u D σ H1
theorem ps_if {c : Expr} {a b : List Stmt} {tc : TT} (hc : PT X c tc) (ha : PSs X a t) (hb : PSs X b u) : PS X (.If c a b pos) (tIfS tc t u) := by
  intro pins s σ H D I h
  refine wpAny_If (thn (hc pins s σ H _ I h) fun d s1 ⟨H1, I1, q1⟩ => ?_)
  cases d with
  | true => exact ha pins s1 σ H1 D I1 q1
  | false => exact hb pins s1 σ H1 D I1 q1
def tNever : TS := fun _ _ _ => False
theorem ps_never : PS X st tNever := fun _ _ _ _ _ _ h => h.elim
end

abbrev TG := V → St → Hp → (St → Hp → Prop) → Prop
abbrev TGs := List V → St → Hp → (St → Hp → Prop) → Prop
def PG (X : Cx) (target : Expr) (t : TG) : Prop :=
  ∀ (pins : List (Addr × Obj)) (s : Shared) (σ : St) (H : Hp) (v : V) (u : Value) (Q : St → Hp → Prop), Inv X pins σ H s → RelV v u → t v σ H Q →
    wpAny (model X.prog X.w) X.A (assign target X.env u) (fun _ s' => ∃ σ' H', Inv X pins σ' H' s' ∧ Q σ' H') X.xe s
def PGs (X : Cx) (ts : List Expr) (t : TGs) : Prop :=
  ∀ (pins : List (Addr × Obj)) (s : Shared) (σ : St) (H : Hp) (vs : List V) (us : List Value) (Q : St → Hp → Prop), Inv X pins σ H s → Vals vs us → t vs σ H Q →
    wpAny (model X.prog X.w) X.A (assignInOrder ((assignEach ts X.env).map (·.2)) us) (fun _ s' => ∃ σ' H', Inv X pins σ' H' s' ∧ Q σ' H') X.xe s
abbrev TSet := V → V → V → Hp → (Hp → Prop) → Prop
def PSet (X : Cx) (t : TSet) : Prop :=
  ∀ (pins : List (Addr × Obj)) (s : Shared) (σ : St) (H : Hp) (o i v : V) (ov iv u : Value) (Q : Hp → Prop), Inv X pins σ H s → RelV o ov → RelV i iv → RelV v u → t o i v H Q →
    wpAny (model X.prog X.w) X.A (setItem ov iv u) (fun _ s' => ∃ H', Inv X pins σ H' s' ∧ Q H') X.xe s
abbrev TIp := V → V → Hp → VK → Prop
def PIp (X : Cx) (op : Operator) (t : TIp) : Prop :=
  ∀ (pins : List (Addr × Obj)) (s : Shared) (σ : St) (H : Hp) (x y : V) (v u : Value) (Q : VK), Inv X pins σ H s → RelV x v → RelV y u → t x y H Q →
    wpAny (model X.prog X.w) X.A (inplaceOp op v u) (EP X pins σ Q) X.xe s
section
variable {X : Cx} {pos : Pos}
def gName (i : Nat) : TG := fun v σ H Q => Q (σ.set i (some v)) H
theorem pg_name {i : Nat} {x : Str} (hN : X.N.Nodup) (hi : X.N[i]? = some x) (hx : Loc X.env.scope x) (hf : X.fn x = true ∨ X.env.scope.names.lookup x = some .local := by first | exact .inl rfl | exact .inr rfl | assumption) : PG X (.Name x pos) (gName i) := by
  intro pins s σ H v u Q I r h
  exact wpAny_assign_Name (store_ok I hN hi hx r (fun s' I' => ⟨_, H, I', h⟩) hf)
def gNil : TGs := fun vs σ H Q => vs = [] ∧ Q σ H
def gCons (t : TG) (u : TGs) : TGs := fun vs σ H Q => ∃ v r, vs = v :: r ∧ t v σ H fun σ' H' => u r σ' H' Q
theorem pgs_nil : PGs X [] gNil := by
  intro pins s σ H vs us Q I r h
  obtain ⟨e, h⟩ := h
  subst e
  cases r
  exact assignInOrder_nil ⟨σ, H, I, h⟩
theorem pgs_cons {e : Expr} {es : List Expr} {t : TG} {u : TGs} (h1 : PG X e t) (h2 : PGs X es u)
    (hs : (assignEach (e :: es) X.env).map (·.2) = assign e X.env :: (assignEach es X.env).map (·.2) := by rfl) : PGs X (e :: es) (gCons t u) := by
  intro pins s σ H vs us Q I r h
  obtain ⟨v, vr, e1, h⟩ := h
  subst e1
  cases r with
  | cons r rr =>
    rw [hs]
    refine assignInOrder_cons (thn (h1 pins s σ H _ _ _ I r h) fun _ s1 ⟨σ1, H1, I1, q1⟩ => ?_)
    exact h2 pins s1 σ1 H1 _ _ Q I1 rr q1
def gTup (K : PySem.W.Frag) (n : Nat) (t : TGs) : TG := fun v σ H Q => ∃ a xs, v = .ref a ∧ SqT K H a xs ∧ xs.length = n ∧ t xs σ H Q
theorem pg_tup {es : List Expr} {k : Nat} {t : TGs} {n : Nat} (hc : X.calm = true) (h : PGs X es t)
    (hn : (assignEach es X.env).length = n := by rfl) (hst : (assignEach es X.env).findIdx? (·.1) = none := by rfl) : PG X (.Tuple es k pos) (gTup X.K n t) := by
  intro pins s σ H v u Q I r hw
  obtain ⟨a, xs, e1, hq, hl, hw⟩ := hw
  subst e1
  cases r
  obtain ⟨its, rv, ht, hz⟩ := I.tuple hq
  refine assign_Tuple_tuple (I.ok.hd hc) ht (by simp [hn, ← hl, rv.length]) hst fun h' hx => ?_
  have I1 : Inv X pins σ H { s with heap := h' } := I.kept (t' := s.toks) fun b o e => hx b o (Nat.ne_of_lt (Heap.lt_size e)) e
  exact h pins _ σ H xs _ Q I1 (by simpa using rv) hw
def gSub (to ti : TE) (t : TSet) : TG := fun v σ H Q => to σ H fun o H1 => ti σ H1 fun i H2 => t o i v H2 fun H3 => Q σ H3
theorem pg_sub {o i : Expr} {to ti : TE} {t : TSet} (ho : PE X o to) (hi : PE X i ti) (hs : PSet X t)
    (ha : ∀ v, assign (.Subscript o i pos) X.env v = (do
      let ov ← holding [v] (eval o X.env)
      let iv ← holding [v, ov] (eval i X.env)
      standAt pos
      holding [v, ov, iv] (setItem ov iv v)
      release [v, ov, iv] []) := by intro _; rfl) : PG X (.Subscript o i pos) (gSub to ti t) := by
  intro pins s σ H v u Q I r h
  rw [ha]
  refine wpAny_bind (wpAny_holding (thn (ho pins s σ H _ I h) fun ov s1 ⟨x, H1, I1, r1, q1⟩ => ?_))
  refine wpAny_bind (wpAny_holding (thn (hi pins s1 σ H1 _ I1 q1) fun iv s2 ⟨y, H2, I2, r2, q2⟩ => ?_))
  refine wpAny_bind (wpAny_standAt (wpAny_bind (wpAny_holding (thn (hs pins s2 σ H2 x y v ov iv u _ I2 r1 r2 r q2) fun _ s3 ⟨H3, I3, q3⟩ => ?_))))
  exact wpAny_release ⟨σ, H3, I3, q3⟩
def tAsg (te : TE) (g : TG) : TS := fun D σ H => te σ H fun x H1 => g x σ H1 D.nx
theorem ps_asg {tg e : Expr} {te : TE} {g : TG} (he : PE X e te) (hg : PG X tg g) (hs : swapsWithSole [tg] e pos.line X.env = pure false := by rfl) (hw : swappedStores [tg] e X.env = pure none := by rfl)
    (h1 : (assignEach [tg] X.env).map (·.2) = [assign tg X.env] := by rfl) : PS X (.Assign [tg] e pos) (tAsg te g) := by
  intro pins s σ H D I h
  refine wpAny_Assign_stores (thn (he pins s σ H _ I h) fun v s1 ⟨x, H1, I1, r1, q1⟩ => ?_) hs hw
  rw [h1]
  exact thn (hg pins s1 σ H1 x v _ I1 r1 q1) fun _ s2 q => q
theorem ps_set {i : Nat} {x : Str} {e : Expr} {te : TE} {pos' : Pos} (hN : X.N.Nodup) (hi : X.N[i]? = some x) (hx : Loc X.env.scope x) (he : PE X e te) (hs : swapsWith e (some (.Name x pos')) pos.line X.env = pure false := by rfl) (hf : X.fn x = true ∨ X.env.scope.names.lookup x = some .local := by first | exact .inl rfl | exact .inr rfl | assumption) :
    PS X (.Assign [.Name x pos'] e pos) (tAsg te (gName i)) := by
  intro pins s σ H D I h
  refine wpAny_Assign_Name (thn (he pins s σ H _ I h) fun v s1 ⟨y, H1, I1, r1, q1⟩ => ?_) hs
  exact store_ok I1 hN hi hx r1 (fun s2 I2 => ⟨_, H1, I2, q1⟩) hf
def tPar (i j : Nat) (ta : TA) : TS := fun D σ H => ta σ H fun vs H1 => ∃ v w, vs = [v, w] ∧ D.nx ((σ.set i (some v)).set j (some w)) H1
theorem ps_par {i j : Nat} {x y : Str} {a b : Expr} {ta : TA} {px py pt : Pos} {kt k2 pt2} (hc : X.calm = true) (hN : X.N.Nodup) (hi : X.N[i]? = some x) (hj : X.N[j]? = some y) (hij : i ≠ j)
    (hx : X.env.scope.names.lookup x = some .local) (hy : X.env.scope.names.lookup y = some .local) (ha : PA X [a, b] ta)
    (hw : swappedStores [.Tuple [.Name x px, .Name y py] kt pt] (.Tuple [a, b] k2 pt2) X.env = pure (some [x, y]))
    (hs : swapsWithSole [.Tuple [.Name x px, .Name y py] kt pt] (.Tuple [a, b] k2 pt2) pos.line X.env = pure false := by rfl) :
    PS X (.Assign [.Tuple [.Name x px, .Name y py] kt pt] (.Tuple [a, b] k2 pt2) pos) (tPar i j ta) := by
  intro pins s σ H D I h
  rw [exec_Assign_arm]
  refine wpAny_bind (wpAny_standAt ?_)
  rw [hs]
  refine wpAny_bind (wpAny_pure ?_)
  rw [if_neg (by decide)]
  refine wpAny_bind (Tuple_ (thn (ha _ pins s σ H _ I h) fun us s1 ⟨vs, H1, I1, r1, q1⟩ => ?_))
  obtain ⟨v, w, e1, q1⟩ := q1
  subst e1
  obtain ⟨u1, u2, rfl, rv, rw'⟩ : ∃ u1 u2, us = [u1, u2] ∧ RelV v u1 ∧ RelV w u2 := by
    cases r1 with
    | cons p q =>
      cases q with
      | cons p' q' =>
        cases q'
        exact ⟨_, _, rfl, p, p'⟩
  refine wpAny_newObj_type ?_ (by show 2 ≤ sizeLine; decide)
  have I2 : Inv X pins σ H1 { s1 with heap := s1.heap.push { cls := .type "tuple", data := .seq [u1, u2].toArray } } := I1.kept (t' := s1.toks) fun b o e => Heap.get?_push_of_some _ e
  rw [hw]
  refine wpAny_bind (wpAny_pure ?_)
  show wpAny (model X.prog X.w) X.A (do rule "assign.swapped-stores"; let items ← unpackItems (.ref s1.heap.objs.size) 2 none; assignInOrder [fun v => bindName X.env y v, fun v => bindName X.env x v] items.reverse; pure Flow.next) _ _ _
  refine wpAny_bind (wpAny_rule (wpAny_bind (unpackItems_tuple (items := #[u1, u2]) (I.ok.hd hc) (IsTup.new s1.heap _) fun h' hx' => ?_)))
  have I3 := I2.kept (h' := h') (t' := s1.toks) fun b o e => hx' b o (Nat.ne_of_lt (Heap.lt_size e)) e
  show wpAny _ _ (assignInOrder [fun v => bindName X.env y v, fun v => bindName X.env x v] [u2, u1] >>= fun _ => pure Flow.next) _ _ _
  refine wpAny_bind (assignInOrder_cons (wpAny_bindName (store_ok I3 hN hj (.inl hy) rw' (fun s2 I4 => ?_) (.inr hy))))
  refine assignInOrder_cons (wpAny_bindName (store_ok I4 hN hi (.inl hx) rv (fun s3 I5 => assignInOrder_nil (wpAny_pure ?_)) (.inr hx)))
  rw [List.set_comm _ _ (Ne.symm hij)] at I5
  exact ⟨_, H1, I5, q1⟩
def tAug (i : Nat) (te : TE) (ti : TIp) : TS := fun D σ H => ∃ x, σ[i]? = some (some x) ∧ te σ H fun y H1 => ti x y H1 fun z H2 => D.nx (σ.set i (some z)) H2
theorem ps_aug {i : Nat} {x : Str} {e : Expr} {te : TE} {op : Operator} {ti : TIp} {pos' : Pos} (hN : X.N.Nodup) (hi : X.N[i]? = some x) (hx : Loc X.env.scope x) (he : PE X e te) (ho : PIp X op ti) (hf : X.fn x = true ∨ X.env.scope.names.lookup x = some .local := by first | exact .inl rfl | exact .inr rfl | assumption) :
    PS X (.AugAssign (.Name x pos') op e pos) (tAug i te ti) := by
  intro pins s σ H D I h
  obtain ⟨v, e1, h⟩ := h
  obtain ⟨m, hn, hl⟩ := I.loc
  have vis : Vis X.env.scope x := by rcases hx with k | k; exact .inl k; exact .inr (.inl k)
  obtain ⟨u, r, l⟩ := hl i x v hi e1 vis
  refine wpAny_AugAssign_Name ?_
  have go : wpAny (model X.prog X.w) X.A (eval e X.env) (fun w s₂ => wpAny (model X.prog X.w) X.A (inplaceOp op u w) (fun r s₃ => wpAny (model X.prog X.w) X.A (storeName X.env x r) (fun _ => SP X pins D .next) X.xe s₃) X.xe s₂) X.xe s := by
    refine thn (he pins s σ H _ I h) fun w s1 ⟨y, H1, I1, r1, q1⟩ => ?_
    refine thn (ho pins s1 σ H1 v y u w _ I1 r r1 q1) fun z s2 ⟨zv, H2, I2, r2, q2⟩ => ?_
    exact store_ok I2 hN hi hx r2 (fun s3 I3 => ⟨_, H2, I3, q2⟩) hf
  rcases l with ⟨hk, hm⟩ | ⟨hk, c, hc, hcell⟩
  · exact wpAny_loadName_local I.ok.kind hk hn hm go
  · rcases hk with hk | hk
    · exact wpAny_loadName_cell I.ok.kind hk hc hcell go
    · rcases hx with k | k
      · have : X.env.scope.names.lookup x = some .free := hk
        rw [k] at this; cases this
      · have : X.env.scope.names.lookup x = some .free := hk
        rw [k] at this; cases this
def ipI (f : Int → Int → Int) : TIp := fun x y H Q => ∃ i j, x = .int i ∧ y = .int j ∧ Q (.int (f i j)) H
theorem ip_add : PIp X .Add (ipI fun i j => i + j) := by
  intro pins s σ H x y v u Q I r1 r2 h
  obtain ⟨i, j, e1, e2, q⟩ := h
  subst e1; subst e2
  obtain ⟨t, rfl⟩ := r1
  obtain ⟨t', rfl⟩ := r2
  exact iadd_int ⟨.int _, H, I.tok _, ⟨_, rfl⟩, q⟩
end

section
variable {X : Cx} {pos : Pos}
def tWhile (c : TT) (tb : TS) : TS := fun D σ H => ∃ W : Nat → St → Hp → Prop, (∃ m, W m σ H) ∧ ∀ m σ H, W m σ H →
  c σ H fun b H1 => if b = true then ∃ N : St → Hp → Prop, (∀ σ' H', N σ' H' → ∃ m', m' < m ∧ W m' σ' H') ∧ tb { D with nx := N, ct := N, bk := D.nx } σ H1 else D.nx σ H1
theorem ps_while {c : Expr} {body : List Stmt} {tc : TT} {tb : TS} (hp : PassesOwn (model X.prog X.w) X.A X.env X.xe) (hc : PT X c tc) (hb : PSs X body tb) : PS X (.While c body [] pos) (tWhile tc tb) := by
  intro pins s σ H D I h
  obtain ⟨W, ⟨m0, w0⟩, turn⟩ := h
  refine wpAny_While (codeAny_whileLoop (fun n s' => ∃ σ' H', Inv X pins σ' H' s' ∧ W n σ' H') ?_ m0 ⟨σ, H, I, w0⟩)
  rintro n s1 ⟨σ1, H1, I1, w1⟩
  refine wpAny_passesOwn hp (thn (hc pins s1 σ1 H1 _ I1 (turn n σ1 H1 w1)) fun b s2 ⟨H2, I2, q2⟩ => ?_)
  cases b with
  | true =>
    obtain ⟨N, hN, q2⟩ := q2
    rw [if_pos rfl]
    refine wpAny_passesOwn hp (thn (hb pins s2 σ1 H2 _ I2 q2) fun f s3 q3 => ?_)
    cases f with
    | next =>
      obtain ⟨σ3, H3, I3, n3⟩ := q3
      obtain ⟨m', hm, w3⟩ := hN σ3 H3 n3
      exact ⟨m', hm, σ3, H3, I3, w3⟩
    | cont =>
      obtain ⟨σ3, H3, I3, n3⟩ := q3
      obtain ⟨m', hm, w3⟩ := hN σ3 H3 n3
      exact ⟨m', hm, σ3, H3, I3, w3⟩
    | brk => exact q3
    | ret v => exact q3
  | false =>
    rw [if_neg Bool.false_ne_true]
    exact wpAny_execs_nil ⟨σ1, H2, I2, q2⟩
end

structure It where
  go : Nat → Hp → Prop
  yld : Nat → Hp → V → Hp → Prop
  stop : Nat → Hp → Prop
def FpOk (X : Cx) (pins : List (Addr × Obj)) (H : Hp) (b : Addr) : Prop :=
  H b = none ∧ b ≠ X.env.locals ∧ b ∉ X.fs ∧ (b ∈ X.ex ∨ X.s_0.heap.objs.size ≤ b) ∧ (∀ x c, X.env.cells.lookup x = some c → c ≠ b) ∧ ∀ p ∈ X.pn ++ pins, p.1 ≠ b
theorem Inv.fpOk {X : Cx} {pins : List (Addr × Obj)} {σ : St} {H H' : Hp} {s : Shared} {b : Addr} (I : Inv X pins σ H s) (hb : s.heap.objs.size ≤ b) (hn : H' b = none) : FpOk X pins H' b := by
  refine ⟨hn, Nat.ne_of_gt (Nat.lt_of_lt_of_le I.lt hb), I.nofs hb, .inr (Nat.le_trans I.sz hb), fun x c e z => ?_, fun p hp z => ?_⟩
  · obtain ⟨v, q⟩ := I.cell x c e
    exact absurd (Nat.lt_of_lt_of_le q.lt (by rw [z]; exact hb)) (Nat.lt_irrefl _)
  · exact absurd (Nat.lt_of_lt_of_le (Heap.lt_size (I.pin p hp).1) (by rw [z]; exact hb)) (Nat.lt_irrefl _)
structure Turn (P : Program) (w : World) (K : PySem.W.Frag) (tg : Expr) (J : It) (fp : List Addr) (it : Addr) (tn : Nat → Heap → Prop) : Prop where
  mem : it ∈ fp
  obj : ∀ i h, tn i h → ∀ b ∈ fp, ∃ o, h.get? b = some o ∧ ∀ v, o.data ≠ .cell v
  keep : ∀ i h h', tn i h → (∀ b ∈ fp, ∀ o, h.get? b = some o → h'.get? b = some o) → tn i h'
  item : ∀ (X : Cx), X.prog = P → X.w = w → X.K = K → X.calm = true → ∀ (i : Nat) (pins : List (Addr × Obj)) (s : Shared) (σ : St) (H : Hp) (E : Value → Shared → Prop), Inv X pins σ H s → (∀ b ∈ fp, FpOk X pins H b) → tn i s.heap → J.go i H →
    wpAny (model P w) X.A (pyNext (.ref it)) (fun r s1 => ∃ u, r = some u ∧
      wpAny (model P w) X.A (letOwnedTupleGo tg (.ref it) u) (fun _ s2 => ∃ x H', Inv X pins σ H' s2 ∧ RelV x u ∧ J.yld i H x H' ∧ tn (i + 1) s2.heap ∧ ∀ b ∈ fp, H' b = none) E s1) E s
  done : ∀ (X : Cx), X.prog = P → X.w = w → X.K = K → X.calm = true → ∀ (i : Nat) (pins : List (Addr × Obj)) (s : Shared) (σ : St) (H : Hp) (E : Value → Shared → Prop), Inv X pins σ H s → (∀ b ∈ fp, FpOk X pins H b) → tn i s.heap → J.stop i H →
    wpAny (model P w) X.A (pyNext (.ref it)) (fun r s1 => r = none ∧ Inv X pins σ H s1) E s
  self : ∀ (A : Around) (i : Nat) (s : Shared) (Q : Value → Shared → Prop) (E : Value → Shared → Prop), tn i s.heap → Q (.ref it) s → wpAny (model P w) A (pyIter (.ref it)) Q E s
abbrev TI := St → Hp → (It → Hp → Prop) → Prop
def PIE (X : Cx) (pins : List (Addr × Obj)) (σ : St) (tg : Expr) (R : It → Hp → Prop) (itv : Value) (s2 : Shared) : Prop :=
  ∃ (it : Addr) (fp : List Addr) (tn : Nat → Heap → Prop) (J : It) (H' : Hp), itv = .ref it ∧ Inv X pins σ H' s2 ∧ Turn X.prog X.w X.K tg J fp it tn ∧ tn 0 s2.heap ∧ (∀ b ∈ fp, FpOk X pins H' b) ∧ R J H'
def PI (X : Cx) (tg iter : Expr) (wi : TI) : Prop :=
  ∀ (pins : List (Addr × Obj)) (s : Shared) (σ : St) (H : Hp) (R : It → Hp → Prop), Inv X pins σ H s → wi σ H R →
    wpAny (model X.prog X.w) X.A (eval iter X.env) (fun v s1 => wpAny (model X.prog X.w) X.A (pyIter v) (PIE X pins σ tg R) X.xe s1) X.xe s

theorem go_of {M : Model} {A : Around} {E : Value → Shared → Prop} {s : Shared} {tg : Expr} {it : Addr} {u : Value} {o : Obj} {n : String} {vs : Array Value} {Q : Unit → Shared → Prop} (ho : s.heap.get? it = some o) (hc : o.cls = .type n) (hd : o.data = .fields vs)
    (hn : ["enumerate", "zip", "dict_itemiterator", "dict_reverseitemiterator", "odict_iterator", "itertools.zip_longest", "itertools.pairwise"].contains n = false) (hQ : Q () s) : wpAny M A (letOwnedTupleGo tg (.ref it) u) Q E s := by
  unfold letOwnedTupleGo
  cases tg <;> first
    | exact wpAny_pure hQ
    | (cases u <;> first
        | exact wpAny_pure hQ
        | (refine wpAny_bind (wpAny_load ho ?_)
           rw [hc, hd]
           show wpAny M A (if (["enumerate", "zip", "dict_itemiterator", "dict_reverseitemiterator", "odict_iterator", "itertools.zip_longest", "itertools.pairwise"].contains n && vs[0]? == some (rawInt _)) = true then _ else _) Q E s
           rw [if_neg (by intro h; rw [hn, Bool.false_and] at h; cases h)]
           exact wpAny_pure hQ))

def Itl (K : PySem.W.Frag) (a : Addr) : It :=
  ⟨fun i H => ∃ xs x, SqL K H a xs ∧ xs[i]? = some x, fun i H x H' => H' = H ∧ ∀ xs, SqL K H a xs → xs[i]? = some x, fun i H => ∃ xs, SqL K H a xs ∧ xs.length ≤ i⟩
def Itr (lo : Int) (n : Nat) : It := ⟨fun i _ => i < n, fun i H x H' => H' = H ∧ x = .int (lo + i), fun i _ => n ≤ i⟩
theorem turn_list {P : Program} {w : World} {K : PySem.W.Frag} {tg : Expr} (a it : Addr) : Turn P w K tg (Itl K a) [it] it (fun i h => h.IsListIter it a i) where
  mem := by simp
  obj := fun i h st b hb => by
    have e : b = it := by simpa using hb
    subst e
    obtain ⟨o, e, c, d⟩ := st
    exact ⟨o, e, fun v z => by rw [d] at z; cases z⟩
  keep := fun i h h' st k => st.at fun o e => k it (by simp) o e
  item := by
    intro X hP hw hK hc i pins s σ H E I hf st hg
    subst hP hw hK
    obtain ⟨xs, x, hq, hx⟩ := hg
    obtain ⟨its, rv, p, hz⟩ := I.list hq
    obtain ⟨u, hu, ru⟩ := rv.get hx
    obtain ⟨f0, f1, f2, f3, f4, f5⟩ := hf it (by simp)
    refine wpAny_pyNext_list_item st p.isList (x := u) (by simpa using hu) fun h' st' sb => ?_
    have I1 : Inv X pins σ H { s with heap := h' } := I.turned (t' := s.toks) (fun b o hb e => (sb.2 b hb).trans e) f0 f1 f3 f4 f5
    obtain ⟨o, e, c, d⟩ := id st'
    exact ⟨u, rfl, go_of (s := { s with heap := h' }) e c d (by decide) ⟨x, H, I1, ru, ⟨rfl, fun ys hy => by rw [I.list_inj hy hq]; exact hx⟩, st', fun b hb => (hf b hb).1⟩⟩
  done := by
    intro X hP hw hK hc i pins s σ H E I hf st hg
    subst hP hw hK
    obtain ⟨xs, hq, hx⟩ := hg
    obtain ⟨its, rv, p, hz⟩ := I.list hq
    obtain ⟨f0, f1, f2, f3, f4, f5⟩ := hf it (by simp)
    have hl := rv.length
    exact wpAny_pyNext_list_end (I.ok.hd hc) st p.isList (by simp; omega) fun h' eb => ⟨rfl, I.turned (t' := s.toks) (fun b o hb e => eb b o hb e) f0 f1 f3 f4 f5⟩
  self := fun _ _ _ _ _ st h => wpAny_pyIter_listiter st h
theorem turn_range {P : Program} {w : World} {K : PySem.W.Frag} {tg : Expr} (it : Addr) (lo : Int) (n : Nat) : Turn P w K tg (Itr lo n) [it] it (fun i h => IsRangeIter h it (lo + (i : Nat) * 1) ((n : Int) - (i : Nat)) 1) where
  mem := by simp
  obj := fun i h st b hb => by
    have e : b = it := by simpa using hb
    subst e
    exact ⟨_, st, fun v z => by
      have z' : Data.fields _ = Data.cell v := z
      cases z'⟩
  keep := fun i h h' st k => k it (by simp) _ st
  item := by
    intro X hP hw hK hc i pins s σ H E I hf st hg
    subst hP hw hK
    obtain ⟨f0, f1, f2, f3, f4, f5⟩ := hf it (by simp)
    have W := Walks.range (prog := X.prog) (w := X.w) (I.ok.hd hc) it lo 1 n
    refine W.item i s _ _ hg st fun v h' tk hv st' kk => ?_
    obtain ⟨t, rfl⟩ := hv
    have I1 : Inv X pins σ H { s with heap := h', toks := tk } := I.turned (fun b o hb e => kk b o (by simpa using hb) e) f0 f1 f3 f4 f5
    refine ⟨_, rfl, go_of (s := { s with heap := h', toks := tk }) (n := "range_iterator") st' rfl rfl (by decide) ⟨.int (lo + i), H, I1, ⟨t, ?_⟩, ⟨rfl, rfl⟩, st', fun b hb => (hf b hb).1⟩⟩
    rw [Int.mul_one]
  done := by
    intro X hP hw hK hc i pins s σ H E I hf st hg
    subst hP hw hK
    obtain ⟨f0, f1, f2, f3, f4, f5⟩ := hf it (by simp)
    exact wpAny_pyNext_range_end (I.ok.hd hc) st (by have : n ≤ i := hg; omega) fun h' eb => ⟨rfl, I.turned (t' := s.toks) (fun b o hb e => eb b o hb e) f0 f1 f3 f4 f5⟩
  self := fun _ _ _ _ _ st h => wpAny_pyIter_rangeiter st h
end L2

namespace L2
open PySem PySem.Spec PyProof.Rows
section
variable {X : Cx} {tg : Expr}
def iList (K : PySem.W.Frag) (tl : TE) : TI := fun σ H R => tl σ H fun x H1 => ∃ a, x = .ref a ∧ (∃ xs, SqL K H1 a xs) ∧ R (Itl K a) H1
theorem pi_list {l : Expr} {tl : TE} (hl : PE X l tl) : PI X tg l (iList X.K tl) := by
  intro pins s σ H R I h
  refine thn (hl pins s σ H _ I h) fun v s1 ⟨x, H1, I1, r1, q1⟩ => ?_
  obtain ⟨a, e, ⟨xs, hq⟩, q⟩ := q1
  subst e
  cases r1
  obtain ⟨its, rv, p, hz⟩ := I1.list hq
  refine wpAny_pyIter_list p.isList ?_
  refine ⟨s1.heap.objs.size, [s1.heap.objs.size], _, _, H1, rfl, I1.kept (t' := s1.toks) fun b o e => Heap.get?_push_of_some _ e, turn_list a _, ⟨_, Heap.get?_push_size _ rfl, rfl, rfl⟩, fun b hb => ?_, q⟩
  have e : b = s1.heap.objs.size := by simpa using hb
  subst e
  exact I1.fpOk (Nat.le_refl _) (I1.hok.fresh (Nat.le_refl _))
theorem range_it {pins : List (Addr × Obj)} {σ : St} {H : Hp} {s : Shared} {R : It → Hp → Prop} {E : Value → Shared → Prop} {lo hi : Int} {t u v : Tok} {tk : Nat} (I : Inv X pins σ H s) (h1 : -(2 ^ 62) ≤ lo) (h2 : lo < 2 ^ 62) (h3 : -(2 ^ 62) ≤ hi) (h4 : hi < 2 ^ 62)
    (q : R (Itr lo (hi - lo).toNat) H) : wpAny (model X.prog X.w) X.A (pyIter (.ref s.heap.objs.size)) (PIE X pins σ tg R) E { s with heap := s.heap.push { cls := .type "range", data := .fields #[.int lo t, .int hi u, .int 1 v] }, toks := tk } := by
  refine wpAny_pyIter_range (IsRange.new ..) (small_one h1 h2 h3 h4) ?_
  have I1 : Inv X pins σ H { s with heap := s.heap.push { cls := .type "range", data := .fields #[.int lo t, .int hi u, .int 1 v] }, toks := tk } := I.kept fun b o e => Heap.get?_push_of_some _ e
  refine ⟨(s.heap.push { cls := .type "range", data := .fields #[.int lo t, .int hi u, .int 1 v] }).objs.size, [(s.heap.push { cls := .type "range", data := .fields #[.int lo t, .int hi u, .int 1 v] }).objs.size], _, _, H, rfl,
    I1.kept (t' := tk) fun b o e => Heap.get?_push_of_some _ e, turn_range _ lo (hi - lo).toNat, ?_, fun b hb => ?_, q⟩
  · have e1 : lo + ((0 : Nat) : Int) * 1 = lo := by simp
    have e2 : (((hi - lo).toNat : Nat) : Int) - ((0 : Nat) : Int) = Builtin.Range.rangeSize lo hi 1 := by rw [rangeSize_one]; split <;> omega
    show IsRangeIter _ _ (lo + ((0 : Nat) : Int) * 1) ((((hi - lo).toNat : Nat) : Int) - ((0 : Nat) : Int)) 1
    rw [e1, e2]
    exact Heap.get?_push_size _ rfl
  · have e : b = (s.heap.push { cls := .type "range", data := .fields #[.int lo t, .int hi u, .int 1 v] }).objs.size := by simpa using hb
    subst e
    exact I1.fpOk (Nat.le_refl _) (I1.hok.fresh (Nat.le_refl _))
def iRng1 (ta : TA) : TI := fun σ H R => ta σ H fun vs H1 => ∃ j : Int, vs = [.int j] ∧ -(2 ^ 62) ≤ j ∧ j < 2 ^ 62 ∧ R (Itr 0 j.toNat) H1
def iRng2 (ta : TA) : TI := fun σ H R => ta σ H fun vs H1 => ∃ i j : Int, vs = [.int i, .int j] ∧ (-(2 ^ 62) ≤ i ∧ i < 2 ^ 62 ∧ -(2 ^ 62) ≤ j ∧ j < 2 ^ 62) ∧ R (Itr i (j - i).toNat) H1
theorem pi_range1 {a : Expr} {ta : TA} {p pos : Pos} (hg : Gl X "range") (hm : X.mg "range" = none) (ha : PA X [a] ta) (hs : starEach [a] X.env = [(false, eval a X.env)] := by rfl) : PI X tg (.Call (.Name "range" p) [a] [] pos) (iRng1 ta) := by
  intro pins s σ H R I h
  refine Call_ (ld_blt I hg hm boot_range (PyProof.Rows.callWith_type1 (thn (ha pos pins s σ H _ I h) fun us s1 ⟨vs, H1, I1, r1, q1⟩ => ?_) hs rfl))
  obtain ⟨j, e, q1, q2, q⟩ := q1
  subst e
  cases r1 with
  | cons r rr =>
    cases rr
    obtain ⟨t, rfl⟩ := r
    exact call_range_1 (range_it I1 (by omega) (by omega) q1 q2 (by simpa using q))
theorem pi_range2 {a b : Expr} {ta : TA} {p pos : Pos} (hg : Gl X "range") (hm : X.mg "range" = none) (ha : PA X [a, b] ta) (hs : starEach [a, b] X.env = [(false, eval a X.env), (false, eval b X.env)] := by rfl) (hs2 : starEach [b] X.env = [(false, eval b X.env)] := by rfl) :
    PI X tg (.Call (.Name "range" p) [a, b] [] pos) (iRng2 ta) := by
  intro pins s σ H R I h
  refine Call_ (ld_blt I hg hm boot_range (PyProof.Rows.callWith_type1 (thn (ha pos pins s σ H _ I h) fun us s1 ⟨vs, H1, I1, r1, q1⟩ => ?_) (by rw [hs, hs2]) (by rw [hs2]; rfl)))
  obtain ⟨i, j, e, ⟨q1, q2, q3, q4⟩, q⟩ := q1
  subst e
  cases r1 with
  | cons r rr =>
    cases rr with
    | cons r' rr =>
      cases rr
      obtain ⟨t, rfl⟩ := r
      obtain ⟨t', rfl⟩ := r'
      exact call_range_2 (range_it I1 q1 q2 q3 q4 q)

def tFor (wi : TI) (g : TG) (tb : TS) : TS := fun D σ H => wi σ H fun J H1 => ∃ W : Nat → Nat → St → Hp → Prop, (∃ m, W 0 m σ H1) ∧ ∀ i m σ H, W i m σ H →
  (J.stop i H ∧ D.nx σ H) ∨ (J.go i H ∧ ∃ N : St → Hp → Prop, (∀ σ' H', N σ' H' → ∃ m', m' < m ∧ W (i + 1) m' σ' H') ∧ ∀ x H', J.yld i H x H' → g x σ H' fun σ2 H2 => tb { D with nx := N, ct := N, bk := D.nx } σ2 H2)
def pinsAt (fp : List Addr) (h : Heap) : List (Addr × Obj) := fp.filterMap fun b => (h.get? b).map fun o => (b, o)
theorem mem_pinsAt {fp : List Addr} {h : Heap} {b : Addr} {o : Obj} (hb : b ∈ fp) (e : h.get? b = some o) : (b, o) ∈ pinsAt fp h := List.mem_filterMap.mpr ⟨b, hb, by rw [e]; rfl⟩
theorem of_pinsAt {fp : List Addr} {h : Heap} {p : Addr × Obj} (hp : p ∈ pinsAt fp h) : p.1 ∈ fp ∧ h.get? p.1 = some p.2 := by
  obtain ⟨b, hb, e⟩ := List.mem_filterMap.mp hp
  cases q : h.get? b with
  | none => rw [q] at e; cases e
  | some o =>
    rw [q] at e
    have e' : (b, o) = p := Option.some.inj e
    subst e'
    exact ⟨hb, q⟩
theorem Inv.pinned {pins : List (Addr × Obj)} {σ : St} {H : Hp} {s : Shared} {fp : List Addr} (I : Inv X pins σ H s) (hf : ∀ b ∈ fp, FpOk X pins H b) (ho : ∀ b ∈ fp, ∃ o, s.heap.get? b = some o ∧ ∀ v, o.data ≠ .cell v) : Inv X (pins ++ pinsAt fp s.heap) σ H s :=
  I.pins_of fun p hp => (List.mem_append.mp hp).elim (fun z => I.pin p (List.mem_append_right _ z)) fun z => by
    obtain ⟨hb, e⟩ := of_pinsAt z
    obtain ⟨f0, f1, f2, _⟩ := hf p.1 hb
    obtain ⟨o, e', d⟩ := ho p.1 hb
    rw [e] at e'; cases e'
    exact ⟨e, f0, f1, f2, d⟩
theorem Inv.unpinned {pins pl : List (Addr × Obj)} {σ : St} {H : Hp} {s : Shared} (I : Inv X (pins ++ pl) σ H s) : Inv X pins σ H s := I.pins_of fun p hp => I.pin p (List.mem_append_right _ (List.mem_append_left _ hp))
theorem ps_for {iter : Expr} {body : List Stmt} {wi : TI} {g : TG} {tb : TS} {pos : Pos} (hp : PassesOwn (model X.prog X.w) X.A X.env X.xe) (hc : X.calm = true) (hi : PI X tg iter wi) (hg : PG X tg g) (hb : PSs X body tb)
    (hs : ∀ x, foldedSetIterable iter X.env x = pure x := by intro _; rfl) : PS X (.For tg iter body [] pos) (tFor wi g tb) := by
  intro pins s σ H D I h
  refine wpAny_For (thn (hi pins s σ H _ I h) fun v s1 h1 => thn h1 fun itv s2 h2 => ?_) hs
  obtain ⟨it, fp, tn, J, H2, e, I2, T, st2, f2, W, ⟨m0, w0⟩, turn⟩ := h2
  subst e
  have stat : ∀ {H' : Hp}, (∀ b ∈ fp, H' b = none) → ∀ b ∈ fp, FpOk X pins H' b := fun hn b hb => ⟨hn b hb, (f2 b hb).2⟩
  refine codeAny_forLoop_any (fun n s' => ∃ i σ' H', Inv X pins σ' H' s' ∧ tn i s'.heap ∧ (∀ b ∈ fp, H' b = none) ∧ W i n σ' H') ?_ m0 ⟨0, σ, H2, I2, st2, fun b hb => (f2 b hb).1, w0⟩
  rintro n s3 ⟨i, σ3, H3, I3, st3, fr3, w3⟩
  rcases turn i n σ3 H3 w3 with ⟨stop, qn⟩ | ⟨go, N, hN, step⟩
  · refine wpAny_passesOwn hp (thn (T.done X rfl rfl rfl hc i pins s3 σ3 H3 X.xe I3 (stat fr3) st3 stop) fun r s4 ⟨hr, I4⟩ => ?_)
    subst hr
    exact wpAny_execs_nil ⟨σ3, H3, I4, qn⟩
  · refine wpAny_passesOwn hp (thn (T.item X rfl rfl rfl hc i pins s3 σ3 H3 X.xe I3 (stat fr3) st3 go) fun r s4 ⟨u, hr, h4⟩ => ?_)
    subst hr
    refine wpAny_passesOwn hp (thn h4 fun _ s5 ⟨x, H5, I5, r5, y5, st5, fr5⟩ => ?_)
    have I5' := I5.pinned (stat fr5) (T.obj _ _ st5)
    refine wpAny_passesOwn hp (thn (hg _ s5 σ3 H5 x u _ I5' r5 (step x H5 y5)) fun _ s6 ⟨σ6, H6, I6, q6⟩ => ?_)
    refine wpAny_passesOwn hp (thn (hb _ s6 σ6 H6 _ I6 q6) fun f s7 q7 => ?_)
    have again : ∀ {σ7 : St} {H7 : Hp}, Inv X (pins ++ pinsAt fp s5.heap) σ7 H7 s7 → N σ7 H7 → ∃ m, m < n ∧ ∃ i σ' H', Inv X pins σ' H' s7 ∧ tn i s7.heap ∧ (∀ b ∈ fp, H' b = none) ∧ W i m σ' H' := fun {σ7 H7} I7 n7 => by
      obtain ⟨m', hm, w7⟩ := hN σ7 H7 n7
      refine ⟨m', hm, i + 1, σ7, H7, I7.unpinned, T.keep _ _ _ st5 fun b hb o e => (I7.pin (b, o) (List.mem_append_right _ (List.mem_append_right _ (mem_pinsAt hb e)))).1, fun b hb => ?_, w7⟩
      obtain ⟨o, e, d⟩ := T.obj _ _ st5 b hb
      exact (I7.pin (b, o) (List.mem_append_right _ (List.mem_append_right _ (mem_pinsAt hb e)))).2.1
    cases f with
    | next => obtain ⟨σ7, H7, I7, n7⟩ := q7; exact again I7 n7
    | cont => obtain ⟨σ7, H7, I7, n7⟩ := q7; exact again I7 n7
    | brk => obtain ⟨σ7, H7, I7, q7⟩ := q7; exact ⟨σ7, H7, I7.unpinned, q7⟩
    | ret v => obtain ⟨x7, σ7, H7, I7, r7, q7⟩ := q7; exact ⟨x7, σ7, H7, I7.unpinned, r7, q7⟩
end

theorem for_list {K : PySem.W.Frag} {a : Addr} {xs : List V} {g : TG} {tb : TS} {D : Ends} {σ : St} {H : Hp} (Pv : Nat → St → Hp → Prop) (h0 : Pv 0 σ H) (hl : ∀ i σ H, i ≤ xs.length → Pv i σ H → SqL K H a xs)
    (hs : ∀ i x σ H, xs[i]? = some x → Pv i σ H → g x σ H fun σ2 H2 => tb { D with nx := Pv (i + 1), ct := Pv (i + 1), bk := D.nx } σ2 H2) (hd : ∀ σ H, Pv xs.length σ H → D.nx σ H) :
    ∃ W : Nat → Nat → St → Hp → Prop, (∃ m, W 0 m σ H) ∧ ∀ i m σ H, W i m σ H →
      ((Itl K a).stop i H ∧ D.nx σ H) ∨ ((Itl K a).go i H ∧ ∃ N : St → Hp → Prop, (∀ σ' H', N σ' H' → ∃ m', m' < m ∧ W (i + 1) m' σ' H') ∧ ∀ x H', (Itl K a).yld i H x H' → g x σ H' fun σ2 H2 => tb { D with nx := N, ct := N, bk := D.nx } σ2 H2) := by
  refine ⟨fun i m σ H => m = xs.length - i ∧ i ≤ xs.length ∧ Pv i σ H, ⟨xs.length, by simp, Nat.zero_le _, h0⟩, ?_⟩
  rintro i m σ H ⟨rfl, hi, p⟩
  have q := hl i σ H hi p
  by_cases hlt : i < xs.length
  · refine .inr ⟨⟨xs, xs[i], q, by simp [hlt]⟩, Pv (i + 1), fun σ' H' p' => ⟨xs.length - (i + 1), by omega, rfl, hlt, p'⟩, fun x H' y => ?_⟩
    obtain ⟨e, y⟩ := y
    subst e
    exact hs i x σ _ (y xs q) p
  · have e : i = xs.length := by omega
    subst e
    exact .inl ⟨⟨xs, q, Nat.le_refl _⟩, hd σ H p⟩
theorem for_range {lo : Int} {n : Nat} {g : TG} {tb : TS} {D : Ends} {σ : St} {H : Hp} (Pv : Nat → St → Hp → Prop) (h0 : Pv 0 σ H)
    (hs : ∀ i σ H, i < n → Pv i σ H → g (.int (lo + i)) σ H fun σ2 H2 => tb { D with nx := Pv (i + 1), ct := Pv (i + 1), bk := D.nx } σ2 H2) (hd : ∀ σ H, Pv n σ H → D.nx σ H) :
    ∃ W : Nat → Nat → St → Hp → Prop, (∃ m, W 0 m σ H) ∧ ∀ i m σ H, W i m σ H →
      ((Itr lo n).stop i H ∧ D.nx σ H) ∨ ((Itr lo n).go i H ∧ ∃ N : St → Hp → Prop, (∀ σ' H', N σ' H' → ∃ m', m' < m ∧ W (i + 1) m' σ' H') ∧ ∀ x H', (Itr lo n).yld i H x H' → g x σ H' fun σ2 H2 => tb { D with nx := N, ct := N, bk := D.nx } σ2 H2) := by
  refine ⟨fun i m σ H => m = n - i ∧ i ≤ n ∧ Pv i σ H, ⟨n, by simp, Nat.zero_le _, h0⟩, ?_⟩
  rintro i m σ H ⟨rfl, hi, p⟩
  by_cases hlt : i < n
  · refine .inr ⟨hlt, Pv (i + 1), fun σ' H' p' => ⟨n - (i + 1), by omega, rfl, hlt, p'⟩, fun x H' y => ?_⟩
    obtain ⟨e, y⟩ := y
    subst e y
    exact hs i σ _ hlt p
  · have e : i = n := by omega
    subst e
    exact .inl ⟨Nat.le_refl _, hd σ H p⟩
theorem while_by {c : TT} {tb : TS} {D : Ends} {σ : St} {H : Hp} (Pv : St → Hp → Prop) (μ : St → Hp → Nat) (h0 : Pv σ H)
    (hs : ∀ σ H, Pv σ H → c σ H fun b H1 => if b = true then tb { D with nx := fun σ' H' => Pv σ' H' ∧ μ σ' H' < μ σ H, ct := fun σ' H' => Pv σ' H' ∧ μ σ' H' < μ σ H, bk := D.nx } σ H1 else D.nx σ H1)
    (mono : ∀ σ H Q Q', (∀ b H1, Q b H1 → Q' b H1) → c σ H Q → c σ H Q') : tWhile c tb D σ H := by
  refine ⟨fun m σ H => m = μ σ H ∧ Pv σ H, ⟨_, rfl, h0⟩, ?_⟩
  rintro m σ H ⟨rfl, p⟩
  refine mono σ H _ _ (fun b H1 q => ?_) (hs σ H p)
  cases b with
  | true => exact ⟨_, fun σ' H' ⟨p', l⟩ => ⟨_, l, rfl, p'⟩, q⟩
  | false => exact q
end L2

namespace L2
open PySem PySem.Spec PyProof.Rows

abbrev R2 := V → V → Hp → VK → Prop
def OpR (X : Cx) (f : Value → Value → Sem Value) (r : R2) : Prop :=
  ∀ (pins : List (Addr × Obj)) (s : Shared) (σ : St) (H : Hp) (x y : V) (v u : Value) (Q : VK), Inv X pins σ H s → RelV x v → RelV y u → r x y H Q →
    wpAny (model X.prog X.w) X.A (f v u) (EP X pins σ Q) X.xe s
def CallR (X : Cx) (f : Value) (r : List V → Hp → VK → Prop) : Prop :=
  ∀ (pins : List (Addr × Obj)) (s : Shared) (σ : St) (H : Hp) (xs : List V) (us : List Value) (Q : VK), Inv X pins σ H s → Vals xs us → r xs H Q →
    wpAny (model X.prog X.w) X.A (call f us) (EP X pins σ Q) X.xe s
def TruR (X : Cx) (r : V → Hp → (Bool → Hp → Prop) → Prop) : Prop :=
  ∀ (pins : List (Addr × Obj)) (s : Shared) (σ : St) (H : Hp) (x : V) (v : Value) (Q : Bool → Hp → Prop), Inv X pins σ H s → RelV x v → r x H Q →
    wpAny (model X.prog X.w) X.A (truthy v) (TP X pins σ Q) X.xe s

def tOp (r : R2) (ta tb : TE) : TE := fun σ H Q => ta σ H fun x H1 => tb σ H1 fun y H2 => r x y H2 Q
def rI (C : Int → Int → Prop) (g : Int → Int → V) : R2 := fun x y H Q => ∃ i j, x = .int i ∧ y = .int j ∧ C i j ∧ Q (g i j) H
def rI0 (g : Int → Int → V) : R2 := fun x y H Q => ∃ i j, x = .int i ∧ y = .int j ∧ Q (g i j) H
section
variable {X : Cx} {a b c : Expr} {ta tb tc : TE} {pos : Pos}

theorem binT (ha : PE X a ta) (hb : PE X b tb) {pins : List (Addr × Obj)} {s : Shared} {σ : St} {H : Hp} {R : V → V → Hp → Prop} (I : Inv X pins σ H s)
    (h : ta σ H fun x H1 => tb σ H1 fun y H2 => R x y H2) {Q : Value → Shared → Prop} {f : Value → Value → Sem Value}
    (hf : ∀ v u s2 x y H2, Inv X pins σ H2 s2 → RelV x v → RelV y u → R x y H2 → wpAny (model X.prog X.w) X.A (f v u) Q X.xe s2) :
    wpAny (model X.prog X.w) X.A (eval a X.env) (fun v s₁ => wpAny (model X.prog X.w) X.A (eval b X.env) (fun u s₂ => wpAny (model X.prog X.w) X.A (f v u) Q X.xe s₂) X.xe s₁) X.xe s := by
  refine thn (ha pins s σ H _ I h) fun v s1 ⟨x, H1, I1, r1, q1⟩ => ?_
  refine thn (hb pins s1 σ H1 _ I1 q1) fun u s2 ⟨y, H2, I2, r2, q2⟩ => ?_
  exact hf v u s2 x y H2 I2 r1 r2 q2

theorem pe_op {op : Operator} {r : R2} (ho : OpR X (binaryOp op) r) (ha : PE X a ta) (hb : PE X b tb) : PE X (.BinOp a op b pos) (tOp r ta tb) := by
  intro pins s σ H Q I h
  exact wpAny_BinOp (binT ha hb I h fun v u s2 x y H2 I2 rx ry q => ho pins s2 σ H2 x y v u Q I2 rx ry q)
theorem opI {f : Value → Value → Sem Value} {C : Int → Int → Prop} {g : Int → Int → Int}
    (rule : ∀ (i j : Int) (t u : Tok) (s : Shared) (Q : Value → Shared → Prop) (E : Value → Shared → Prop), C i j → Q (.int (g i j) s.toks) { s with toks := s.toks + 1 } → wpAny (model X.prog X.w) X.A (f (.int i t) (.int j u)) Q E s) :
    OpR X f (rI C fun i j => .int (g i j)) := by
  intro pins s σ H x y v u Q I rx ry h
  obtain ⟨i, j, rfl, rfl, hc, q⟩ := h
  obtain ⟨t, rfl⟩ := rx
  obtain ⟨t', rfl⟩ := ry
  exact rule i j t t' s _ _ hc ⟨.int (g i j), H, I.tok _, ⟨_, rfl⟩, q⟩
theorem opI0 {f : Value → Value → Sem Value} {g : Int → Int → Int}
    (rule : ∀ (i j : Int) (t u : Tok) (s : Shared) (Q : Value → Shared → Prop) (E : Value → Shared → Prop), Q (.int (g i j) s.toks) { s with toks := s.toks + 1 } → wpAny (model X.prog X.w) X.A (f (.int i t) (.int j u)) Q E s) :
    OpR X f (rI0 fun i j => .int (g i j)) := by
  intro pins s σ H x y v u Q I rx ry h
  obtain ⟨i, j, rfl, rfl, q⟩ := h
  obtain ⟨t, rfl⟩ := rx
  obtain ⟨t', rfl⟩ := ry
  exact rule i j t t' s _ _ ⟨.int (g i j), H, I.tok _, ⟨_, rfl⟩, q⟩
theorem opB0 {f : Value → Value → Sem Value} {g : Int → Int → Bool}
    (rule : ∀ (i j : Int) (t u : Tok) (s : Shared) (Q : Value → Shared → Prop) (E : Value → Shared → Prop), Q (.bool (g i j)) s → wpAny (model X.prog X.w) X.A (f (.int i t) (.int j u)) Q E s) :
    OpR X f (rI0 fun i j => .bl (g i j)) := by
  intro pins s σ H x y v u Q I rx ry h
  obtain ⟨i, j, rfl, rfl, q⟩ := h
  obtain ⟨t, rfl⟩ := rx
  obtain ⟨t', rfl⟩ := ry
  exact rule i j t t' s _ _ ⟨.bl (g i j), H, I, rfl, q⟩

def CDiv (i j : Int) : Prop := 0 < j ∧ j < 1073741824
def CPow (i j : Int) : Prop := 0 ≤ j ∧ j ≤ 1000000 ∧ i.natAbs < 2 ^ 64
def CMul (i j : Int) : Prop := (-(2 ^ 64) < i ∧ i < 2 ^ 64) ∨ (-(2 ^ 64) < j ∧ j < 2 ^ 64)
theorem CMul.ok {i j : Int} (h : CMul i j) : IntMulOk i j := by
  rcases h with ⟨h1, h2⟩ | ⟨h1, h2⟩
  · exact .of_left (intBits_le_64 h1 h2)
  · exact .of_right (intBits_le_64 h1 h2)
theorem op_add : OpR X (binaryOp .Add) (rI0 fun i j => .int (i + j)) := opI0 fun _ _ _ _ _ _ _ q => add_int q
theorem op_sub : OpR X (binaryOp .Sub) (rI0 fun i j => .int (i - j)) := opI0 fun _ _ _ _ _ _ _ q => sub_int q
theorem op_fdiv : OpR X (binaryOp .FloorDiv) (rI CDiv fun i j => .int (i / j)) := opI fun i j _ _ _ _ _ hc q => by
  have h1 : (0 : Int) < j := hc.1
  have h2 : j < 1073741824 := hc.2
  exact floordiv_int (by omega) (by rw [Int.fdiv_eq_ediv_of_nonneg i (by omega)]; exact q) (.inl (PyProof.noPylong_small (by omega)))
theorem op_mod : OpR X (binaryOp .Mod) (rI (fun _ j => 0 < j) fun i j => .int (i % j)) := opI fun i j _ _ _ _ _ hc q => by
  have h1 : (0 : Int) < j := hc
  exact mod_int' (by omega) (by rw [Int.fmod_eq_emod_of_nonneg i (by omega)]; exact q)
theorem op_pow : OpR X (binaryOp .Pow) (rI CPow fun i j => .int (i ^ j.toNat)) := opI fun _ _ _ _ _ _ _ hc q => pow_int_small hc.1 hc.2.1 hc.2.2 q
end

def scal : V → V → Bool
  | .non, .non => true | .non, .int _ => true | .int _, .non => true | .non, .bl _ => true | .bl _, .non => true | .non, .str _ => true | .str _, .non => true
  | .int _, .int _ => true | .bl _, .bl _ => true | .str _, .str _ => true | .byt _, .byt _ => true
  | .int _, .str _ => true | .str _, .int _ => true | .bl _, .str _ => true | .str _, .bl _ => true
  | _, _ => false
def rEq : R2 := fun x y H Q => scal x y = true ∧ Q (.bl (decide (x = y))) H
def rNe : R2 := fun x y H Q => scal x y = true ∧ Q (.bl (!decide (x = y))) H

theorem dec_int {i j : Int} : decide (V.int i = V.int j) = (i == j) := by
  rw [Bool.eq_iff_iff]
  simp
theorem dec_bl {i j : Bool} : decide (V.bl i = V.bl j) = (i == j) := by
  rw [Bool.eq_iff_iff]
  simp
theorem dec_str {i j : Str} : decide (V.str i = V.str j) = (i == j) := by
  rw [Bool.eq_iff_iff]
  simp
theorem dec_byt {i j : Array UInt8} : decide (V.byt i = V.byt j) = (i.toList == j.toList) := by
  rw [Bool.eq_iff_iff]
  cases i
  cases j
  simp

section
variable {X : Cx} {a b c : Expr} {ta tb tc : TE} {pos : Pos}
theorem fin_bl {pins : List (Addr × Obj)} {σ : St} {H : Hp} {s : Shared} {Q : VK} {k k' : Bool} (I : Inv X pins σ H s) (q : Q (.bl k) H) (e : k = k') : EP X pins σ Q (.bool k') s := by
  subst e
  exact ⟨.bl k, H, I, rfl, q⟩
theorem op_eq : OpR X (compareOp .Eq) rEq := by
  intro pins s σ H x y v u Q I rx ry h
  obtain ⟨hs, q⟩ := h
  cases x with
  | non =>
    cases rx
    cases y with
    | non => cases ry; exact PySem.EqNone.eq_none_none (fin_bl I q (by simp))
    | bl j => cases ry; exact PySem.EqNone.eq_none_bool (fin_bl I q (by simp))
    | int j => obtain ⟨t', rfl⟩ := ry; exact PySem.EqNone.eq_none_int (fin_bl I q (by simp))
    | str j => obtain ⟨t', rfl⟩ := ry; exact PySem.EqNone.eq_none_str (fin_bl I q (by simp))
    | _ => exact absurd (show false = true from hs) Bool.false_ne_true
  | bl i =>
    cases rx
    cases y with
    | non => cases ry; exact PySem.EqNone.eq_bool_none (fin_bl I q (by simp))
    | bl j => cases ry; exact eq_bool (fin_bl I q dec_bl)
    | str j => obtain ⟨t', rfl⟩ := ry; exact PySem.EqMixed.eq_bool_str (fin_bl I q (by simp))
    | _ => exact absurd (show false = true from hs) Bool.false_ne_true
  | int i =>
    obtain ⟨t, rfl⟩ := rx
    cases y with
    | non => cases ry; exact PySem.EqNone.eq_int_none (fin_bl I q (by simp))
    | int j => obtain ⟨t', rfl⟩ := ry; exact eq_int (fin_bl I q dec_int)
    | str j => obtain ⟨t', rfl⟩ := ry; exact PySem.EqMixed.eq_int_str (fin_bl I q (by simp))
    | _ => exact absurd (show false = true from hs) Bool.false_ne_true
  | str i =>
    obtain ⟨t, rfl⟩ := rx
    cases y with
    | non => cases ry; exact PySem.EqNone.eq_str_none (fin_bl I q (by simp))
    | bl j => cases ry; exact PySem.EqMixed.eq_str_bool (fin_bl I q (by simp))
    | int j => obtain ⟨t', rfl⟩ := ry; exact PySem.EqMixed.eq_str_int (fin_bl I q (by simp))
    | str j => obtain ⟨t', rfl⟩ := ry; exact eq_str (fin_bl I q dec_str)
    | _ => exact absurd (show false = true from hs) Bool.false_ne_true
  | byt i =>
    obtain ⟨t, rfl⟩ := rx
    cases y with
    | byt j => obtain ⟨t', rfl⟩ := ry; exact PySem.W.eq_bytes (fin_bl I q dec_byt)
    | _ => exact absurd (show false = true from hs) Bool.false_ne_true
  | _ => cases y <;> exact absurd (show false = true from hs) Bool.false_ne_true
theorem op_ne : OpR X (compareOp .NotEq) rNe := by
  intro pins s σ H x y v u Q I rx ry h
  obtain ⟨hs, q⟩ := h
  cases x with
  | non =>
    cases rx
    cases y with
    | non => cases ry; exact PySem.EqNone.ne_none_none (fin_bl I q (by simp))
    | bl j => cases ry; exact PySem.EqNone.ne_none_bool (fin_bl I q (by simp))
    | int j => obtain ⟨t', rfl⟩ := ry; exact PySem.EqNone.ne_none_int (fin_bl I q (by simp))
    | str j => obtain ⟨t', rfl⟩ := ry; exact PySem.EqNone.ne_none_str (fin_bl I q (by simp))
    | _ => exact absurd (show false = true from hs) Bool.false_ne_true
  | bl i =>
    cases rx
    cases y with
    | non => cases ry; exact PySem.EqNone.ne_bool_none (fin_bl I q (by simp))
    | bl j => cases ry; exact ne_bool (fin_bl I q (congrArg not dec_bl))
    | str j => obtain ⟨t', rfl⟩ := ry; exact PySem.EqMixed.ne_bool_str (fin_bl I q (by simp))
    | _ => exact absurd (show false = true from hs) Bool.false_ne_true
  | int i =>
    obtain ⟨t, rfl⟩ := rx
    cases y with
    | non => cases ry; exact PySem.EqNone.ne_int_none (fin_bl I q (by simp))
    | int j => obtain ⟨t', rfl⟩ := ry; exact ne_int (fin_bl I q (congrArg not dec_int))
    | str j => obtain ⟨t', rfl⟩ := ry; exact PySem.EqMixed.ne_int_str (fin_bl I q (by simp))
    | _ => exact absurd (show false = true from hs) Bool.false_ne_true
  | str i =>
    obtain ⟨t, rfl⟩ := rx
    cases y with
    | non => cases ry; exact PySem.EqNone.ne_str_none (fin_bl I q (by simp))
    | bl j => cases ry; exact PySem.EqMixed.ne_str_bool (fin_bl I q (by simp))
    | int j => obtain ⟨t', rfl⟩ := ry; exact PySem.EqMixed.ne_str_int (fin_bl I q (by simp))
    | str j => obtain ⟨t', rfl⟩ := ry; exact ne_str (fin_bl I q (congrArg not dec_str))
    | _ => exact absurd (show false = true from hs) Bool.false_ne_true
  | byt i =>
    obtain ⟨t, rfl⟩ := rx
    cases y with
    | byt j => obtain ⟨t', rfl⟩ := ry; exact PySem.W.ne_bytes (fin_bl I q (congrArg not dec_byt))
    | _ => exact absurd (show false = true from hs) Bool.false_ne_true
  | _ => cases y <;> exact absurd (show false = true from hs) Bool.false_ne_true

theorem op_lt : OpR X (compareOp .Lt) (rI0 fun i j => .bl (decide (i < j))) := opB0 fun _ _ _ _ _ _ _ q => lt_int q
theorem op_le : OpR X (compareOp .LtE) (rI0 fun i j => .bl (decide (i ≤ j))) := opB0 fun _ _ _ _ _ _ _ q => le_int q
theorem op_gt : OpR X (compareOp .Gt) (rI0 fun i j => .bl (decide (j < i))) := opB0 fun _ _ _ _ _ _ _ q => gt_int q
theorem op_ge : OpR X (compareOp .GtE) (rI0 fun i j => .bl (decide (j ≤ i))) := opB0 fun _ _ _ _ _ _ _ q => ge_int q
theorem op_isN : OpR X (compareOp .Is) (fun x y H Q => y = .non ∧ Q (.bl (decide (x = .non))) H) := by
  intro pins s σ H x y v u Q I rx ry h
  obtain ⟨rfl, q⟩ := h
  cases ry
  refine is_none_gen (fin_bl I q ?_)
  cases x <;> first
    | (cases rx; rfl)
    | (obtain ⟨t, rfl⟩ := rx; rfl)
theorem op_notN : OpR X (compareOp .IsNot) (fun x y H Q => y = .non ∧ Q (.bl (!decide (x = .non))) H) := by
  intro pins s σ H x y v u Q I rx ry h
  obtain ⟨rfl, q⟩ := h
  cases ry
  refine isnot_none_gen (fin_bl I q ?_)
  cases x <;> first
    | (cases rx; rfl)
    | (obtain ⟨t, rfl⟩ := rx; rfl)

theorem nomark (b : Expr) {op : CmpOp} (h : op ≠ .In := by decide) (h2 : op ≠ .NotIn := by decide) : behindInMarks op b = false := by
  have e1 : (op == CmpOp.In) = false := by cases op <;> first | rfl | exact absurd rfl h
  have e2 : (op == CmpOp.NotIn) = false := by cases op <;> first | rfl | exact absurd rfl h2
  cases b <;> simp [behindInMarks, e1, e2]
theorem pe_cmpR {op : CmpOp} {r : R2} (ho : OpR X (compareOp op) r) (ha : PE X a ta) (hb : PE X b tb) (hm : behindInMarks op b = false) : PE X (.Compare a [op] [b] pos) (tOp r ta tb) := by
  intro pins s σ H Q I h
  exact wpAny_Compare1 (binT ha hb I h fun v u s2 x y H2 I2 rx ry q => ho pins s2 σ H2 x y v u Q I2 rx ry q) hm
def tTest (t : TE) : TT := fun σ H Q => t σ H fun x H' => ∃ k, x = .bl k ∧ Q k H'
theorem pt_cmpR {op : CmpOp} {r : R2} (ho : OpR X (compareOp op) r) (ha : PE X a ta) (hb : PE X b tb) (hm : behindInMarks op b = false) : PT X (.Compare a [op] [b] pos) (tTest (tOp r ta tb)) := by
  intro pins s σ H Q I h
  refine wpAny_isTrue_Compare1 (thn (ha pins s σ H _ I h) fun v s1 ⟨x, H1, I1, r1, q1⟩ => thn (hb pins s1 σ H1 _ I1 q1) fun u s2 ⟨y, H2, I2, r2, q2⟩ =>
    thn (ho pins s2 σ H2 x y v u _ I2 r1 r2 q2) fun c s3 ⟨z, H3, I3, r3, k, e, q3⟩ => ?_) hm
  subst e
  cases r3
  exact wpAny_truthy_bool ⟨H3, I3, q3⟩
def tChain (r r' : R2) (ta tb tc : TE) : TE := fun σ H Q => ta σ H fun x H1 => tb σ H1 fun y H2 => r x y H2 fun z H3 => ∃ k, z = .bl k ∧
  (if k = true then tc σ H3 fun w' H4 => r' y w' H4 Q else Q (.bl false) H3)
theorem pe_chain {op op' : CmpOp} {r r' : R2} (ho : OpR X (compareOp op) r) (ho' : OpR X (compareOp op') r') (ha : PE X a ta) (hb : PE X b tb) (hc : PE X c tc)
    (hm : lastMarks [op, op'] [b, c] = false := by with_unfolding_all rfl) : PE X (.Compare a [op, op'] [b, c] pos) (tChain r r' ta tb tc) := by
  intro pins s σ H Q I h
  refine Compare_chain (thn (ha pins s σ H _ I h) fun v s1 ⟨x, H1, I1, r1, q1⟩ => chain_link (thn (hb pins s1 σ H1 _ I1 q1) fun u s2 ⟨y, H2, I2, r2, q2⟩ =>
    thn (ho pins s2 σ H2 x y v u _ I2 r1 r2 q2) fun d s3 ⟨z, H3, I3, r3, k, e, q3⟩ => ?_)) hm
  subst e
  cases r3
  refine wpAny_truthy_bool ?_
  cases k with
  | false => exact ite_ff ⟨.bl false, H3, I3, rfl, q3⟩
  | true => exact ite_tt (chain_last (thn (hc pins s3 σ H3 _ I3 q3) fun w' s4 ⟨z', H4, I4, r4, q4⟩ => ho' pins s4 σ H4 y z' u w' Q I4 r2 r4 q4))
theorem pt_chain {op op' : CmpOp} {r r' : R2} (ho : OpR X (compareOp op) r) (ho' : OpR X (compareOp op') r') (ha : PE X a ta) (hb : PE X b tb) (hc : PE X c tc)
    (hm : lastMarks [op, op'] [b, c] = false := by with_unfolding_all rfl) : PT X (.Compare a [op, op'] [b, c] pos) (tTest (tChain r r' ta tb tc)) := by
  intro pins s σ H Q I h
  refine isTrue_chain (thn (ha pins s σ H _ I h) fun v s1 ⟨x, H1, I1, r1, q1⟩ => test_link (thn (hb pins s1 σ H1 _ I1 q1) fun u s2 ⟨y, H2, I2, r2, q2⟩ =>
    thn (ho pins s2 σ H2 x y v u _ I2 r1 r2 q2) fun d s3 ⟨z, H3, I3, r3, k, e, q3⟩ => ?_)) hm
  subst e
  cases r3
  refine wpAny_truthy_bool ?_
  cases k with
  | false =>
    obtain ⟨k', e', q'⟩ := q3
    cases e'
    exact ite_ff ⟨H3, I3, q'⟩
  | true =>
    refine ite_tt (test_last (thn (hc pins s3 σ H3 _ I3 q3) fun w' s4 ⟨z', H4, I4, r4, q4⟩ => thn (ho' pins s4 σ H4 y z' u w' _ I4 r2 r4 q4) fun d' s5 ⟨z2, H5, I5, r5, k2, e2, q5⟩ => ?_))
    subst e2
    cases r5
    exact wpAny_truthy_bool ⟨H5, I5, q5⟩

def TruV (K : PySem.W.Frag) (x : V) (H : Hp) (k : Bool) : Prop :=
  match x with
  | .non => k = false
  | .bl b => k = b
  | .int i => k = (i != 0)
  | .str y => y.length ≤ sizeLine ∧ k = ((y.length : Int) != 0)
  | .byt y => y.size ≤ sizeLine ∧ k = ((y.size : Int) != 0)
  | .ref p => (∃ xs, SqL K H p xs ∧ k = !xs.isEmpty) ∨ (∃ xs, SqT K H p xs ∧ k = !xs.isEmpty) ∨ ∃ kvs, H p = some (.dK kvs) ∧ k = !kvs.isEmpty
  | _ => False
theorem isEmpty_kv {κ : Type} {kvs : List (κ × V)} {vs : List (κ × Value)} (r : KV kvs vs) : (!vs.isEmpty) = !kvs.isEmpty := by
  cases r <;> rfl
theorem isEmpty_of {xs : List V} {its : List Value} (r : Vals xs its) : (!its.toArray.isEmpty) = !xs.isEmpty := by
  cases r <;> simp
theorem line63 : (sizeLine : Nat) < 2 ^ 63 := by rw [sizeLine_eq]; decide
theorem tru_ok : TruR X (fun x H Q => ∃ k, TruV X.K x H k ∧ Q k H) := by
  intro pins s σ H x v Q I rx h
  obtain ⟨k, e, q⟩ := h
  have hl := line63
  have hs : sizeLine = 16777216 := sizeLine_eq
  cases x with
  | non =>
    cases rx
    have e' : k = false := e
    subst e'
    exact truthy_none ⟨H, I, q⟩
  | bl b =>
    cases rx
    have e' : k = b := e
    subst e'
    exact wpAny_truthy_bool ⟨H, I, q⟩
  | int i =>
    obtain ⟨t, rfl⟩ := rx
    have e' : k = (i != 0) := e
    subst e'
    exact PySem.P.truthy_int ⟨H, I, q⟩
  | str y =>
    obtain ⟨t, rfl⟩ := rx
    obtain ⟨hy, e'⟩ : y.length ≤ sizeLine ∧ k = ((y.length : Int) != 0) := e
    subst e'
    exact PySem.P.truthy_str (by omega) ⟨H, I.tok _, q⟩
  | byt y =>
    obtain ⟨t, rfl⟩ := rx
    obtain ⟨hy, e'⟩ : y.size ≤ sizeLine ∧ k = ((y.size : Int) != 0) := e
    subst e'
    exact PySem.W.truthy_bytes (by omega) ⟨H, I.tok _, q⟩
  | ref p =>
    cases rx
    have e' : (∃ xs, SqL X.K H p xs ∧ k = !xs.isEmpty) ∨ (∃ xs, SqT X.K H p xs ∧ k = !xs.isEmpty) ∨ ∃ kvs, H p = some (.dK kvs) ∧ k = !kvs.isEmpty := e
    rcases e' with ⟨xs, hx, e'⟩ | ⟨xs, hx, e'⟩ | ⟨kvs, hx, e'⟩
    · subst e'
      obtain ⟨its, r, pl, hz⟩ := I.list hx
      have hlen := r.length
      exact wpAny_truthy_list pl.isList (by simp only [List.size_toArray]; omega) ⟨H, I.tok _, by rw [isEmpty_of r]; exact q⟩
    · subst e'
      obtain ⟨its, r, pl, hz⟩ := I.tuple hx
      have hlen := r.length
      exact truthy_tuple pl (by simp only [List.size_toArray]; omega) ⟨H, I.tok _, by rw [isEmpty_of r]; exact q⟩
    · subst e'
      obtain ⟨hz, hS, vs, r, m⟩ : kvs.length ≤ sizeLine ∧ (p == sysModules) = false ∧ ∃ vs, KV kvs vs ∧ s.heap.DictOf (mixKind X.prog X.w) p vs := I.hok p _ hx
      have hlen : kvs.length = vs.length := Paired.length r
      exact wpAny_truthy_dict hS m (by omega) ⟨H, I.tok _, by rw [isEmpty_kv r]; exact q⟩
  | _ => exact (show False from e).elim
theorem vals1 {x : V} {us : List Value} (r : Vals [x] us) : ∃ u, us = [u] ∧ RelV x u := by
  cases r with
  | cons r1 r2 => cases r2; exact ⟨_, rfl, r1⟩
theorem vals2 {x y : V} {us : List Value} (r : Vals [x, y] us) : ∃ u w', us = [u, w'] ∧ RelV x u ∧ RelV y w' := by
  cases r with
  | cons r1 r2 =>
    cases r2 with
    | cons r3 r4 => cases r4; exact ⟨_, _, rfl, r1, r3⟩
theorem call_min2 (hc : X.calm = true) : CallR X (.builtin "min") (fun xs H Q => ∃ i j, xs = [.int i, .int j] ∧ Q (.int (if j < i then j else i)) H) := by
  intro pins s σ H xs us Q I r h
  obtain ⟨i, j, rfl, q⟩ := h
  obtain ⟨u, w', rfl, ⟨t, rfl⟩, ⟨t', rfl⟩⟩ := vals2 r
  refine min_two_ints (I.ok.hd hc) fun h' tk k => ⟨_, H, I.kept k, ?_, q⟩
  by_cases hj : j < i
  · rw [if_pos hj, if_pos hj]; exact ⟨_, rfl⟩
  · rw [if_neg hj, if_neg hj]; exact ⟨_, rfl⟩
end
end L2

namespace L2
open PySem PySem.Spec PyProof.Rows

structure ObjM (h : Heap) (x dx C : Addr) (mA : Str → Option Value) : Prop where
  obj : h.get? x = some (PySem.W.instObj C dx)
  ns : h.Ns1 dx mA
  ne : dx ≠ x

theorem lookIn_ns {h : Heap} {dx : Addr} {mA : Str → Option Value} (n : h.Ns1 dx mA) : ∃ od, h.get? dx = some od ∧ ∀ name, PySem.W.lookIn name od = some (mA name) := by
  obtain ⟨o, es, ep, ho, hd, hk, _, hm⟩ := n
  refine ⟨o, ho, fun name => ?_⟩
  have e := hm name
  unfold nsFind findBy at e
  rw [← Array.find?_toList] at e
  unfold PySem.W.lookIn
  rw [hd]
  dsimp only
  split
  · rename_i y q
    rw [q] at e
    exact congrArg some e
  · rename_i q
    rw [q] at e
    have a : es.toList.any (·.refKey) = false := by
      rw [List.any_eq_false]
      intro y hy
      obtain ⟨z, t, hkey⟩ := hk y (Array.mem_toList_iff.mp hy)
      simp [DictEntry.refKey, hkey]
    have a' : ¬ es.toList.any (·.refKey) = true := by rw [a]; exact Bool.false_ne_true
    rw [if_neg a']
    exact congrArg some e

theorem ObjM.look {h : Heap} {x dx C : Addr} {mA : Str → Option Value} (I : ObjM h x dx C mA) : ∃ od, PySem.W.InstAt h x (PySem.W.instObj C dx) C (some od) ∧ ∀ name, PySem.W.lookIn name od = some (mA name) :=
  let ⟨od, ho, hl⟩ := lookIn_ns I.ns
  ⟨od, ⟨I.obj, rfl, rfl, ho⟩, hl⟩

section
variable {prog : Program} {w : World} {A : Around} {E : Value → Shared → Prop} {s : Shared} {K : PySem.W.Frag} {x dx C f : Addr} {mA : Str → Option Value} {name : Str} {v : Value}

theorem get_map {expr : Bool} {Q : Value → Shared → Prop} (X : K.In s.heap) (I : ObjM s.heap x dx C mA) (hg : PySem.W.plainGet K C name = true) (hh : PySem.W.hasDictIn K C = true)
    (ha : PySem.W.findIn K (.ref C) name = some none) (hv : mA name = some v) (hv' : PySem.W.handedIn v = true) (h : Q v { s with toks := s.toks + 1 }) :
    wpAny (model prog w) A (getAttr (.ref x) name expr) Q E s := by
  obtain ⟨od, J, hl⟩ := I.look
  exact PySem.W.get_value X J (PySem.W.plainGet_of hg).1 (PySem.W.findObj_own hh ha rfl (by rw [hl, hv])) hv' h

theorem get_meth {pl : Sem Bool} {Q : Value × List Value → Shared → Prop} (X : K.In s.heap) (I : ObjM s.heap x dx C mA) (hg : PySem.W.plainGet K C name = true)
    (hf : PySem.W.findIn K (.ref C) name = some (some (.ref f))) (ht : PySem.W.isFn K (.ref f) = true) (hv : mA name = none) (h : Q (.ref f, [.ref x]) s) :
    wpAny (model prog w) A (getMethod (.ref x) name pl) Q E s := by
  obtain ⟨od, J, hl⟩ := I.look
  exact PySem.W.method_fn X J (PySem.W.plainGet_of hg).1 (PySem.W.plainGet_of hg).2 hf (beq_iff_eq.mp ht) (by show (PySem.W.lookIn name od).map (·.isSome) = some false; rw [hl, hv]; rfl) h

theorem set_map {ns : List Str} {Q : Unit → Shared → Prop} (X : K.In s.heap) (I : ObjM s.heap x dx C mA)
    (hs : PySem.W.findIn K (.ref C) "__setattr__" = some (some (.builtin "object.__setattr__"))) (hp : PySem.W.plainOver K C = true) (ht : PySem.W.takerIn K C name = some none) (hh : PySem.W.hasDictIn K C = true)
    (hw : PySem.Within mA ns) (hsz : ns.length ≤ sizeLine)
    (h : ∀ h', ObjM h' x dx C (fun y => if y = name then some v else mA y) → Heap.SameBut dx s.heap h' → Q () { s with heap := h', toks := s.toks + 2 }) :
    wpAny (model prog w) A (setAttr (.ref x) name v) Q E s := by
  obtain ⟨od, J, hl⟩ := I.look
  refine PySem.W.set_plain X J hs (PySem.W.osa_open (s := { s with toks := s.toks + 1 }) (r := none) X J hp ht fun b => ?_)
  obtain ⟨cd, hc, hd'⟩ := PySem.W.any_some hh
  have hx : s.heap.get? x = some ⟨.ref C, some dx, .plain, #[]⟩ := I.obj
  refine wpAny_bind (wpAny_pure (wpAny_bind (wpAny_bind (wpAny_loadPart hx (wpAny_bind (PySem.W.Looks.here (s := { s with toks := s.toks + 1 }) (PySem.W.looks_clsIn X hc) ?_))))))
  rw [hd']
  refine wpAny_pure (a := some dx) (wpAny_bind (wpAny_pure (wpAny_bind ?_)))
  refine wpAny_nsSet1 (s := { s with toks := s.toks + 1 }) I.ns fun h' hn2 hs2 => ?_
  obtain ⟨oD, esD, epD, hoD, hdD, hcD⟩ := hn2.count (PySem.Within.cons name v hw)
  refine wpAny_bind (wpAny_lookBehind hoD (by rw [hdD]; exact pastItsLine_dict (Nat.le_trans hcD (by rw [List.length_cons]; omega))) ?_)
  exact wpAny_pure (h _ ⟨(hs2.2 _ (Ne.symm I.ne)).trans I.obj, hn2, I.ne⟩ hs2)

theorem make_map {R : Result → Shared → Prop} {vs : List Value} {kw : List (Str × Value)} (X : K.In s.heap) (hm : PySem.W.makesIn K C = true)
    (hi : PySem.W.findIn K (.ref C) "__init__" = some (some (.ref f))) (hf : PySem.W.typeIn K (.ref f) = some (.type "function"))
    (h : codeAny (model prog w) (A.under (.builtin "type.__call__" ⟨.ref C :: vs, kw⟩)) (.call (.ref f) ⟨.ref (s.heap.objs.size + 1) :: vs, kw⟩) (PySem.W.InitBack (s.heap.objs.size + 1) R)
      { s with heap := (s.heap.push PySem.W.emptyDict).push (PySem.W.instObj C s.heap.objs.size) }) :
    codeAny (model prog w) A (.call (.ref C) ⟨vs, kw⟩) R s := by
  obtain ⟨hh, g, d, t, os⟩ := s
  exact PySem.W.make_core (PySem.W.makes_of X hm) (PySem.W.looks_findIn X hi) (fun self => PySem.W.bind_fn X self hf) (.inl rfl) h
end

def putF (f : Str) (v : V) : List (Str × V) → List (Str × V)
  | [] => [(f, v)]
  | (g, x) :: r => if g = f then (g, v) :: r else (g, x) :: putF f v r
theorem lookup_putF (f g : Str) (v : V) : ∀ fs : List (Str × V), (putF f v fs).lookup g = if g = f then some v else fs.lookup g
  | [] => by
    show List.lookup g [(f, v)] = _
    by_cases h : g = f
    · have hb : (g == f) = true := beq_iff_eq.mpr h
      simp only [List.lookup, hb, if_pos h]
    · have hb : (g == f) = false := beq_eq_false_iff_ne.mpr h
      simp only [List.lookup, hb, if_neg h]
  | (k, x) :: r => by
    have ih := lookup_putF f g v r
    rw [show putF f v ((k, x) :: r) = (if k = f then (k, v) :: r else (k, x) :: putF f v r) from rfl]
    by_cases hk : k = f
    · rw [if_pos hk]
      by_cases h : g = k
      · have hb : (g == k) = true := beq_iff_eq.mpr h
        simp only [List.lookup, hb, if_pos (h.trans hk)]
      · have hb : (g == k) = false := beq_eq_false_iff_ne.mpr h
        simp only [List.lookup, hb, if_neg (fun e : g = f => h (e.trans hk.symm))]
    · rw [if_neg hk]
      by_cases h : g = k
      · have hb : (g == k) = true := beq_iff_eq.mpr h
        simp only [List.lookup, hb, if_neg (fun e : g = f => hk (h.symm.trans e))]
      · have hb : (g == k) = false := beq_eq_false_iff_ne.mpr h
        simp only [List.lookup, hb]
        exact ih
theorem keys_putF (f : Str) (v : V) : ∀ fs : List (Str × V), f ∈ (putF f v fs).map (·.1) ∧ ∀ g, g ∈ fs.map (·.1) → g ∈ (putF f v fs).map (·.1)
  | [] => ⟨by simp [putF], fun g h => by simp at h⟩
  | (k, x) :: r => by
    obtain ⟨i1, i2⟩ := keys_putF f v r
    rw [show putF f v ((k, x) :: r) = (if k = f then (k, v) :: r else (k, x) :: putF f v r) from rfl]
    by_cases hk : k = f
    · rw [if_pos hk]
      subst hk
      exact ⟨by simp, fun g h => by simpa using h⟩
    · rw [if_neg hk]
      refine ⟨?_, fun g h => ?_⟩
      · rw [List.map_cons]
        exact List.mem_cons_of_mem _ i1
      · rw [List.map_cons] at h ⊢
        rcases List.mem_cons.mp h with e | e
        · exact List.mem_cons.mpr (.inl e)
        · exact List.mem_cons_of_mem _ (i2 g e)
theorem length_putF (f : Str) (v : V) : ∀ fs : List (Str × V), (putF f v fs).length ≤ fs.length + 1
  | [] => by simp [putF]
  | (k, x) :: r => by
    have ih := length_putF f v r
    rw [show putF f v ((k, x) :: r) = (if k = f then (k, v) :: r else (k, x) :: putF f v r) from rfl]
    by_cases hk : k = f
    · rw [if_pos hk, List.length_cons, List.length_cons]; omega
    · rw [if_neg hk, List.length_cons, List.length_cons]; omega

theorem RelO.some_of {v : V} {o : Option Value} (r : RelO (some v) o) : ∃ u, o = some u ∧ RelV v u := by
  cases o with
  | none => exact (show False from r).elim
  | some u => exact ⟨u, rfl, r⟩
theorem RelO.none_of {o : Option Value} (r : RelO none o) : o = none := by
  cases o with
  | none => rfl
  | some u => exact (show False from r).elim
theorem handed_of {v : V} {u : Value} (r : RelV v u) : PySem.W.handedIn u = true := by
  cases v with
  | non => cases (show u = Value.none from r); rfl
  | bl b => cases (show u = Value.bool b from r); rfl
  | int i => obtain ⟨t, e⟩ := (show ∃ t, u = Value.int i t from r); cases e; rfl
  | str x => obtain ⟨t, e⟩ := (show ∃ t, u = Value.str x t from r); cases e; rfl
  | byt b => obtain ⟨t, e⟩ := (show ∃ t, u = Value.bytes b t from r); cases e; rfl
  | flt b => obtain ⟨t, e⟩ := (show ∃ t, u = Value.float b t from r); cases e; rfl
  | ref a => cases (show u = Value.ref a from r); rfl
  | ty n => cases (show u = Value.type n from r); rfl

section
variable {P : Program} {w : World} {H H' : Hp} {h h' : Heap} {a C dx : Addr} {fs fs' : List (Str × V)}
theorem ins_get (hok : HOk P w H h) (e : H a = some (.ins C dx fs)) : ∃ mA, ObjM h a dx C mA ∧ (∀ f, RelO (fs.lookup f) (mA f)) ∧ PySem.Within mA (fs.map (·.1)) ∧ fs.length ≤ 1000 ∧ H dx = some (.own a) := by
  obtain ⟨d, z, ne, ob, mA, n, r, q⟩ := (show ObjOk P w H h a (.ins C dx fs) from hok a _ e)
  exact ⟨mA, ⟨ob, n, ne⟩, r, q, z, d⟩
end

structure Cls (K : PySem.W.Frag) (C : Addr) : Prop where
  pg : PySem.W.plainGet K C Str.empty = true
  hd : PySem.W.hasDictIn K C = true
  po : PySem.W.plainOver K C = true
  sa : PySem.W.findIn K (.ref C) "__setattr__" = some (some (.builtin "object.__setattr__"))
theorem Cls.get {K : PySem.W.Frag} {C : Addr} (c : Cls K C) (f : Str) : PySem.W.plainGet K C f = true := c.pg
def NoAttr (K : PySem.W.Frag) (C : Addr) (f : Str) : Prop := PySem.W.findIn K (.ref C) f = some none
theorem NoAttr.taker {K : PySem.W.Frag} {C : Addr} {f : Str} (n : NoAttr K C f) : PySem.W.takerIn K C f = some none := by
  unfold PySem.W.takerIn
  rw [show PySem.W.findIn K (.ref C) f = some none from n]
  rfl
structure Meth (K : PySem.W.Frag) (C : Addr) (m : Str) (f : Addr) : Prop where
  at_ : PySem.W.findIn K (.ref C) m = some (some (.ref f))
  fn : PySem.W.isFn K (.ref f) = true
  kp : PySem.W.keepIn K (.ref f) = true

section
variable {X : Cx} {pins : List (Addr × Obj)} {σ : St} {H : Hp} {s : Shared} {a C dx : Addr} {fs : List (Str × V)} {f : Str} {v : V} {A : Around} {E : Value → Shared → Prop}

theorem getattr_ok {b : Bool} {Q : Value → Shared → Prop} (I : Inv X pins σ H s) (e : H a = some (.ins C dx fs)) (c : Cls X.K C) (n : NoAttr X.K C f) (l : fs.lookup f = some v)
    (h : ∀ u s', Inv X pins σ H s' → RelV v u → Q u s') : wpAny (model X.prog X.w) A (getAttr (.ref a) f b) Q E s := by
  obtain ⟨mA, O, r, _, _, _⟩ := ins_get I.hok e
  obtain ⟨u, hu, ru⟩ := RelO.some_of (v := v) (o := mA f) (by rw [← l]; exact r f)
  exact get_map I.kIn O (c.get f) c.hd n hu (handed_of ru) (h u _ (I.tok _) ru)

theorem getmeth_ok {m : Str} {g : Addr} {pl : Sem Bool} {Q : Value × List Value → Shared → Prop} (I : Inv X pins σ H s) (e : H a = some (.ins C dx fs)) (c : Cls X.K C) (k : Meth X.K C m g) (l : fs.lookup m = none)
    (h : Q (.ref g, [.ref a]) s) : wpAny (model X.prog X.w) A (getMethod (.ref a) m pl) Q E s := by
  obtain ⟨mA, O, r, _, _, _⟩ := ins_get I.hok e
  have hn : mA m = none := RelO.none_of (by rw [← l]; exact r m)
  exact get_meth I.kIn O (c.get m) k.at_ k.fn hn h

theorem setattr_ok {y : V} {u : Value} {Q : Unit → Shared → Prop} (I : Inv X pins σ H s) (e : H a = some (.ins C dx fs)) (c : Cls X.K C) (n : NoAttr X.K C f) (hl : fs.length < 1000) (ry : RelV y u)
    (h : ∀ s', Inv X pins σ (upd H a (.ins C dx (putF f y fs))) s' → Q () s') : wpAny (model X.prog X.w) A (setAttr (.ref a) f u) Q E s := by
  obtain ⟨mA, O, r, wi, _, ho⟩ := ins_get I.hok e
  have hz : (fs.map (·.1)).length ≤ sizeLine := by rw [List.length_map, sizeLine_eq]; omega
  refine set_map I.kIn O c.sa c.po n.taker c.hd wi hz fun h' O' sb => h _ ?_
  have hd : ∃ o, h'.get? dx = some o := let ⟨o, _, _, e', _⟩ := O'.ns; ⟨o, e'⟩
  refine I.write (x := a) (e := dx) (by rw [e]; exact True.intro) (.inr ho) (fun b q hb z => (sb.2 b hb).trans z) hd ?_
  refine ⟨by rw [upd_ne O.ne]; exact ho, ?_, O.ne, O'.obj, _, O'.ns, fun g => ?_, fun g hg => ?_⟩
  · have := length_putF f y fs; omega
  · show RelO ((putF f y fs).lookup g) (if g = f then some u else mA g)
    rw [lookup_putF]
    by_cases q : g = f
    · rw [if_pos q, if_pos q]; exact ry
    · rw [if_neg q, if_neg q]; exact r g
  · by_cases q : g = f
    · rw [q]; exact (keys_putF f y fs).1
    · refine (keys_putF f y fs).2 g (wi g fun z => hg ?_)
      show (if g = f then some u else mA g) = none
      rw [if_neg q]; exact z

theorem Inv.made (I : Inv X pins σ H s) : Inv X pins σ (upd (upd H s.heap.objs.size (.own (s.heap.objs.size + 1))) (s.heap.objs.size + 1) (.ins C s.heap.objs.size []))
    { s with heap := (s.heap.push PySem.W.emptyDict).push (PySem.W.instObj C s.heap.objs.size) } := by
  have e1 : (s.heap.push PySem.W.emptyDict).get? s.heap.objs.size = some PySem.W.emptyDict := Heap.get?_push_size s.heap rfl
  have e2 : ((s.heap.push PySem.W.emptyDict).push (PySem.W.instObj C s.heap.objs.size)).get? (s.heap.objs.size + 1) = some (PySem.W.instObj C s.heap.objs.size) := by
    have := Heap.get?_push_size (s.heap.push PySem.W.emptyDict) (o := PySem.W.instObj C s.heap.objs.size) rfl
    rwa [Heap.size_push] at this
  have e3 : (s.heap.push PySem.W.emptyDict).Ns s.heap.objs.size (fun _ => none) := ⟨PySem.W.emptyDict, #[], _, e1, rfl, (fun e he => absurd he (by simp)), fun _ => rfl⟩
  have I1 := I.laid (a := s.heap.objs.size) (o := .own (s.heap.objs.size + 1)) (h' := s.heap.push PySem.W.emptyDict) (t' := s.toks) (fun b u q => Heap.get?_push_of_some _ q) (Nat.le_refl _) ⟨_, e1⟩
  refine I1.laid (a := s.heap.objs.size + 1) (o := .ins C s.heap.objs.size []) (t' := s.toks) (fun b u q => Heap.get?_push_of_some _ q) (Nat.le_of_eq (Heap.size_push _ _)) ?_
  have ne : s.heap.objs.size ≠ s.heap.objs.size + 1 := Nat.ne_of_lt (Nat.lt_succ_self _)
  refine ⟨by rw [upd_ne ne, upd_same], Nat.zero_le _, ne, e2, fun _ => none, (Heap.Ns1.of_empty e3).at fun o q => Heap.get?_push_of_some _ q, fun _ => True.intro, fun y hy => absurd rfl hy⟩

theorem attr_of {prog : Program} {w : World} {env : Env} {e : Expr} {f : Str} {pos : Pos} {s : Shared} {Q : Value → Shared → Prop} (hb : attributeBase e f env (eval e env) = eval e env)
    (h : wpAny (model prog w) A (eval e env) (fun o s₁ => wpAny (model prog w) A (getAttr o f true) Q E s₁) E s) : wpAny (model prog w) A (eval (.Attribute e f pos) env) Q E s :=
  Attribute_any_ h (by rw [arm_eval_Attribute, hb])
end

def tFld (K : PySem.W.Frag) (ta : TE) (f : Str) : TE := fun σ H Q => ta σ H fun x H1 => ∃ a C dx fs v, x = .ref a ∧ H1 a = some (.ins C dx fs) ∧ Cls K C ∧ NoAttr K C f ∧ fs.lookup f = some v ∧ Q v H1
def sFld (K : PySem.W.Frag) (ta tv : TE) (f : Str) : TS := fun D σ H => tv σ H fun y H1 => ta σ H1 fun x H2 => ∃ a C dx fs, x = .ref a ∧ H2 a = some (.ins C dx fs) ∧ Cls K C ∧ NoAttr K C f ∧ fs.length < 1000 ∧
  D.nx σ (upd H2 a (.ins C dx (putF f y fs)))
def InOp (X : Cx) (op : Operator) (rd : V → V → Hp → VK → Prop) : Prop :=
  ∀ (pins : List (Addr × Obj)) (s : Shared) (σ : St) (H : Hp) (x y : V) (u v : Value) (Q : VK), Inv X pins σ H s → RelV x u → RelV y v → rd x y H Q → wpAny (model X.prog X.w) X.A (inplaceOp op u v) (EP X pins σ Q) X.xe s
def sFldAug (K : PySem.W.Frag) (ta tv : TE) (rd : V → V → Hp → VK → Prop) (f : Str) : TS := fun D σ H => ta σ H fun x H1 => ∃ a C dx fs v, x = .ref a ∧ H1 a = some (.ins C dx fs) ∧ Cls K C ∧ NoAttr K C f ∧ fs.lookup f = some v ∧
  tv σ H1 fun y H2 => rd v y H2 fun z H3 => ∃ dx' fs', H3 a = some (.ins C dx' fs') ∧ fs'.length < 1000 ∧ D.nx σ (upd H3 a (.ins C dx' (putF f z fs')))

section
variable {X : Cx} {o e value : Expr} {f : Str} {pos pos' tpos : Pos} {ta tv : TE}
theorem pe_fld (he : PE X e ta) (hb : attributeBase e f X.env (eval e X.env) = eval e X.env) : PE X (.Attribute e f pos) (tFld X.K ta f) := by
  intro pins s σ H Q I h
  refine attr_of hb (thn (he pins s σ H _ I h) fun u s1 ⟨x, H1, I1, rx, a, C, dx, fs, v, ex, ea, c, n, l, q⟩ => ?_)
  subst ex
  obtain rfl : u = Value.ref a := rx
  exact getattr_ok I1 ea c n l fun u' s2 I2 ru => ⟨v, H1, I2, ru, q⟩
theorem ps_fld (ha : PE X o ta) (hv : PE X value tv) (hs : swapsWith value (some (.Attribute o f pos')) pos.line X.env = pure false) : PS X (.Assign [.Attribute o f pos'] value pos) (sFld X.K ta tv f) := by
  intro pins s σ H D I h
  refine plainObj_wpAny_Assign_Attribute (thn (hv pins s σ H _ I h) fun u s1 ⟨y, H1, I1, ry, q⟩ => thn (ha pins s1 σ H1 _ I1 q) fun ov s2 ⟨x, H2, I2, rx, a, C, dx, fs, ex, ea, c, n, l, q2⟩ => ?_) hs
  subst ex
  obtain rfl : ov = Value.ref a := rx
  exact setattr_ok I2 ea c n l ry fun s3 I3 => ⟨σ, _, I3, q2⟩
theorem ps_fldaug {op : Operator} {rd : V → V → Hp → VK → Prop} (ha : PE X o ta) (hv : PE X value tv) (hop : InOp X op rd) : PS X (.AugAssign (.Attribute o f tpos) op value pos) (sFldAug X.K ta tv rd f) := by
  intro pins s σ H D I h
  refine wpAny_AugAssign_AttributeAny (thn (ha pins s σ H _ I h) fun ov s1 ⟨x, H1, I1, rx, a, C, dx, fs, v, ex, ea, c, n, l, q⟩ => ?_)
  subst ex
  obtain rfl : ov = Value.ref a := rx
  refine getattr_ok I1 ea c n l fun u s2 I2 ru => thn (hv pins s2 σ H1 _ I2 q) fun w3 s3 ⟨y, H2, I3, ry, q3⟩ => thn (hop pins s3 σ H2 v y u w3 _ I3 ru ry q3) fun w4 s4 ⟨z, H3, I4, rz, dx', fs', ea', l', q4⟩ => ?_
  exact setattr_ok I4 ea' c n l' rz fun s5 I5 => ⟨σ, _, I5, q4⟩
def rAdd : V → V → Hp → VK → Prop := fun x y H Q => ∃ i j, x = .int i ∧ y = .int j ∧ Q (.int (i + j)) H
theorem in_add : InOp X .Add rAdd := by
  rintro pins s σ H x y u v Q I rx ry ⟨i, j, rfl, rfl, q⟩
  obtain ⟨t, rfl⟩ := (show ∃ t, u = Value.int i t from rx)
  obtain ⟨t', rfl⟩ := (show ∃ t', v = Value.int j t' from ry)
  exact PyProof.Rows.iadd_int ⟨.int (i + j), H, I.tok _, ⟨_, rfl⟩, q⟩
end

section
variable {X : Cx} {pins : List (Addr × Obj)} {σ : St} {H : Hp} {s : Shared} {A : Around} {E : Value → Shared → Prop} {Q : Value → Shared → Prop} {c : Value} {b : Bool}
inductive TyOf (K : PySem.W.Frag) (H : Hp) : V → Value → Prop where
  | non : TyOf K H .non (.type "NoneType")
  | bl (x : Bool) : TyOf K H (.bl x) (.type "bool")
  | int (i : Int) : TyOf K H (.int i) (.type "int")
  | str (x : Str) : TyOf K H (.str x) (.type "str")
  | flt (x : UInt64) : TyOf K H (.flt x) (.type "float")
  | lst {a : Addr} {xs : List V} (e : H a = some (.lst xs)) : TyOf K H (.ref a) (.type "list")
  | frz {a : Addr} {o : Obj} {xs : List V} (e : H a = some (.frz o (.lst xs))) : TyOf K H (.ref a) (.type "list")
  | tup {a : Addr} {xs : List V} (e : H a = some (.tup xs)) : TyOf K H (.ref a) (.type "tuple")
  | dK {a : Addr} {kvs : List (Key × V)} (e : H a = some (.dK kvs)) : TyOf K H (.ref a) (.type "dict")
  | dT {a : Addr} {kvs : List (List Key × V)} (e : H a = some (.dT kvs)) : TyOf K H (.ref a) (.type "dict")
  | ins {a C dx : Addr} {fs : List (Str × V)} (e : H a = some (.ins C dx fs)) (cl : Cls K C) (ha : PySem.W.findIn K (.ref C) "__class__" = some (some (.builtin "object.__class__")))
      (hn : PySem.W.specialIn K (.builtin "object.__class__") "__get__" = some (some (.builtin "getset_descriptor.__get__"))) (htk : PySem.W.takesIn K (.builtin "object.__class__") = some true)
      (hm : PySem.W.mroIn K C (.type "object") = some true) : TyOf K H (.ref a) (.ref C)
theorem isinst_ok {x : V} {u t : Value} (I : Inv X pins σ H s) (rx : RelV x u) (ty : TyOf X.K H x t) (e : PySem.W.kitOne X.K t c = some b) (h : ∀ tk, Q (.bool b) { s with toks := tk }) :
    wpAny (model X.prog X.w) A (call (.builtin "isinstance") [u, c]) Q E s := by
  cases ty with
  | non => cases (show u = Value.none from rx); exact PySem.W.kia_one PySem.W.kitx_none I.kIn True.intro e (fun z => nomatch z) h
  | bl y => cases (show u = Value.bool y from rx); exact PySem.W.kia_one PySem.W.kitx_bool I.kIn True.intro e (fun z => nomatch z) h
  | int i => obtain ⟨t, q⟩ := (show ∃ t, u = Value.int i t from rx); cases q; exact PySem.W.kia_one PySem.W.kitx_int I.kIn True.intro e (fun z => nomatch z) h
  | str y => obtain ⟨t, q⟩ := (show ∃ t, u = Value.str y t from rx); cases q; exact PySem.W.kia_one PySem.W.kitx_str I.kIn True.intro e (fun z => nomatch z) h
  | flt y => obtain ⟨t, q⟩ := (show ∃ t, u = Value.float y t from rx); cases q; exact PySem.W.kia_one PySem.W.kitx_float I.kIn True.intro e (fun z => nomatch z) h
  | @lst a xs ea =>
    cases (show u = Value.ref a from rx)
    obtain ⟨_, _, n, _, h1⟩ := (show ObjOk X.prog X.w H s.heap a (.lst xs) from I.hok a _ ea)
    exact PySem.W.kia_one PySem.W.kitx_list I.kIn ⟨_, h1, rfl⟩ e (fun z => nomatch z) h
  | @frz a ob xs ea =>
    cases (show u = Value.ref a from rx)
    obtain ⟨_, _, _, n, _, h1⟩ := (show ObjOk X.prog X.w H s.heap a (.frz ob (.lst xs)) from I.hok a _ ea)
    exact PySem.W.kia_one PySem.W.kitx_list I.kIn ⟨_, h1, rfl⟩ e (fun z => nomatch z) h
  | @tup a xs ea =>
    cases (show u = Value.ref a from rx)
    obtain ⟨_, _, _, p⟩ := (show ObjOk X.prog X.w H s.heap a (.tup xs) from I.hok a _ ea)
    obtain ⟨o, h1, h2, _⟩ := p
    exact PySem.W.kia_one PySem.W.kitx_tuple I.kIn ⟨o, h1, h2⟩ e (fun z => nomatch z) h
  | @dK a kvs ea =>
    cases (show u = Value.ref a from rx)
    obtain ⟨_, _, vs, _, p⟩ := (show ObjOk X.prog X.w H s.heap a (.dK kvs) from I.hok a _ ea)
    obtain ⟨o, es, ep, h1, h2, _⟩ := p
    exact PySem.W.kia_one PySem.W.kitx_dict I.kIn ⟨o, h1, h2.1⟩ e (fun z => nomatch z) h
  | @dT a kvs ea =>
    cases (show u = Value.ref a from rx)
    obtain ⟨_, _, xs, _, o, es, ep, h1, h2, _⟩ := (show ObjOk X.prog X.w H s.heap a (.dT kvs) from I.hok a _ ea)
    exact PySem.W.kia_one PySem.W.kitx_dict I.kIn ⟨o, h1, h2.1⟩ e (fun z => nomatch z) h
  | @ins a C dx fs ea cl ha hn htk hm =>
    cases (show u = Value.ref a from rx)
    obtain ⟨mA, O, _⟩ := ins_get I.hok ea
    obtain ⟨od, J, _⟩ := O.look
    exact PySem.W.kia_one (PySem.W.kitx_own (cl.get _) cl.hd ha hn htk hm) I.kIn J e (fun z => nomatch z) h
end
end L2

namespace L2
open PySem PySem.Spec PyProof.Rows

structure Room (k : Nat) (A : Around) : Prop where
  hd : A.handled = none
  dp : A.depth + 3 * k + 5 < recursionLimit
  un : A.units + 16 * k + 200 < cLine
theorem Room.mono {j k : Nat} {A : Around} (r : Room k A) (h : j ≤ k) : Room j A := ⟨r.hd, by have := r.dp; omega, by have := r.un; omega⟩
theorem Room.deeper {k : Nat} {A : Around} (r : Room (k + 1) A) (env : Env) : Room k (A.deeper env) :=
  ⟨r.hd, by have := r.dp; show A.depth + 1 + 3 * k + 5 < _; omega, by have := r.un; show A.units + 3 + 16 * k + 200 < _; omega⟩
theorem Room.in1 {k : Nat} {A : Around} (r : Room (k + 1) A) : Room k A.in1 :=
  ⟨r.hd, by have := r.dp; show A.depth + 3 * k + 5 < _; omega, by have := r.un; show A.units + 1 + 16 * k + 200 < _; omega⟩
theorem make_depth {A : Around} {C : Addr} {us : List Value} {kw : List (Str × Value)} : (A.under (.builtin "type.__call__" ⟨.ref C :: us, kw⟩)).depth = A.depth + 1 := by
  first | rfl | simp [Around.under, Code.weight, Code.isCreation, Code.isGuard, Code.isCaller, Code.frames, Code.isFrame, guardIds]
theorem make_units {A : Around} {C : Addr} {us : List Value} {kw : List (Str × Value)} : (A.under (.builtin "type.__call__" ⟨.ref C :: us, kw⟩)).units = A.units + 1 := by
  first | rfl | simp [Around.under, Code.cUnits, Code.frames, Code.isFrame]
theorem Room.make {k : Nat} {A : Around} (r : Room (k + 1) A) (C : Addr) (us : List Value) (kw : List (Str × Value)) : Room k (A.under (.builtin "type.__call__" ⟨.ref C :: us, kw⟩)) :=
  ⟨r.hd, by have := r.dp; rw [make_depth]; omega, by have := r.un; rw [make_units]; omega⟩
theorem Room.depth {k : Nat} {A : Around} (r : Room k A) : A.depth < recursionLimit := by have := r.dp; omega
theorem Room.units {k : Nat} {A : Around} (r : Room k A) : A.units + 64 < cLine := by have := r.un; omega
def tNil : TA := fun _ H Q => Q [] H
def tCons (ta : TE) (tr : TA) : TA := fun σ H Q => ta σ H fun x H1 => tr σ H1 fun xs H2 => Q (x :: xs) H2
section
variable {X : Cx} {e : Expr} {es : List Expr} {te : TE} {t : TA} {pos : Pos}
theorem pa_nil : PA X [] tNil := fun _ _ _ _ H Q I h => Calls.spliced_nil ⟨[], H, I, .nil, h⟩
theorem pa_cons (ha : PE X e te) (hr : PA X es t) (hs : starEach (e :: es) X.env = (false, eval e X.env) :: starEach es X.env := by rfl) : PA X (e :: es) (tCons te t) := by
  intro pos pins s σ H Q I h
  rw [hs]
  show wpAny _ _ (spliced ((false, eval e X.env) :: backTo pos (starEach es X.env))) _ _ s
  refine Calls.spliced_cons (thn (ha pins s σ H _ I h) fun u s1 ⟨x, H1, I1, r1, q1⟩ => ?_)
  exact thn (hr pos pins s1 σ H1 _ I1 q1) fun us s2 ⟨xs, H2, I2, r2, q2⟩ => ⟨x :: xs, H2, I2, .cons r1 r2, q2⟩

def tTup (t : TA) : TE := fun σ H Q => t σ H fun xs H1 => xs.length ≤ sizeLine ∧ ∀ p, H1 p = none → Q (.ref p) (upd H1 p (.tup xs))
def tLst (t : TA) : TE := fun σ H Q => t σ H fun xs H1 => xs.length ≤ sizeLine ∧ ∀ p, H1 p = none → Q (.ref p) (upd H1 p (.lst xs))
theorem pe_tup {x1} (h : PA X es t) : PE X (.Tuple es x1 pos) (tTup t) := by
  intro pins s σ H Q I hq
  refine wpAny_Tuple_spliced (thn (h pos pins s σ H _ I hq) fun us s1 ⟨xs, H1, I1, r, z, q⟩ => ⟨by rw [← r.length]; exact z, ?_⟩)
  have hf : H1 s1.heap.objs.size = none := I1.hok.fresh (Nat.le_refl _)
  refine ⟨.ref s1.heap.objs.size, upd H1 s1.heap.objs.size (.tup xs), I1.laid (t' := s1.toks) (fun b u e => Heap.get?_push_of_some _ e) (Nat.le_refl _) ?_, rfl, q _ hf⟩
  exact ⟨z, us, r, ⟨_, Heap.get?_push_size _ rfl, rfl, _, rfl⟩⟩
theorem pe_lst (h : PA X es t) : PE X (.List es pos) (tLst t) := by
  intro pins s σ H Q I hq
  refine wpAny_List_spliced (thn (h pos pins s σ H _ I hq) fun us s1 ⟨xs, H1, I1, r, z, q⟩ => ⟨by rw [← r.length]; exact z, ?_⟩)
  have hf : H1 s1.heap.objs.size = none := I1.hok.fresh (Nat.le_refl _)
  refine ⟨.ref s1.heap.objs.size, upd H1 s1.heap.objs.size (.lst xs), I1.laid (t' := s1.toks) (fun b u e => Heap.get?_push_of_some _ e) (Nat.le_refl _) ?_, rfl, q _ hf⟩
  exact ⟨z, us, 0, r, Heap.get?_push_size _ rfl⟩
end

abbrev Sp := List V → Hp → VK → XK → Prop
abbrev CXT := List Env → Hp → Shared → XK → Value → Shared → Prop

structure Env0 (P : Program) (w : World) (K : PySem.W.Frag) (mg : Str → Option Value) (base : Heap) (A : Around) (outer : List Env) (s : Shared) (H : Hp) : Prop where
  frames : A.frames = some outer
  mod : Mod K mg base
  bs : ∀ b o, base.get? b = some o → s.heap.get? b = some o ∧ H b = none
  bsz : base.objs.size ≤ s.heap.objs.size
  funs : s.heap.FunFrames base outer
  frf : ∀ b ∈ frs outer, H b = none
  hok : HOk P w H s.heap
  bare : AllBare s.gens
def CE (outer : List Env) (P : Program) (w : World) (H : Hp) (s : Shared) (Q : VK) (u : Value) (s' : Shared) : Prop :=
  ∃ v H', s'.os = s.os ∧ AllBare s'.gens ∧ Un (frs outer) [] H H' s.heap s'.heap ∧ HOk P w H' s'.heap ∧ RelV v u ∧ Q v H'
def CR (CX : CXT) (outer : List Env) (P : Program) (w : World) (H : Hp) (s : Shared) (Q : VK) (E : XK) (r : Result) (s' : Shared) : Prop :=
  match r with
  | .ok (.ret u) => CE outer P w H s Q u s'
  | .ok _ => False
  | .error e => CX outer H s E e s'
structure FnOk (P : Program) (w : World) (K : PySem.W.Frag) (mg : Str → Option Value) (base : Heap) (CX : CXT) (k : Nat) (f : Addr) (fd : FuncData) (ps : List Str) (sp : Sp) : Prop where
  len : ∀ vs H Q E, sp vs H Q E → vs.length = ps.length
  run : ∀ (A : Around) (outer : List Env) (s : Shared) (H : Hp) (args : Args) (us : List Value) (vs : List V) (Q : VK) (E : XK), Room k A → Env0 P w K mg base A outer s H → BindsTo s fd args (ps.zip us) → Vals vs us → sp vs H Q E →
    codeAny (model P w) A (.call (.ref f) args) (CR CX outer P w H s Q E) s
theorem FnOk.mono {P : Program} {w : World} {K : PySem.W.Frag} {mg : Str → Option Value} {base : Heap} {CX : CXT} {j k : Nat} {f : Addr} {fd : FuncData} {ps : List Str} {sp : Sp} (F : FnOk P w K mg base CX j f fd ps sp) (h : j ≤ k) :
    FnOk P w K mg base CX k f fd ps sp := ⟨F.len, fun A outer s H args us vs Q E hr => F.run A outer s H args us vs Q E (hr.mono h)⟩
theorem FnOk.imp {P : Program} {w : World} {K : PySem.W.Frag} {mg : Str → Option Value} {base : Heap} {CX : CXT} {k : Nat} {f : Addr} {fd : FuncData} {ps : List Str} {sp sp' : Sp} (F : FnOk P w K mg base CX k f fd ps sp)
    (h : ∀ vs H Q E, sp' vs H Q E → sp vs H Q E) : FnOk P w K mg base CX k f fd ps sp' :=
  ⟨fun vs H Q E q => F.len vs H Q E (h _ _ _ _ q), fun A outer s H args us vs Q E hr he hb hv hs => F.run A outer s H args us vs Q E hr he hb hv (h _ _ _ _ hs)⟩

theorem Env0.make {P : Program} {w : World} {K : PySem.W.Frag} {mg : Str → Option Value} {base : Heap} {A : Around} {outer : List Env} {s : Shared} {H : Hp} (e : Env0 P w K mg base A outer s H) (C : Addr) (us : List Value) (kw : List (Str × Value)) :
    Env0 P w K mg base (A.under (.builtin "type.__call__" ⟨.ref C :: us, kw⟩)) outer s H := ⟨by first | exact e.frames | (simpa [Around.under, Code.envs, Code.isFrame, pushEnvs] using e.frames), e.mod, e.bs, e.bsz, e.funs, e.frf, e.hok, e.bare⟩
theorem Env0.in1 {P : Program} {w : World} {K : PySem.W.Frag} {mg : Str → Option Value} {base : Heap} {A : Around} {outer : List Env} {s : Shared} {H : Hp} (e : Env0 P w K mg base A outer s H) :
    Env0 P w K mg base A.in1 outer s H := ⟨e.frames, e.mod, e.bs, e.bsz, e.funs, e.frf, e.hok, e.bare⟩

section
variable {X : Cx} {pins : List (Addr × Obj)} {σ : St} {H : Hp} {s s' : Shared}
theorem Inv.env0 (I : Inv X pins σ H s) : Env0 X.prog X.w X.K X.mg X.base X.A X.stack s H :=
  ⟨I.ok.frames, I.ok.mod, I.bs, Nat.le_trans I.ok.bsz I.sz, I.stack, I.stkFree, I.hok, I.bare⟩
theorem Inv.after {Q : VK} {u : Value} (I : Inv X pins σ H s) (h : CE X.stack X.prog X.w H s Q u s') : EP X pins σ Q u s' := by
  obtain ⟨v, H', os, bare, un, hok, r, q⟩ := h
  obtain ⟨hh, g, d, t, os'⟩ := s'
  obtain rfl : os' = s.os := os
  exact ⟨v, H', I.call (h' := hh) (g' := g) (d' := d) (t' := t) (ch := []) un hok bare (fun b z => absurd z (by simp)), r, q⟩
end

def tCall (sp : Sp) (dvs : List V) (E : XK) (t : TA) : TE := fun σ H Q => t σ H fun vs H1 => sp (vs ++ dvs) H1 Q E
def tMeth (C : Addr) (m : Str) (sp : Sp) (dvs : List V) (E : XK) (ta : TE) (t : TA) : TE := fun σ H Q => ta σ H fun x H1 => ∃ a dx fs, x = .ref a ∧ H1 a = some (.ins C dx fs) ∧ fs.lookup m = none ∧
  t σ H1 fun vs H2 => sp (x :: (vs ++ dvs)) H2 Q E
def tMake (C : Addr) (sp : Sp) (dvs : List V) (E : XK) (t : TA) : TE := fun σ H Q => t σ H fun vs H1 => ∀ x dx, H1 x = none → H1 dx = none → dx ≠ x →
  sp (.ref x :: (vs ++ dvs)) (upd (upd H1 dx (.own x)) x (.ins C dx [])) (fun v H2 => v = .non ∧ Q (.ref x) H2) E

def Binds (K : PySem.W.Frag) (fd : FuncData) (ps : List Str) (ds : List Value) : Prop :=
  ∀ (s : Shared) (us : List Value), K.In s.heap → (us ++ ds).length = ps.length → BindsTo s fd ⟨us, []⟩ (ps.zip (us ++ ds))
theorem Binds.all {K : PySem.W.Frag} {fd : FuncData} {ps : List Str} (h : ∀ us : List Value, us.length = ps.length → bindArgs fd ⟨us, []⟩ = pure (ps.zip us)) : Binds K fd ps [] := fun s us _ hl => by
  rw [List.append_nil] at hl ⊢
  exact .of_eq (h us hl)

def Passes (CX : CXT) (X : Cx) (E : XK) : Prop := ∀ (pins : List (Addr × Obj)) (σ : St) (H : Hp) (s : Shared) (e : Value) (s' : Shared), Inv X pins σ H s → CX X.stack H s E e s' → X.xe e s'

section
variable {X : Cx} {CX : CXT} {k : Nat} {f C : Addr} {fd : FuncData} {ps : List Str} {sp : Sp} {dvs : List V} {ds : List Value} {E : XK} {x m : Str} {p pos apos : Pos} {e o : Expr} {es : List Expr} {ta : TE} {t : TA}

theorem run_fn {pins : List (Addr × Obj)} {σ : St} {H : Hp} {s : Shared} {Q : VK} {us : List Value} {vs : List V} (F : FnOk X.prog X.w X.K X.mg X.base CX k f fd ps sp) (hr : Room k X.A) (hb : Binds X.K fd ps ds) (hd : Vals dvs ds) (hx : Passes CX X E)
    (I : Inv X pins σ H s) (r : Vals vs us) (h : sp (vs ++ dvs) H Q E) : wpAny (model X.prog X.w) X.A (call (.ref f) us) (EP X pins σ Q) X.xe s := by
  have r2 : Vals (vs ++ dvs) (us ++ ds) := r.append hd
  have hl : (us ++ ds).length = ps.length := by rw [← r2.length]; exact F.len _ _ _ _ h
  refine wpAny_call (codeAny_mono (F.run X.A X.stack s H ⟨us, []⟩ (us ++ ds) (vs ++ dvs) Q E hr I.env0 (hb s us I.kIn hl) r2 h) fun r s' hq => ?_)
  cases r with
  | error e => exact hx pins σ H s e s' I hq
  | ok fl =>
    cases fl with
    | ret u => exact I.after hq
    | next => exact False.elim hq
    | brk => exact False.elim hq
    | cont => exact False.elim hq

theorem pe_call (F : FnOk X.prog X.w X.K X.mg X.base CX k f fd ps sp) (hr : Room k X.A) (hg : Gl X x) (hm : X.mg x = some (.ref f)) (hk : PySem.W.keepIn X.K (.ref f) = true) (hb : Binds X.K fd ps ds) (hd : Vals dvs ds) (hx : Passes CX X E)
    (ha : PA X (e :: es) t) (hdb : (x == ("__debug__" : Str)) = false := by decide) (he : starEach (e :: es) X.env = (false, eval e X.env) :: starEach es X.env := by rfl) (hpl : (backTo pos (starEach es X.env)).any (·.1) = false := by rfl) :
    PE X (.Call (.Name x p) (e :: es) [] pos) (tCall sp dvs E t) := by
  intro pins s σ H Q I h
  refine wpAny_Call_Name_kw (ld_glob I hg hm ?_ hdb)
  refine PySem.W.callWith_K (h₀ := X.base) I.ok.mod.kin hk (thn (ha pos pins s σ H _ I h) fun us s1 ⟨vs, H1, I1, r, q⟩ => ⟨I1.kIn, ?_⟩) he hpl
  exact run_fn F hr hb hd hx I1 r q
theorem pe_call0 (F : FnOk X.prog X.w X.K X.mg X.base CX k f fd ps sp) (hr : Room k X.A) (hg : Gl X x) (hm : X.mg x = some (.ref f)) (hk : PySem.W.keepIn X.K (.ref f) = true) (hb : Binds X.K fd ps ds) (hd : Vals dvs ds) (hx : Passes CX X E)
    (hdb : (x == ("__debug__" : Str)) = false := by decide) : PE X (.Call (.Name x p) [] [] pos) (tCall sp dvs E tNil) := by
  intro pins s σ H Q I h
  refine wpAny_Call_Name_kw (ld_glob I hg hm ?_ hdb)
  exact PySem.W.callWith_K0 I.kIn hk (run_fn (us := []) F hr hb hd hx I .nil h)

theorem pe_meth {pl : Sem Bool} (he : PE X o ta) (c : Cls X.K C) (hm : Meth X.K C m f) (F : FnOk X.prog X.w X.K X.mg X.base CX k f fd ps sp) (hr : Room k X.A) (hb : Binds X.K fd ps ds) (hd : Vals dvs ds) (hx : Passes CX X E) (ha : PA X (e :: es) t)
    (hst : starEach (e :: es) X.env = (false, eval e X.env) :: starEach es X.env := by rfl) (hpl : (backTo pos (starEach es X.env)).any (·.1) = false := by rfl)
    (ht : eval (.Call (.Attribute o m apos) (e :: es) [] pos) X.env = (do
      let ov ← eval o X.env
      standAt apos.atName
      let (f, first) ← holding [ov] (getMethod ov m pl)
      callWith pos f first (backTo pos (starEach (e :: es) X.env)) (backToKw pos (keywordEach [] X.env))) := by rfl) :
    PE X (.Call (.Attribute o m apos) (e :: es) [] pos) (tMeth C m sp dvs E ta t) := by
  intro pins s σ H Q I h
  refine PySem.W.methodCall_KW (pl := pl) (thn (he pins s σ H _ I h) fun u s1 ⟨x, H1, I1, rx, a, dx, fs, ex, ea, l, q⟩ => ?_) ht
  subst ex
  obtain rfl : u = Value.ref a := rx
  refine getmeth_ok I1 ea c hm l ?_
  refine PySem.W.callWith_K (first := [.ref a]) (h₀ := X.base) I.ok.mod.kin hm.kp (thn (ha pos pins s1 σ H1 _ I1 q) fun us s2 ⟨vs, H2, I2, r, q2⟩ => ⟨I2.kIn, ?_⟩) hst hpl
  exact run_fn (us := .ref a :: us) (vs := .ref a :: vs) F hr hb hd hx I2 (.cons rfl r) q2
theorem pe_meth0 {pl : Sem Bool} (he : PE X o ta) (c : Cls X.K C) (hm : Meth X.K C m f) (F : FnOk X.prog X.w X.K X.mg X.base CX k f fd ps sp) (hr : Room k X.A) (hb : Binds X.K fd ps ds) (hd : Vals dvs ds) (hx : Passes CX X E)
    (ht : eval (.Call (.Attribute o m apos) [] [] pos) X.env = (do
      let ov ← eval o X.env
      standAt apos.atName
      let (f, first) ← holding [ov] (getMethod ov m pl)
      callWith pos f first (backTo pos (starEach [] X.env)) (backToKw pos (keywordEach [] X.env))) := by rfl) :
    PE X (.Call (.Attribute o m apos) [] [] pos) (tMeth C m sp dvs E ta tNil) := by
  intro pins s σ H Q I h
  refine PySem.W.methodCall_KW (pl := pl) (thn (he pins s σ H _ I h) fun u s1 ⟨x, H1, I1, rx, a, dx, fs, ex, ea, l, q⟩ => ?_) ht
  subst ex
  obtain rfl : u = Value.ref a := rx
  refine getmeth_ok I1 ea c hm l ?_
  exact PySem.W.callWith_K0 (first := [.ref a]) I1.kIn hm.kp (run_fn (us := [.ref a]) (vs := [.ref a]) F hr hb hd hx I1 (.cons rfl .nil) q)

structure Mk (K : PySem.W.Frag) (C f : Addr) : Prop where
  makes : PySem.W.makesIn K C = true
  init : PySem.W.findIn K (.ref C) "__init__" = some (some (.ref f))
  fn : PySem.W.isFn K (.ref f) = true
  kp : PySem.W.keepIn K (.ref C) = true

theorem run_make {pins : List (Addr × Obj)} {σ : St} {H : Hp} {s : Shared} {Q : VK} {us : List Value} {vs : List V} (M : Mk X.K C f) (F : FnOk X.prog X.w X.K X.mg X.base CX k f fd ps sp) (hr : Room (k + 1) X.A) (hb : Binds X.K fd ps ds) (hd : Vals dvs ds)
    (hx : Passes CX X E) (I : Inv X pins σ H s) (r : Vals vs us)
    (h : ∀ x dx, H x = none → H dx = none → dx ≠ x → sp (.ref x :: (vs ++ dvs)) (upd (upd H dx (.own x)) x (.ins C dx [])) (fun v H2 => v = .non ∧ Q (.ref x) H2) E) :
    wpAny (model X.prog X.w) X.A (call (.ref C) us) (EP X pins σ Q) X.xe s := by
  have hq := h (s.heap.objs.size + 1) s.heap.objs.size (I.hok.fresh (Nat.le_succ _)) (I.hok.fresh (Nat.le_refl _)) (Nat.ne_of_lt (Nat.lt_succ_self _))
  have I2 := Inv.made (C := C) I
  have r2 : Vals (V.ref (s.heap.objs.size + 1) :: (vs ++ dvs)) (Value.ref (s.heap.objs.size + 1) :: (us ++ ds)) := .cons rfl (r.append hd)
  have hl : (Value.ref (s.heap.objs.size + 1) :: us ++ ds).length = ps.length := by
    have e := r2.length
    rw [F.len _ _ _ _ hq] at e
    exact e.symm
  refine wpAny_call (make_map (f := f) I.kIn M.makes M.init (beq_iff_eq.mp M.fn) (codeAny_mono (F.run _ X.stack _ _ ⟨Value.ref (s.heap.objs.size + 1) :: us, []⟩ (Value.ref (s.heap.objs.size + 1) :: (us ++ ds)) _ _ E (hr.make C us [])
    (I2.env0.make C us []) (hb _ (Value.ref (s.heap.objs.size + 1) :: us) I2.kIn hl) r2 hq) fun r s' hq' => ?_))
  cases r with
  | error e => exact hx pins σ _ _ e s' I2 hq'
  | ok fl =>
    cases fl with
    | ret u =>
      obtain ⟨v, H', I3, rv, ev, q3⟩ := I2.after hq'
      subst ev
      exact ⟨rv, ⟨V.ref (s.heap.objs.size + 1), H', I3, rfl, q3⟩⟩
    | next => exact False.elim hq'
    | brk => exact False.elim hq'
    | cont => exact False.elim hq'
theorem pe_make (M : Mk X.K C f) (F : FnOk X.prog X.w X.K X.mg X.base CX k f fd ps sp) (hr : Room (k + 1) X.A) (hg : Gl X x) (hm : X.mg x = some (.ref C)) (hb : Binds X.K fd ps ds) (hd : Vals dvs ds) (hx : Passes CX X E)
    (ha : PA X (e :: es) t) (hdb : (x == ("__debug__" : Str)) = false := by decide) (he : starEach (e :: es) X.env = (false, eval e X.env) :: starEach es X.env := by rfl) (hpl : (backTo pos (starEach es X.env)).any (·.1) = false := by rfl) :
    PE X (.Call (.Name x p) (e :: es) [] pos) (tMake C sp dvs E t) := by
  intro pins s σ H Q I h
  refine wpAny_Call_Name_kw (ld_glob I hg hm ?_ hdb)
  refine PySem.W.callWith_K (h₀ := X.base) I.ok.mod.kin M.kp (thn (ha pos pins s σ H _ I h) fun us s1 ⟨vs, H1, I1, r, q⟩ => ⟨I1.kIn, ?_⟩) he hpl
  exact run_make M F hr hb hd hx I1 r q
end

section
variable {X : Cx} {CX : CXT} {k : Nat} {f C : Addr} {fd : FuncData} {ps ks : List Str} {sp : Sp} {E : XK} {x m : Str} {p pos apos kpos : Pos} {e o : Expr} {es : List Expr} {kws : List Keyword} {te ta : TE} {t tk : TA} {nm : Option Str}
variable {g : List Value → List Value → List Value} {gV : List V → List V → List V}
end

structure FnScope (N P : List Str) (sc : Scope) : Prop where
  kind : sc.kind = .function
  co : sc.isCoroutine = false
  gen : sc.isGenerator = false
  nd : N.Nodup
  pre : N.take P.length = P
  par : ∀ x ∈ P, sc.names.lookup x = some .local ∨ sc.names.lookup x = some .cell
  nofree : ∀ y ∈ sc.names, y.2 ≠ .free

theorem bindL_out {kindOf : Str → Option NameKind} {x : Str} : ∀ {binds : List (Str × Value)} {m : Str → Option Value}, (∀ v, (x, v) ∉ binds) → bindL kindOf binds m x = m x
  | [], _, _ => rfl
  | (n, v) :: r, m, h => by
    unfold bindL
    rw [bindL_out fun w hw => h w (List.mem_cons_of_mem _ hw)]
    split
    · have : x ≠ n := by rintro rfl; exact h v List.mem_cons_self
      simp [this]
    · rfl
theorem bindC_out {kindOf : Str → Option NameKind} {x : Str} : ∀ {binds : List (Str × Value)} {m : Str → Option Value}, (∀ v, (x, v) ∉ binds) → bindC kindOf binds m x = m x
  | [], _, _ => rfl
  | (n, v) :: r, m, h => by
    unfold bindC
    rw [bindC_out fun w hw => h w (List.mem_cons_of_mem _ hw)]
    split
    · rfl
    · have : x ≠ n := by rintro rfl; exact h v List.mem_cons_self
      simp [this]
theorem bindL_get {kindOf : Str → Option NameKind} {x : Str} {v : Value} : ∀ {P : List Str} {vs : List Value} {i : Nat} {m : Str → Option Value}, P.Nodup → P[i]? = some x → vs[i]? = some v → kindOf x = some .local →
    bindL kindOf (P.zip vs) m x = some v
  | [], _, _, _, _, h, _, _ => by simp at h
  | _ :: _, [], _, _, _, _, h, _ => by simp at h
  | p :: P, w :: vs, 0, m, nd, h1, h2, hk => by
    simp at h1 h2; subst h1; subst h2
    show bindL kindOf ((p, w) :: P.zip vs) m p = _
    unfold bindL
    rw [bindL_out fun v hv => (List.nodup_cons.mp nd).1 (List.of_mem_zip hv).1, if_pos hk]
    simp
  | p :: P, w :: vs, i + 1, m, nd, h1, h2, hk => by
    show bindL kindOf ((p, w) :: P.zip vs) m x = _
    unfold bindL
    exact bindL_get (i := i) (List.nodup_cons.mp nd).2 (by simpa using h1) (by simpa using h2) hk
theorem bindC_get {kindOf : Str → Option NameKind} {x : Str} {v : Value} : ∀ {P : List Str} {vs : List Value} {i : Nat} {m : Str → Option Value}, P.Nodup → P[i]? = some x → vs[i]? = some v → kindOf x ≠ some .local →
    bindC kindOf (P.zip vs) m x = some v
  | [], _, _, _, _, h, _, _ => by simp at h
  | _ :: _, [], _, _, _, _, h, _ => by simp at h
  | p :: P, w :: vs, 0, m, nd, h1, h2, hk => by
    simp at h1 h2; subst h1; subst h2
    show bindC kindOf ((p, w) :: P.zip vs) m p = _
    unfold bindC
    rw [bindC_out fun v hv => (List.nodup_cons.mp nd).1 (List.of_mem_zip hv).1, if_neg hk]
    simp
  | p :: P, w :: vs, i + 1, m, nd, h1, h2, hk => by
    show bindC kindOf ((p, w) :: P.zip vs) m x = _
    unfold bindC
    exact bindC_get (i := i) (List.nodup_cons.mp nd).2 (by simpa using h1) (by simpa using h2) hk

def start (N : List Str) (vs : List V) : St := vs.map some ++ List.replicate (N.length - vs.length) none

def cxOf (CX : CXT) (P : Program) (w : World) (K : PySem.W.Frag) (mg : Str → Option Value) (base : Heap) (N : List Str) (qual : Str) (scope : Scope) (f : Addr) (cd : Value) (A : Around) (outer : List Env) (s : Shared) (H : Hp) (E : XK) : Cx where
  prog := P
  w := w
  K := K
  mg := mg
  base := base
  A := A.deeper (envOfC qual scope s.heap.objs.size f cd)
  N := N
  s_0 := s
  H_0 := H
  env := envOfC qual scope s.heap.objs.size f cd
  outer := outer
  stack := envOfC qual scope s.heap.objs.size f cd :: outer
  ex := []
  calm := true
  fn := fun _ => true
  pn := []
  xe := fun e s' => wpAny (model P w) (A.deeper (envOfC qual scope s.heap.objs.size f cd)) (leaving (envOfC qual scope s.heap.objs.size f cd) e) (fun _ s'' => CX outer H s E e s'') (fun e' s'' => CX outer H s E e' s'') s'

theorem cell_has {sc : Scope} {n : Nat} {x : Str} (h : sc.names.lookup x = some .cell) : ∃ c, (cellsFrom n sc.names []).lookup x = some c := by
  have q := PySem.W.cellsFrom_some sc.names n [] (.inl h)
  exact Option.isSome_iff_exists.mp q

theorem inv_start {CX : CXT} {P : Program} {w : World} {K : PySem.W.Frag} {mg : Str → Option Value} {base : Heap} {N ps : List Str} {qual : Str} {scope : Scope} {f : Addr} {cd : Value} {A : Around} {outer : List Env} {s s1 : Shared} {H : Hp} {E : XK} {us : List Value} {vs : List V}
    (S : FnScope N ps scope) (hd : A.handled = none) (e0 : Env0 P w K mg base A outer s H) (hl : vs.length = ps.length) (r : Vals vs us)
    (x : InCallC s s.heap.objs.size (bindL (envOfC qual scope s.heap.objs.size f cd).kindOf (ps.zip us) fun _ => none) (cellsFrom (s.heap.objs.size + 1) scope.names []) (bindC (envOfC qual scope s.heap.objs.size f cd).kindOf (ps.zip us) fun _ => none) s1) :
    Inv (cxOf CX P w K mg base N qual scope f cd A outer s H E) [] (start N vs) H s1 := by
  have hpl : ps.length ≤ N.length := by have := congrArg List.length S.pre; rw [List.length_take] at this; omega
  obtain ⟨h1, tk, rfl, hk⟩ := x.done
  have noA : ∀ b : Addr, b ∉ (cxOf CX P w K mg base N qual scope f cd A outer s H E).ex := fun b z => absurd (show b ∈ ([] : List Addr) from z) (by simp)
  refine ⟨⟨e0.mod, S.kind, rfl, rfl, Nat.le_refl _, fun y z c h1 h2 => ?_, fun y hy => ?_, fun y c _ h => ?_, fun _ => hd, Around.frames_deeper e0.frames, .inr ⟨rfl, rfl⟩, fun b z => absurd z (noA b), e0.bs, e0.bsz, fun b _ _ => noA b, fun b z => absurd z (noA b), e0.funs, e0.frf⟩,
    rfl, e0.bare, Un.kept hk, ⟨_, x.toInCall.ns, fun i y v h1 h2 h3 => ?_⟩, fun y c h => ⟨_, x.cell y c h⟩, e0.hok.fresh (Nat.le_refl _), fun y c h => ?_, fun p hp => absurd (show p ∈ ([] : List (Addr × Obj)) from hp) (by simp), e0.hok.kept hk, ?_⟩
  · exact name_of_addr x.apart (PySem.mem_of_lookup h1) (PySem.mem_of_lookup h2)
  · have hy : scope.names.lookup y = some .cell ∨ scope.names.lookup y = some .free := hy
    rcases hy with hy | hy
    · exact cell_has hy
    · exact absurd rfl (S.nofree _ (PySem.mem_of_lookup hy))
  · exact Nat.le_of_lt (x.above y c (PySem.mem_of_lookup h))
  · have hi : i < vs.length := by
      unfold start at h2
      by_cases hi : i < vs.length
      · exact hi
      · rw [List.getElem?_append_right (by simpa using hi)] at h2
        rw [List.getElem?_replicate] at h2
        split at h2 <;> cases h2
    have ha : vs[i]? = some v := by
      unfold start at h2
      rw [List.getElem?_append_left (by simpa using hi), List.getElem?_map] at h2
      cases e : vs[i]? with
      | none => rw [e] at h2; cases h2
      | some a => rw [e] at h2; cases h2; rfl
    obtain ⟨u, hu, rv⟩ := r.get ha
    have hp : ps[i]? = some y := by
      rw [← S.pre, List.getElem?_take_of_lt (by omega)]; exact h1
    have ndP : ps.Nodup := by rw [← S.pre]; exact S.nd.sublist (List.take_sublist _ _)
    refine ⟨u, rv, ?_⟩
    rcases S.par y (List.mem_of_getElem? hp) with k | k
    · exact .inl ⟨k, bindL_get ndP hp hu k⟩
    · obtain ⟨c, e⟩ := cell_has (n := s.heap.objs.size + 1) k
      refine .inr ⟨.inl k, c, e, ?_⟩
      have q := x.cell y c e
      rw [bindC_get ndP hp hu (by show scope.names.lookup y ≠ _; rw [k]; decide)] at q
      exact q
  · exact e0.hok.fresh (Nat.le_of_lt (x.above y c (PySem.mem_of_lookup h)))
  · unfold start
    show _ = N.length
    rw [List.length_append, List.length_map, List.length_replicate]
    omega

theorem fn_of {CX : CXT} {P : Program} {w : World} {K : PySem.W.Frag} {mg : Str → Option Value} {base : Heap} {k : Nat} {f : Addr} {name qual : Str} {params : Arguments} {body : List Stmt} {scope : Scope} {dV kV doc pm cdv ct oc : Value} {an od : Option Addr}
    {osl : Array (Option Value)} {N ps : List Str} {sp : Sp} (lk : K.lookup f = some ⟨oc, od, .func (PySem.W.fnOf name qual params body scope dV kV doc pm an cdv ct), osl⟩) (hcd : PySem.W.codeIn K cdv qual = true) (S : FnScope N ps scope)
    (len : ∀ vs H Q E, sp vs H Q E → vs.length = ps.length)
    (hbody : ∀ (A : Around) (outer : List Env) (s : Shared) (H : Hp) (vs : List V) (Q : VK) (E : XK), Room k (A.deeper (envOfC qual scope s.heap.objs.size f cdv)) → sp vs H Q E →
      ∃ t, PSs (cxOf CX P w K mg base N qual scope f cdv A outer s H E) body t ∧ t { nx := fun _ H' => Q .non H', rt := Q } (start N vs) H) :
    FnOk P w K mg base CX (k + 1) f (PySem.W.fnOf name qual params body scope dV kV doc pm an cdv ct) ps sp := by
  refine ⟨len, fun A outer s H args us vs Q E hr e0 hb r hsp => ?_⟩
  have hl := len _ _ _ _ hsp
  have KX : K.In s.heap := e0.mod.kin.keeps fun b o e => (e0.bs b o e).1
  have lim : s.heap.NoLimit := e0.mod.nolimit.keeps fun b o e => (e0.bs b o e).1
  have hkind : ∀ y ∈ ps.zip us, scope.names.lookup y.1 = some .local ∨ (scope.names.lookup y.1 = some .cell ∧ ((cellsFrom (s.heap.objs.size + 1) scope.names []).lookup y.1).isSome = true) := fun ⟨n, v⟩ hy => by
    rcases S.par n (List.of_mem_zip hy).1 with q | q
    · exact .inl q
    · exact .inr ⟨q, PySem.W.cellsFrom_some _ _ _ (.inl q)⟩
  refine codeAny_call_function hr.depth (KX _ _ lk) rfl S.co S.gen rfl (PySem.W.codeRec_of KX hcd) (hb _ _ _ _ ?_)
  refine wpAny_newFunctionEnv_cells S.kind hkind fun env he s1 x => ?_
  subst he
  refine ⟨lim.keeps x.toInCall.keep, codeAny_func ?_⟩
  obtain ⟨t, ht, hq⟩ := hbody A outer s H vs Q E (hr.deeper _) hsp
  have I : Inv (cxOf CX P w K mg base N qual scope f cdv A outer s H E) [] (start N vs) H s1 := inv_start S hr.hd e0 hl r x
  refine wpAny_mono (ht [] s1 (start N vs) H _ I hq) (fun fl s' hs => ?_) fun e s' hs => hs
  have fin : ∀ {σ' : St} {H' : Hp} {v : V} {u : Value}, Inv (cxOf CX P w K mg base N qual scope f cdv A outer s H E) [] σ' H' s' → RelV v u → Q v H' → CE outer P w H s Q u s' :=
    fun {σ' H' v u} J rv q => ⟨v, H', J.os, J.bare, J.base, J.hok, rv, q⟩
  cases fl with
  | ret u =>
    obtain ⟨v, σ', H', J, rv, q⟩ := hs
    exact fin J rv q
  | next =>
    obtain ⟨σ', H', J, q⟩ := hs
    exact fin (v := V.non) (u := Value.none) J rfl q
  | brk =>
    obtain ⟨_, _, _, q⟩ := hs
    exact False.elim q
  | cont =>
    obtain ⟨_, _, _, q⟩ := hs
    exact False.elim q
end L2

namespace L2
open PySem PySem.Spec PyProof.Rows
section
variable {X : Cx} {x : Str} {p pos : Pos} {e : Expr} {es : List Expr} {t : TA} {id T : String} {r : List V → Hp → VK → Prop}

def tCB (r : List V → Hp → VK → Prop) (t : TA) : TE := fun σ H Q => t σ H fun vs H1 => r vs H1 Q
theorem pe_callB (hc : CallR X (.builtin id) r) (hg : Gl X x) (hm : X.mg x = none) (hv : bootBuiltins x = some (.builtin id)) (ha : PA X (e :: es) t) (hn : x ≠ "__name__" := by decide) (hdb : (x == ("__debug__" : Str)) = false := by decide)
    (he : starEach (e :: es) X.env = (false, eval e X.env) :: starEach es X.env := by rfl) (hpl : (backTo pos (starEach es X.env)).any (·.1) = false := by rfl) : PE X (.Call (.Name x p) (e :: es) [] pos) (tCB r t) := by
  intro pins s σ H Q I h
  refine wpAny_Call_Name_kw (ld_blt I hg hm hv ?_ hn hdb)
  exact PyProof.Rows.callWith_builtin1 (thn (ha pos pins s σ H _ I h) fun us s1 ⟨vs, H1, I1, r1, q1⟩ => hc pins s1 σ H1 vs us Q I1 r1 q1) he hpl
theorem pe_callTy (hc : CallR X (.type T) r) (hg : Gl X x) (hm : X.mg x = none) (hv : bootBuiltins x = some (.type T)) (ha : PA X (e :: es) t) (hn : x ≠ "__name__" := by decide) (hdb : (x == ("__debug__" : Str)) = false := by decide)
    (he : starEach (e :: es) X.env = (false, eval e X.env) :: starEach es X.env := by rfl) (hpl : (backTo pos (starEach es X.env)).any (·.1) = false := by rfl) : PE X (.Call (.Name x p) (e :: es) [] pos) (tCB r t) := by
  intro pins s σ H Q I h
  refine wpAny_Call_Name_kw (ld_blt I hg hm hv ?_ hn hdb)
  exact PyProof.Rows.callWith_type1 (thn (ha pos pins s σ H _ I h) fun us s1 ⟨vs, H1, I1, r1, q1⟩ => hc pins s1 σ H1 vs us Q I1 r1 q1) he hpl
theorem pe_callTy0 (hc : CallR X (.type T) r) (hg : Gl X x) (hm : X.mg x = none) (hv : bootBuiltins x = some (.type T)) (hn : x ≠ "__name__" := by decide) (hdb : (x == ("__debug__" : Str)) = false := by decide) :
    PE X (.Call (.Name x p) [] [] pos) (tCB r tNil) := by
  intro pins s σ H Q I h
  refine wpAny_Call_Name_kw (ld_blt I hg hm hv ?_ hn hdb)
  exact PyProof.Rows.callWith_type0 (hc pins s σ H [] [] Q I .nil h)
end
end L2

namespace HT
open PySem PyProof.Rows

section
open PySem.SeqAt
open PySem.AutoSeq1 (wpAny_loadPart')
open PySem.MeetsSeq PySem.MeetsSeq2 PySem.MeetsSeq3

end

section
variable {prog : Program} {w : World} {A : Around} {E : Value → Shared → Prop} {s : Shared}

def sIx (n d : Nat) : Option Int → Nat
  | none => d
  | some v => if v < 0 then (v + (n : Int)).toNat else min v.toNat n
theorem sIx_none (n d : Nat) : sIx n d none = d := rfl
theorem sIx_nat (n d k : Nat) : sIx n d (some (k : Int)) = min k n := by
  show (if (k : Int) < 0 then ((k : Int) + (n : Int)).toNat else min (k : Int).toNat n) = min k n
  rw [if_neg (by omega), Int.toNat_natCast]
end
end HT

namespace L2
open PySem PySem.Spec PyProof.Rows

abbrev TO := St → Hp → (Option Int → Hp → Prop) → Prop
def PO (X : Cx) (e : Option Expr) (t : TO) : Prop :=
  ∀ (pins : List (Addr × Obj)) (s : Shared) (σ : St) (H : Hp) (Q : Option Int → Hp → Prop), Inv X pins σ H s → t σ H Q →
    wpAny (model X.prog X.w) X.A (evalPart e X.env) (fun u s' => ∃ o H', Inv X pins σ H' s' ∧ IsPart u o ∧ Q o H') X.xe s
def tNoPart : TO := fun _ H Q => Q none H
def tPart (t : TE) : TO := fun σ H Q => t σ H fun x H1 => ∃ i, x = .int i ∧ Q (some i) H1

section
variable {X : Cx} {e : Expr} {te : TE} {lo hi : Option Expr} {tl th : TO} {pos p2 : Pos}

theorem po_none : PO X none tNoPart := by
  intro pins s σ H Q I h
  rw [evalPart_none]
  exact wpAny_pure ⟨none, H, I, .none, h⟩
theorem po_some (h : PE X e te) : PO X (some e) (tPart te) := by
  intro pins s σ H Q I hw
  rw [evalPart_some]
  refine thn (h pins s σ H _ I hw) fun u s1 ⟨x, H1, I1, r1, q1⟩ => ?_
  obtain ⟨i, rfl, q⟩ := q1
  obtain ⟨t, rfl⟩ := r1
  exact ⟨some i, H1, I1, .int i t, q⟩

def SlR (X : Cx) (r : V → Option Int → Option Int → Hp → VK → Prop) : Prop :=
  ∀ (pins : List (Addr × Obj)) (s : Shared) (σ : St) (H : Hp) (x : V) (v vl vu : Value) (lo hi : Option Int) (sl : Addr) (Q : VK), Inv X pins σ H s → RelV x v → s.heap.IsSliceOf sl vl vu .none → IsPart vl lo → IsPart vu hi → r x lo hi H Q →
    ∃ T id, typeLookup (.type T) "__getitem__" = pure (some (.builtin id)) ∧ s.TypeIs v T ∧ wpAny (model X.prog X.w) X.A (getItem v (.ref sl)) (EP X pins σ Q) X.xe s
def tSl (r : V → Option Int → Option Int → Hp → VK → Prop) (te : TE) (tl th : TO) : TE := fun σ H Q => te σ H fun x H1 => tl σ H1 fun l H2 => th σ H2 fun u H3 => r x l u H3 Q
theorem pe_slice {r : V → Option Int → Option Int → Hp → VK → Prop} (hr : SlR X r) (he : PE X e te) (hl : PO X lo tl) (hu : PO X hi th) : PE X (.Subscript e (.Slice lo hi none p2) pos) (tSl r te tl th) := by
  intro pins s σ H Q I h
  refine Subscript_ (thn (he pins s σ H _ I h) fun v s1 ⟨x, H1, I1, r1, q1⟩ => ?_)
  refine wpAny_Slice (thn (hl pins s1 σ H1 _ I1 q1) fun vl s2 ⟨l, H2, I2, pl, q2⟩ => thn (hu pins s2 σ H2 _ I2 q2) fun vu s3 ⟨u, H3, I3, pu, q3⟩ => ?_)
  rw [evalPart_none]
  refine wpAny_pure ?_
  have I4 : Inv X pins σ H3 { s3 with heap := s3.heap.push { cls := .type "slice", data := .fields #[vl, vu, .none] } } := I3.kept (t' := s3.toks) fun b ob q => Heap.get?_push_of_some _ q
  obtain ⟨T, id, hT, ht, hg⟩ := hr pins { s3 with heap := s3.heap.push { cls := .type "slice", data := .fields #[vl, vu, .none] } } σ H3 x v vl vu l u s3.heap.objs.size Q I4 r1 (Heap.IsSliceOf.new ..) pl pu q3
  show wpAny (model X.prog X.w) X.A (subscriptTail e (.Slice lo hi none p2) v (.ref s3.heap.objs.size)) (EP X pins σ Q) X.xe { s3 with heap := s3.heap.push { cls := .type "slice", data := .fields #[vl, vu, .none] } }
  exact tail_any (ops := [.ref s3.heap.objs.size, v]) ht hT hg (by with_unfolding_all rfl)

def cutV (xs : List V) (lo hi : Option Int) : List V := (xs.drop (HT.sIx xs.length 0 lo)).take (HT.sIx xs.length xs.length hi - HT.sIx xs.length 0 lo)
theorem cutV_length (xs : List V) (lo hi : Option Int) : (cutV xs lo hi).length ≤ xs.length := by
  unfold cutV
  rw [List.length_take, List.length_drop]
  omega
end
end L2

namespace L2
open PySem PySem.Spec PyProof.Rows

def ixN (n : Nat) (i : Int) : Option Nat := if 0 ≤ i then (if i < n then some i.toNat else none) else if -(n : Int) ≤ i then some (i + n).toNat else none
def atI {α : Type} (xs : List α) (i : Int) : Option α := (ixN xs.length i).bind fun j => xs[j]?
theorem ixN_seq {n : Nat} {i : Int} {j : Nat} (h : ixN n i = some j) : seqIndex? i n = some j ∧ j < n ∧ -(n : Int) ≤ i ∧ i < n := by
  unfold ixN at h
  by_cases h0 : 0 ≤ i
  · rw [if_pos h0] at h
    by_cases h1 : i < n
    · rw [if_pos h1] at h
      have e : i.toNat = j := Option.some.inj h
      exact ⟨by rw [seqIndex_of h0 h1, e], by omega, by omega, h1⟩
    · rw [if_neg h1] at h; cases h
  · rw [if_neg h0] at h
    by_cases h1 : -(n : Int) ≤ i
    · rw [if_pos h1] at h
      have e : (i + n).toNat = j := Option.some.inj h
      exact ⟨by rw [seqIndex_neg (by omega) h1, e], by omega, h1, by omega⟩
    · rw [if_neg h1] at h; cases h
theorem atI_get {α : Type} {xs : List α} {i : Int} {v : α} (h : atI xs i = some v) : ∃ j, seqIndex? i xs.length = some j ∧ xs[j]? = some v ∧ j < xs.length ∧ -(xs.length : Int) ≤ i ∧ i < xs.length := by
  unfold atI at h
  cases e : ixN xs.length i with
  | none => rw [e] at h; cases h
  | some j =>
    rw [e] at h
    obtain ⟨h1, h2, h3, h4⟩ := ixN_seq e
    exact ⟨j, h1, h, h2, h3, h4⟩
theorem atI_nat {α : Type} {xs : List α} {j : Nat} {v : α} (h : xs[j]? = some v) : atI xs (j : Int) = some v := by
  have hj : j < xs.length := (List.getElem?_eq_some_iff.mp h).1
  have e : ixN xs.length (j : Int) = some j := by
    unfold ixN
    rw [if_pos (by omega), if_pos (by omega)]; simp
  unfold atI; rw [e]; exact h
def PlainIx (b : Expr) : Prop := ∀ o i, subscripted b false o i = operate [o, i] (getItem o i)
def IxR (X : Cx) (r : R2) : Prop :=
  ∀ (value slice : Expr) (pins : List (Addr × Obj)) (s : Shared) (σ : St) (H : Hp) (x y : V) (v u : Value) (Q : VK), Inv X pins σ H s → RelV x v → RelV y u → r x y H Q →
    subscripted slice false v u = operate [v, u] (getItem v u) → wpAny (model X.prog X.w) X.A (subscriptTail value slice v u) (EP X pins σ Q) X.xe s
def MtR (X : Cx) (id : String) (r : V → List V → Hp → VK → Prop) : Prop :=
  ∀ (pins : List (Addr × Obj)) (s : Shared) (σ : St) (H : Hp) (x : V) (xs : List V) (v : Value) (us : List Value) (Q : VK), Inv X pins σ H s → RelV x v → Vals xs us → r x xs H Q →
    wpAny (model X.prog X.w) X.A (call (.builtin id) (v :: us)) (EP X pins σ Q) X.xe s
section
variable {X : Cx} {a b : Expr} {ta tb : TE} {pos : Pos}
theorem pe_ix {r : R2} (hr : IxR X r) (ha : PE X a ta) (hb : PE X b tb) (hs : PlainIx b) : PE X (.Subscript a b pos) (tOp r ta tb) := by
  intro pins s σ H Q I h
  exact Subscript_ (binT ha hb I h fun v u s2 x y H2 I2 rx ry q => hr a b pins s2 σ H2 x y v u Q I2 rx ry q (hs _ _))

def rIxL (K : PySem.W.Frag) : R2 := fun x y H Q => ∃ p xs i v, x = .ref p ∧ y = .int i ∧ SqL K H p xs ∧ atI xs i = some v ∧ Q v H
def rIxT (K : PySem.W.Frag) : R2 := fun x y H Q => ∃ p xs i v, x = .ref p ∧ y = .int i ∧ SqT K H p xs ∧ atI xs i = some v ∧ Q v H
theorem ix_list : IxR X (rIxL X.K) := by
  intro value slice pins s σ H x y v u Q I rx ry h hs
  obtain ⟨p, xs, i, z, rfl, rfl, hq, he, q⟩ := h
  cases rx
  obtain ⟨t, rfl⟩ := ry
  obtain ⟨its, r, pl, hz⟩ := I.list hq
  obtain ⟨j, h1, h2, h3, h4, h5⟩ := atI_get he
  obtain ⟨w, ew, rw'⟩ := r.get h2
  have hl := r.length
  have hn := line63
  have fin : EP X pins σ Q w s := ⟨z, H, I, rw', q⟩
  by_cases h0 : 0 ≤ i
  · have hj : i.toNat = j := by
      rw [seqIndex_of h0 h5] at h1
      exact Option.some.inj h1
    exact item_listR pl.isList h0 (by omega) (by rw [hj]; simpa using ew) fin hs
  · have hj : (i + (its.toArray.size : Int)).toNat = j := by
      rw [seqIndex_neg (by omega) h4] at h1
      rw [List.size_toArray, ← hl]
      exact Option.some.inj h1
    exact subscriptTail_builtinR (x := w) pl.isList.typeIs slot_list_getitem.lookup
      (wpAny_getItem_list_neg (Q := fun r s' => r = w ∧ EP X pins σ Q r s') pl.isList (by omega) (by rw [List.size_toArray] <;> omega) (by omega) (by rw [hj]; simpa using ew) ⟨rfl, fin⟩) hs
theorem ix_tup : IxR X (rIxT X.K) := by
  intro value slice pins s σ H x y v u Q I rx ry h hs
  obtain ⟨p, xs, i, z, rfl, rfl, hq, he, q⟩ := h
  cases rx
  obtain ⟨t, rfl⟩ := ry
  obtain ⟨its, r, pl, hz⟩ := I.tuple hq
  obtain ⟨j, h1, h2, h3, h4, h5⟩ := atI_get he
  obtain ⟨w, ew, rw'⟩ := r.get h2
  have hl := r.length
  have hn := line63
  have fin : EP X pins σ Q w s := ⟨z, H, I, rw', q⟩
  exact subscriptTail_builtinR (x := w) pl.typeIs slot_tuple_getitem.lookup
    (getItem_tuple (j := j) (Q := fun r s' => r = w ∧ EP X pins σ Q r s') pl (by omega) (by omega) (by rw [List.size_toArray, ← hl]; exact h1) (by simpa using ew) ⟨rfl, fin⟩) hs
theorem mapSeq_set (its : List Value) (n j : Nat) (u : Value) : Obj.mapSeq (·.setIfInBounds j u) { cls := .type "list", data := .seq its.toArray n } = { cls := .type "list", data := .seq (its.set j u).toArray n } := by
  simp [Obj.mapSeq]
theorem Inv.lst {pins : List (Addr × Obj)} {σ : St} {H : Hp} {s : Shared} {p : Addr} {xs : List V} (I : Inv X pins σ H s) (h : H p = some (.lst xs)) :
    ∃ (its : List Value) (n : Nat), Vals xs its ∧ s.heap.get? p = some { cls := .type "list", data := .seq its.toArray n } ∧ xs.length ≤ sizeLine := by
  obtain ⟨z, its, n, r, e⟩ := I.hok p _ h
  exact ⟨its, n, r, e, z⟩
theorem Inv.lstUpd {pins : List (Addr × Obj)} {σ : St} {H : Hp} {s : Shared} {p : Addr} {xs ys : List V} {its its' : List Value} {n n' : Nat} {f : Obj → Obj} (I : Inv X pins σ H s) (h : H p = some (.lst xs))
    (ho : s.heap.get? p = some { cls := .type "list", data := .seq its.toArray n }) (hf : f { cls := .type "list", data := .seq its.toArray n } = { cls := .type "list", data := .seq its'.toArray n' }) (r : Vals ys its') (hz : ys.length ≤ sizeLine) (t : Nat) :
    Inv X pins σ (upd H p (.lst ys)) { s with heap := s.heap.update p f, toks := t } := by
  have e : (s.heap.update p f).get? p = some { cls := .type "list", data := .seq its'.toArray n' } := by
    rw [Heap.get?_update_self f ho (by rw [hf] <;> rfl), hf]
  refine I.write (x := p) (e := p) (by rw [h]; trivial) (.inl rfl) (fun b u hb q => (Heap.get?_update_other _ _ (Ne.symm hb)).trans q) ⟨_, e⟩ ?_
  exact ⟨hz, its', n', r, e⟩
def rSetL : V → V → V → Hp → (Hp → Prop) → Prop := fun o i v H Q => ∃ p xs k j, o = .ref p ∧ i = .int k ∧ H p = some (.lst xs) ∧ ixN xs.length k = some j ∧ Q (upd H p (.lst (xs.set j v)))
theorem set_list : PSet X rSetL := by
  intro pins s σ H o i v ov iv u Q I ro ri rv h
  obtain ⟨p, xs, k, j, rfl, rfl, hp, hj, q⟩ := h
  cases ro
  obtain ⟨t, rfl⟩ := ri
  obtain ⟨its, n, r, ho, hz⟩ := I.lst hp
  obtain ⟨h1, h2, h3, h4⟩ := ixN_seq hj
  have hl := r.length
  have hn := line63
  have I' : Inv X pins σ (upd H p (.lst (xs.set j v))) { s with heap := s.heap.update p (Obj.mapSeq (·.setIfInBounds j u)) } :=
    I.lstUpd hp ho (mapSeq_set its n j u) (r.set rv j) (by rw [List.length_set]; exact hz) s.toks
  by_cases h0 : 0 ≤ k
  · have hk : k.toNat = j := by
      rw [seqIndex_of h0 h4] at h1
      exact Option.some.inj h1
    exact PySem.W.ki_setAt ho h0 (by omega) (by rw [List.size_toArray, ← hl]; exact h4) (by rw [hk]; exact ⟨_, I', q⟩)
  · have hk : (k + (its.toArray.size : Int)).toNat = j := by
      rw [seqIndex_neg (by omega) h3] at h1
      rw [List.size_toArray, ← hl]
      exact Option.some.inj h1
    exact PySem.W.ki_setBack ho (by omega) (by rw [List.size_toArray, ← hl]; exact h3) (by omega) (by rw [hk]; exact ⟨_, I', q⟩)

theorem slice_bounds (lo hi : Option Int) (n : Nat) : (sliceBounds lo hi none n).1 = ((HT.sIx n 0 lo : Nat) : Int) ∧ (sliceBounds lo hi none n).2.1 = ((HT.sIx n n hi : Nat) : Int) ∧ (sliceBounds lo hi none n).2.2 = 1 := by
  refine ⟨?_, ?_, rfl⟩
  · cases lo with
    | none => simp [sliceBounds, HT.sIx]
    | some i =>
      simp only [sliceBounds, HT.sIx, Option.getD_none, show (1 : Int) > 0 by decide, if_true]
      by_cases h : i < 0
      · simp only [h, if_true] <;> omega
      · simp only [h, if_false] <;> omega
  · cases hi with
    | none => simp [sliceBounds, HT.sIx]
    | some i =>
      simp only [sliceBounds, HT.sIx, Option.getD_none, show (1 : Int) > 0 by decide, if_true]
      by_cases h : i < 0
      · simp only [h, if_true] <;> omega
      · simp only [h, if_false] <;> omega
theorem slicePick_cut (its : List Value) (lo hi : Option Int) : slicePick its.toArray lo hi none = ((its.drop (HT.sIx its.length 0 lo)).take (HT.sIx its.length its.length hi - HT.sIx its.length 0 lo)).toArray := by
  obtain ⟨h1, h2, h3⟩ := slice_bounds lo hi its.toArray.size
  unfold slicePick
  rw [h1, h2, h3]
  simp only [sliceRange_one, pick_run, List.size_toArray] <;> rfl
def rSlL (K : PySem.W.Frag) : V → Option Int → Option Int → Hp → VK → Prop := fun x lo hi H Q => ∃ a xs, x = .ref a ∧ SqL K H a xs ∧ ∀ p, H p = none → Q (.ref p) (upd H p (.lst (cutV xs lo hi)))
theorem sl_list : SlR X (rSlL X.K) := by
  intro pins s σ H x v vl vu lo hi sl Q I rx hs pl pu h
  obtain ⟨a, xs, rfl, hx, q⟩ := h
  cases rx
  obtain ⟨its, r, ht, hz⟩ := I.list hx
  have hlen := r.length
  refine ⟨"list", _, slot_list_getitem.lookup, ht.isList.typeIs, ?_⟩
  refine wpAny_getItem_list_slice ht.isList hs pl pu .none (by simp) ?_ (by rw [List.size_toArray] <;> omega)
  rw [slicePick_cut, ← hlen]
  refine ⟨.ref s.heap.objs.size, _, I.laid (t' := s.toks) (o := .lst (cutV xs lo hi)) (fun b ob q => Heap.get?_push_of_some _ q) (Nat.le_refl _) ?_, rfl, q _ (I.hok.fresh (Nat.le_refl _))⟩
  exact ⟨Nat.le_trans (cutV_length xs lo hi) hz, _, 0, (r.drop (HT.sIx xs.length 0 lo)).take (HT.sIx xs.length xs.length hi - HT.sIx xs.length 0 lo), Heap.get?_push_size _ rfl⟩

def flatV : V → Bool
  | .non => true
  | .bl _ => true
  | .int _ => true
  | .str _ => true
  | _ => false
def eqV : V → V → Bool
  | .non, .non => true
  | .bl a, .bl b => a == b
  | .bl a, .int b => (if a then 1 else 0) == b
  | .int a, .bl b => a == (if b then 1 else 0)
  | .int a, .int b => a == b
  | .str a, .str b => a == b
  | _, _ => false
theorem eqAt_V {A : Around} {s : Shared} {y x : V} {u v : Value} (ry : RelV y u) (rx : RelV x v) (fy : flatV y = true) (fx : flatV x = true) : SeqAt.EqAt A s u v (eqV y x) := by
  cases y with
  | non =>
    cases ry
    cases x with
    | non => cases rx; exact SeqAt.EqAt.same _
    | bl b => cases rx; exact SeqAt.EqAt.none_bool b
    | int b => obtain ⟨t, rfl⟩ := rx; exact SeqAt.EqAt.none_int b t
    | str b => obtain ⟨t, rfl⟩ := rx; exact SeqAt.EqAt.none_str b t
    | _ => exact absurd (show false = true from fx) Bool.false_ne_true
  | bl a =>
    cases ry
    cases x with
    | non => cases rx; exact SeqAt.EqAt.bool_none a
    | bl b => cases rx; exact SeqAt.EqAt.bool_bool a b
    | int b => obtain ⟨t, rfl⟩ := rx; exact SeqAt.EqAt.bool_int a b t
    | str b => obtain ⟨t, rfl⟩ := rx; exact SeqAt.EqAt.bool_str a b t
    | _ => exact absurd (show false = true from fx) Bool.false_ne_true
  | int a =>
    obtain ⟨t', rfl⟩ := ry
    cases x with
    | non => cases rx; exact SeqAt.EqAt.int_none a t'
    | bl b => cases rx; exact SeqAt.EqAt.int_bool a t' b
    | int b => obtain ⟨t, rfl⟩ := rx; exact SeqAt.EqAt.int_int a t' b t
    | str b => obtain ⟨t, rfl⟩ := rx; exact SeqAt.EqAt.int_str a t' b t
    | _ => exact absurd (show false = true from fx) Bool.false_ne_true
  | str a =>
    obtain ⟨t', rfl⟩ := ry
    cases x with
    | non => cases rx; exact SeqAt.EqAt.str_none a t'
    | bl b => cases rx; exact SeqAt.EqAt.str_bool a t' b
    | int b => obtain ⟨t, rfl⟩ := rx; exact SeqAt.EqAt.str_int a t' b t
    | str b => obtain ⟨t, rfl⟩ := rx; exact SeqAt.EqAt.str_str a t' b t
    | _ => exact absurd (show false = true from fx) Bool.false_ne_true
  | _ => exact absurd (show false = true from fy) Bool.false_ne_true
def eqU (x : V) (u : Value) : Bool := match u with
  | .none => eqV .non x
  | .bool b => eqV (.bl b) x
  | .int i _ => eqV (.int i) x
  | .str z _ => eqV (.str z) x
  | _ => false
theorem eqU_of {x y : V} {u : Value} (r : RelV y u) (f : flatV y = true) : eqU x u = eqV y x := by
  cases y with
  | non => cases r; rfl
  | bl b => cases r; rfl
  | int i => obtain ⟨t, rfl⟩ := r; rfl
  | str z => obtain ⟨t, rfl⟩ := r; rfl
  | _ => exact absurd (show false = true from f) Bool.false_ne_true
theorem any_eqU {x : V} : ∀ {xs : List V} {us : List Value}, Vals xs us → xs.all flatV = true → us.any (eqU x) = xs.any fun y => eqV y x
  | _, _, .nil, _ => rfl
  | y :: xs, u :: us, .cons r t, f => by
    rw [List.all_cons, Bool.and_eq_true] at f
    rw [List.any_cons, List.any_cons, eqU_of r f.1, any_eqU t f.2]
theorem mem_eqAt {A : Around} {s : Shared} {x : V} {v : Value} (rx : RelV x v) (fx : flatV x = true) : ∀ {xs : List V} {us : List Value}, Vals xs us → xs.all flatV = true → ∀ u ∈ us, SeqAt.EqAt A s u v (eqU x u)
  | _, _, .nil, _ => fun u hu => by cases hu
  | y :: xs, u :: us, .cons r t, f => fun u' hu => by
    rw [List.all_cons, Bool.and_eq_true] at f
    rcases List.mem_cons.mp hu with rfl | hu
    · rw [eqU_of r f.1]; exact eqAt_V r rx f.1 fx
    · exact mem_eqAt rx fx t f.2 u' hu
def inV (x : V) (xs : List V) : Bool := xs.any fun y => eqV y x
def rIn (K : PySem.W.Frag) (neg : Bool) : R2 := fun x y H Q => ∃ p xs, y = .ref p ∧ (SqL K H p xs ∨ SqT K H p xs) ∧ flatV x = true ∧ xs.all flatV = true ∧ Q (.bl (if neg then !inV x xs else inV x xs)) H
theorem op_in_seq : OpR X (compareOp .In) (rIn X.K false) := by
  intro pins s σ H x y v u Q I rx ry h
  obtain ⟨p, xs, rfl, hq, fx, fs, q⟩ := h
  cases ry
  rcases hq with hq | hq
  · obtain ⟨its, r, pl, hz⟩ := I.list hq
    refine SeqAt.in_listAt (eqU x) pl.isList (fun w hw => mem_eqAt rx fx r fs w (by simpa using hw)) ⟨.bl _, H, I, rfl, ?_⟩
    rw [show its.toArray.any (eqU x) = its.any (eqU x) by simp, any_eqU r fs]
    exact q
  · obtain ⟨its, r, pl, hz⟩ := I.tuple hq
    refine SeqAt.in_tupleAt (eqU x) pl (fun w hw => mem_eqAt rx fx r fs w (by simpa using hw)) ⟨.bl _, H, I, rfl, ?_⟩
    rw [show its.toArray.any (eqU x) = its.any (eqU x) by simp, any_eqU r fs]
    exact q
theorem op_notIn_seq : OpR X (compareOp .NotIn) (rIn X.K true) := by
  intro pins s σ H x y v u Q I rx ry h
  obtain ⟨p, xs, rfl, hq, fx, fs, q⟩ := h
  cases ry
  rcases hq with hq | hq
  · obtain ⟨its, r, pl, hz⟩ := I.list hq
    refine SeqAt.notIn_listAt (eqU x) pl.isList (fun w hw => mem_eqAt rx fx r fs w (by simpa using hw)) ⟨.bl _, H, I, rfl, ?_⟩
    rw [show its.toArray.any (eqU x) = its.any (eqU x) by simp, any_eqU r fs]
    exact q
  · obtain ⟨its, r, pl, hz⟩ := I.tuple hq
    refine SeqAt.notIn_tupleAt (eqU x) pl (fun w hw => mem_eqAt rx fx r fs w (by simpa using hw)) ⟨.bl _, H, I, rfl, ?_⟩
    rw [show its.toArray.any (eqU x) = its.any (eqU x) by simp, any_eqU r fs]
    exact q
theorem call_len_seq : CallR X (.builtin "len") (fun xs H Q => ∃ p ys, xs = [.ref p] ∧ (SqL X.K H p ys ∨ SqT X.K H p ys) ∧ Q (.int ys.length) H) := by
  intro pins s σ H xs us Q I r h
  obtain ⟨p, ys, rfl, hq, q⟩ := h
  obtain ⟨u, rfl, rx⟩ := vals1 r
  cases rx
  have hn := line63
  rcases hq with hq | hq
  · obtain ⟨its, r', pl, hz⟩ := I.list hq
    have hlen := r'.length
    exact Calls.call_len_list pl.isList (by simp only [List.size_toArray] <;> omega) ⟨.int ys.length, H, I.tok _, ⟨s.toks + 1, by rw [List.size_toArray, hlen]⟩, q⟩
  · obtain ⟨its, r', pl, hz⟩ := I.tuple hq
    have hlen := r'.length
    exact len_tuple pl (by simp only [List.size_toArray] <;> omega) ⟨.int ys.length, H, I.tok _, ⟨s.toks + 1, by rw [List.size_toArray, hlen]⟩, q⟩
theorem call_list_of : CallR X (.type "list") (fun xs H Q => ∃ p ys, xs = [.ref p] ∧ (SqL X.K H p ys ∨ SqT X.K H p ys) ∧ ∀ l, H l = none → Q (.ref l) (upd H l (.lst ys))) := by
  intro pins s σ H xs us Q I r h
  obtain ⟨p, ys, rfl, hq, q⟩ := h
  obtain ⟨u, rfl, rx⟩ := vals1 r
  cases rx
  have fin : ∀ (its : List Value), Vals ys its → ys.length ≤ sizeLine → ∀ (h' : Heap) (c' : Nat), (∀ b o', s.heap.get? b = some o' → h'.get? b = some o') →
      h'.get? s.heap.objs.size = some { cls := .type "list", dict := none, data := .seq its.toArray c', slots := #[] } → EP X pins σ Q (.ref s.heap.objs.size) { s with heap := h' } := fun its r' hz h' c' kp e =>
    ⟨.ref s.heap.objs.size, _, I.laid (t' := s.toks) kp (Nat.le_refl _) (show ObjOk X.prog X.w _ h' _ (.lst ys) from ⟨hz, its, c', r', e⟩), rfl, q _ (I.hok.fresh (Nat.le_refl _))⟩
  rcases hq with hq | hq
  · obtain ⟨its, r', pl, hz⟩ := I.list hq
    have hlen := r'.length
    obtain ⟨o, ho, hc, n, hd⟩ := pl.isList
    exact call_list_seq p (.inl rfl) ho hc hd (fun h' c' kp e => fin its r' hz h' c' kp e) (by simp only [List.size_toArray] <;> omega)
  · obtain ⟨its, r', pl, hz⟩ := I.tuple hq
    have hlen := r'.length
    obtain ⟨o, ho, hc, n, hd⟩ := pl
    exact call_list_seq p (.inr rfl) ho hc hd (fun h' c' kp e => fin its r' hz h' c' kp e) (by simp only [List.size_toArray] <;> omega)
def tyV (K : PySem.W.Frag) (T : String) (x : V) (H : Hp) : Prop := match x with
  | .str _ => T = "str"
  | .int _ => T = "int"
  | .ref p => (T = "list" ∧ ∃ xs, SqL K H p xs) ∨ (T = "tuple" ∧ ∃ o, K.lookup p = some o ∧ o.cls = .type "tuple" ∧ o.dict = none) ∨
      (T = "dict" ∧ ((∃ kvs, H p = some (.dK kvs)) ∨ ∃ kvs, H p = some (.dT kvs))) ∨ (T = "set" ∧ ∃ S n, H p = some (.set S n))
  | _ => False
theorem tyV_is {pins : List (Addr × Obj)} {σ : St} {H : Hp} {s : Shared} {T : String} {x : V} {v : Value} (I : Inv X pins σ H s) (r : RelV x v) (ty : tyV X.K T x H) :
    s.TypeIs v T ∧ ∀ a, v = .ref a → ∃ ob, s.heap.get? a = some ob ∧ ob.dict = none := by
  cases x with
  | str z =>
    obtain ⟨t, rfl⟩ := r
    cases (show T = "str" from ty)
    exact ⟨typeIs_str s z t, fun _ e => nomatch e⟩
  | int i =>
    obtain ⟨t, rfl⟩ := r
    cases (show T = "int" from ty)
    exact ⟨typeIs_int s i t, fun _ e => nomatch e⟩
  | ref p =>
    cases r
    rcases ty with ⟨rfl, xs, hq⟩ | ⟨rfl, o, hk, hc, hd⟩ | ⟨rfl, hk⟩ | ⟨rfl, S, n, hk⟩
    · obtain ⟨its, _, pl, _⟩ := I.list hq
      refine ⟨pl.isList.typeIs, fun a e => ?_⟩
      cases e
      obtain ⟨o, n, e, c, hd, _⟩ := pl
      exact ⟨o, e, hd⟩
    · refine ⟨⟨o, I.kIn p o hk, hc⟩, fun a e => ?_⟩
      cases e
      exact ⟨o, I.kIn _ o hk, hd⟩
    · have z : ∃ o, s.heap.get? p = some o ∧ o.ExactDict := by
        rcases hk with ⟨kvs, hk⟩ | ⟨kvs, hk⟩
        · obtain ⟨_, _, _, _, o, _, _, e, ex, _⟩ := I.hok p _ hk
          exact ⟨o, e, ex⟩
        · obtain ⟨_, _, _, _, o, _, _, e, ex, _⟩ := I.hok p _ hk
          exact ⟨o, e, ex⟩
      obtain ⟨o, e, ex⟩ := z
      refine ⟨⟨o, e, ex.1⟩, fun a e2 => ?_⟩
      cases e2
      exact ⟨o, e, ex.2.1⟩
    · obtain ⟨o, _, _, _, e, ex, _⟩ := I.hok p _ hk
      refine ⟨⟨o, e, ex.1⟩, fun a e2 => ?_⟩
      cases e2
      exact ⟨o, e, ex.2.1⟩
  | _ => exact False.elim ty
def tBM (K : PySem.W.Frag) (T : String) (r : V → List V → Hp → VK → Prop) (to : TE) (t : TA) : TE := fun σ H Q => to σ H fun x H1 => tyV K T x H1 ∧ t σ H1 fun xs H2 => r x xs H2 Q
variable {o e : Expr} {es : List Expr} {to : TE} {t : TA} {name : Str} {apos cpos : Pos} {T id : String} {r : V → List V → Hp → VK → Prop}
theorem pe_bm (pa : PlainAttrs T) (slot : Slot T name id) (hty : typeOf (.builtin id) = pure (.type "method_descriptor")) (hm : MtR X id r) (ho : PE X o to) (ha : PA X (e :: es) t)
    (hbase : attributeBase o name X.env (eval o X.env) = eval o X.env := by rfl)
    (hfew : ((backTo cpos (starEach (e :: es) X.env)).all (fun x => !x.1) && (backToKw cpos (keywordEach [] X.env)).all (fun x => x.1.isSome)
      && decide ((e :: es).length + ([] : List Keyword).length + (if ([] : List Keyword).isEmpty then 0 else 1) < 30)) = true := by rfl)
    (hline : (apos.endLine == cpos.line) = true := by rfl) (hs : starEach (e :: es) X.env = (false, eval e X.env) :: starEach es X.env := by rfl) (hplain : (backTo cpos (starEach es X.env)).any (·.1) = false := by rfl) :
    PE X (.Call (.Attribute o name apos) (e :: es) [] cpos) (tBM X.K T r to t) := by
  intro pins s σ H Q I h
  refine wpAny_Call_method_late hbase hfew hline rfl (thn (ho pins s σ H _ I h) fun v s1 ⟨x, H1, I1, r1, ty, q1⟩ => ?_)
  obtain ⟨h1, h2⟩ := tyV_is I1 r1 ty
  refine ⟨T, id, pa, slot, hty, h1, h2, ?_⟩
  have hA := ha cpos pins s1 σ H1 _ I1 q1
  rw [hs] at hA ⊢
  refine Calls.callWith_builtin (by show (false || (backTo cpos (starEach es X.env)).any (·.1)) = false; rw [hplain] <;> rfl) (Calls.evalArgs_plain ?_)
  exact thn hA fun us s2 ⟨vs, H2, I2, r2, q2⟩ => hm pins s2 σ H2 x vs v us Q I2 r1 r2 q2
end
end L2

namespace L2
open PySem PySem.Spec PyProof.Rows

def MtM (X : Cx) (id : String) (r : V → List V → Hp → VK → Prop) : Prop :=
  ∀ (pins : List (Addr × Obj)) (s : Shared) (σ : St) (H : Hp) (x : V) (xs : List V) (v : Value) (us : List Value) (Q : VK), Inv X pins σ H s → RelV x v → Vals xs us → r x xs H Q →
    wpAny (model X.prog X.w) X.A (call (.builtin id) (v :: us)) (EP X pins σ Q) X.xe s

theorem Vals.one : ∀ {x : V} {us : List Value}, Vals [x] us → ∃ u, us = [u] ∧ RelV x u
  | _, _, .cons r .nil => ⟨_, rfl, r⟩
theorem Vals.zero : ∀ {us : List Value}, Vals [] us → us = []
  | _, .nil => rfl
theorem Vals.reverse {xs : List V} {us : List Value} (h : Vals xs us) : Vals xs.reverse us.reverse := by
  induction h with
  | nil => exact .nil
  | cons r t ih => rw [List.reverse_cons, List.reverse_cons]; exact Vals.append ih (.cons r .nil)
section
variable {X : Cx} {pins : List (Addr × Obj)} {σ : St} {H : Hp} {s : Shared} {l b : Addr} {xs ys zs : List V}

theorem Inv.lset {its its' : List Value} {n : Nat} {f : Array Value → Array Value} {t' : Nat} (I : Inv X pins σ H s) (hH : H l = some (.lst xs))
    (e : s.heap.get? l = some { cls := .type "list", data := .seq its.toArray n }) (hf : f its.toArray = its'.toArray) (hv : Vals ys its') (hz : ys.length ≤ sizeLine) :
    Inv X pins σ (upd H l (.lst ys)) { s with heap := s.heap.update l (Obj.mapSeq f), toks := t' } := by
  have q := PySem.IsL.update e f
  rw [hf] at q
  refine I.write (x := l) (e := l) (by rw [hH]; exact trivial) (.inl rfl) (fun b' u hb hu => (Heap.get?_update_other s.heap (Obj.mapSeq f) (Ne.symm hb)).trans hu) ⟨_, q⟩ ?_
  exact ⟨hz, its', _, hv, q⟩
theorem Inv.lnew {its : List Value} {t' : Nat} (I : Inv X pins σ H s) (hv : Vals ys its) (hz : ys.length ≤ sizeLine) :
    Inv X pins σ (upd H s.heap.objs.size (.lst ys)) { s with heap := s.heap.push { cls := .type "list", data := .seq its.toArray }, toks := t' } :=
  I.laid (fun _ _ q => Heap.get?_push_of_some _ q) (Nat.le_refl _) ⟨hz, its, 0, hv, Heap.get?_push_size _ rfl⟩
theorem Inv.fresh (I : Inv X pins σ H s) : H s.heap.objs.size = none := I.hok.fresh (Nat.le_refl _)
theorem Inv.lstM (I : Inv X pins σ H s) (hH : H l = some (.lst xs)) : xs.length ≤ sizeLine ∧ ∃ (its : List Value) (n : Nat), Vals xs its ∧ xs.length = its.length ∧ s.heap.get? l = some { cls := .type "list", data := .seq its.toArray n } := by
  obtain ⟨z, its, n, r, e⟩ := I.hok l _ hH
  exact ⟨z, its, n, r, r.length, e⟩

theorem notLongL {n : Nat} (h : n ≤ sizeLine) : Builtin.List.listTooLong n = false := by
  unfold Builtin.List.listTooLong
  exact decide_eq_false (by omega)
end

section
variable {X : Cx}

def rAppend : V → List V → Hp → VK → Prop := fun x vs H Q => ∃ l xs y, x = .ref l ∧ vs = [y] ∧ H l = some (.lst xs) ∧ xs.length < sizeLine ∧ Q .non (upd H l (.lst (xs ++ [y])))
theorem mt_append : MtM X "list.append" rAppend := by
  intro pins s σ H x vs v us Q I rx rv h
  obtain ⟨l, xs, y, rfl, rfl, hH, hz, q⟩ := h
  cases rx
  obtain ⟨u, rfl, ru⟩ := rv.one
  obtain ⟨z, its, n, r, hl, e⟩ := I.lstM hH
  refine call_meets F.slot_list_append ⟨_, e, rfl⟩ F.entry_list_append (F.args_list_append_2 _ _) (PySem.list_append l its.toArray n u (by rw [List.size_toArray]; omega)) ⟨e, ?_⟩
  refine ⟨.non, _, I.lset (its' := its ++ [u]) hH e (by simp) (r.append (.cons ru .nil)) ?_, rfl, q⟩
  rw [List.length_append, List.length_singleton]
  omega

def rExtend : V → List V → Hp → VK → Prop := fun x vs H Q => ∃ l b xs zs, x = .ref l ∧ vs = [.ref b] ∧ H l = some (.lst xs) ∧ H b = some (.lst zs) ∧ xs.length + zs.length ≤ sizeLine ∧ Q .non (upd H l (.lst (xs ++ zs)))
theorem mt_extend : MtM X "list.extend" rExtend := by
  intro pins s σ H x vs v us Q I rx rv h
  obtain ⟨l, b, xs, zs, rfl, rfl, hH, hB, hz, q⟩ := h
  cases rx
  obtain ⟨u, rfl, ru⟩ := rv.one
  cases ru
  obtain ⟨z, its, n, r, hl, e⟩ := I.lstM hH
  obtain ⟨z2, its2, n2, r2, hl2, e2⟩ := I.lstM hB
  have hsz : its.toArray.size + its2.toArray.size ≤ sizeLine := by rw [List.size_toArray, List.size_toArray]; omega
  have hlong : ¬ (!its.toArray.isEmpty && Builtin.List.listTooLong (its.toArray.size + its2.toArray.size)) = true := by
    rw [notLongL hsz, Bool.and_false]
    exact Bool.false_ne_true
  refine call_meets F.slot_list_extend ⟨_, e, rfl⟩ F.entry_list_extend (F.args_list_extend_2 _ _)
    (AutoSeq1.list_extend_list_list_0 l its.toArray n b its2.toArray n2 hlong (by rw [List.size_toArray]; omega) (by omega)) ⟨e, e2, ?_⟩
  refine ⟨.non, _, I.lset (its' := its ++ its2) hH e (by simp) (r.append r2) ?_, rfl, q⟩
  rw [List.length_append]
  omega

def rCat : R2 := fun x y H Q => ∃ l b xs zs, x = .ref l ∧ y = .ref b ∧ H l = some (.lst xs) ∧ H b = some (.lst zs) ∧ xs.length + zs.length ≤ sizeLine ∧ ∀ p, H p = none → Q (.ref p) (upd H p (.lst (xs ++ zs)))
theorem op_cat : OpR X (binaryOp .Add) rCat := by
  intro pins s σ H x y v u Q I rx ry h
  obtain ⟨l, b, xs, zs, rfl, rfl, hH, hB, hz, q⟩ := h
  cases rx
  cases ry
  obtain ⟨z, its, n, r, hl, e⟩ := I.lstM hH
  obtain ⟨z2, its2, n2, r2, hl2, e2⟩ := I.lstM hB
  refine PySem.P.add_list e e2 ?_ (by rw [List.size_toArray, List.size_toArray]; omega)
  have ea : its.toArray ++ its2.toArray = (its ++ its2).toArray := by simp
  rw [ea]
  exact ⟨.ref _, _, I.lnew (t' := s.toks) (r.append r2) (by rw [List.length_append]; omega), rfl, q _ I.fresh⟩
end

section
variable {prog : Program} {w : World} {A : Around} {E : Value → Shared → Prop} {s : Shared}
end

section
variable {X : Cx}
end
end L2

namespace L2
open PySem PySem.Spec PyProof.Rows

theorem Vals.ints : ∀ {ns : List Int} {us : List Value}, Vals (ns.map V.int) us → IntsAre us ns
  | [], us, h => by
    rw [List.map_nil] at h
    cases h
    exact IntsAre.nil
  | n :: ns, us, h => by
    rw [List.map_cons] at h
    cases h with
    | cons r t =>
      obtain ⟨k, rfl⟩ := r
      exact IntsAre.cons n k (Vals.ints t)
theorem vals_of_ints : ∀ {us : List Value} {ns : List Int}, IntsAre us ns → Vals (ns.map V.int) us
  | _, _, .nil => by rw [List.map_nil]; exact Paired.nil
  | _, _, .cons n t h => by rw [List.map_cons]; exact Paired.cons (show RelV (V.int n) (Value.int n t) from ⟨t, rfl⟩) (vals_of_ints h)
theorem Vals.strs : ∀ {xs : List Str} {us : List Value}, Vals (xs.map V.str) us → StrsAre us xs
  | [], us, h => by
    rw [List.map_nil] at h
    cases h
    exact StrsAre.nil
  | x :: xs, us, h => by
    rw [List.map_cons] at h
    cases h with
    | cons r t =>
      obtain ⟨k, rfl⟩ := r
      exact StrsAre.cons x k (Vals.strs t)
theorem Vals.bls : ∀ {bs : List Bool} {us : List Value}, Vals (bs.map V.bl) us → us = bs.map Value.bool
  | [], us, h => by
    rw [List.map_nil] at h
    cases h
    rfl
  | b :: bs, us, h => by
    rw [List.map_cons] at h
    cases h with
    | cons r t =>
      cases r
      rw [Vals.bls t, List.map_cons]
theorem Vals.ref1 {a : Addr} {us : List Value} (r : Vals [V.ref a] us) : us = [Value.ref a] := by
  cases r with
  | cons r t =>
    cases t
    cases r
    rfl
section
variable {prog : Program} {w : World} {A : Around} {E : Value → Shared → Prop} {s : Shared} {l : Addr} {its : List Value} {ns : List Int} {Q : Value → Shared → Prop}
theorem sum_raw (hh : A.handled = none) (hl : s.heap.IsList l its.toArray) (hi : IntsAre its ns)
    (h : ∀ h' tk t', (∀ b o, s.heap.get? b = some o → h'.get? b = some o) → Q (.int ns.sum t') { s with heap := h', toks := tk }) : wpAny (model prog w) A (call (.builtin "sum") [.ref l]) Q E s := by
  obtain ⟨xs, e⟩ := hi.allInts.items
  have hn : numsOf (intItems xs).toList = ns := by rw [← e]; exact hi.numsOf
  rw [nums_intItems] at hn
  rw [e] at hl
  refine PySem.sum_intListG hh hl fun h' tk t' hk => ?_
  have := h h' tk t' hk
  rw [preSum_eq, List.take_of_length_le (by simp), hn]; exact this
end

section
variable {X : Cx}
def rSum (K : PySem.W.Frag) : List V → Hp → VK → Prop := fun vs H Q => ∃ (a : Addr) (ns : List Int), vs = [V.ref a] ∧ SqL K H a (ns.map V.int) ∧ Q (.int ns.sum) H
theorem cr_sum (hc : X.calm = true) : CallR X (.builtin "sum") (rSum X.K) := by
  intro pins s σ H vs us Q I r h
  obtain ⟨a, ns, rfl, hs, q⟩ := h
  obtain ⟨its, rv, hl, _⟩ := I.list hs
  rw [Vals.ref1 r]
  exact sum_raw (I.ok.hd hc) hl.isList rv.ints fun h' tk t' hk => ⟨.int _, H, I.kept hk, ⟨_, rfl⟩, q⟩
def rSorted (K : PySem.W.Frag) : List V → Hp → VK → Prop := fun vs H Q => ∃ (a : Addr) (ns : List Int), vs = [V.ref a] ∧ SqL K H a (ns.map V.int) ∧ ns.length < 64 ∧
  ∀ (ns' : List Int) (p : Addr), ns'.Perm ns → ns'.Pairwise (· ≤ ·) → H p = none → Q (.ref p) (upd H p (.lst (ns'.map V.int)))
theorem small64 {n : Nat} (h : n < 64) : n ≤ sizeLine := by rw [sizeLine_eq]; omega
theorem cr_sorted : CallR X (.builtin "sorted") (rSorted X.K) := by
  intro pins s σ H vs us Q I r h
  obtain ⟨a, ns, rfl, hs, h64, q⟩ := h
  obtain ⟨its, rv, hl, _⟩ := I.list hs
  rw [Vals.ref1 r]
  have hi := rv.ints
  refine PyProof.Rows.sorted_ints hl.isList hi (by rw [hi.length]; exact h64) fun out ns' h1 h2 h3 => ?_
  obtain ⟨ep, he'⟩ := PyProof.Rows.sortedAll_at s.heap its out
  have hlen : (ns'.map V.int).length ≤ sizeLine := by rw [List.length_map, h2.length_eq]; exact small64 h64
  exact ⟨.ref _, upd H (s.heap.objs.size + 1) (.lst (ns'.map V.int)), I.laid (t' := s.toks) (fun _ _ => PyProof.Rows.sortedAll_old) (Nat.le_succ _) ⟨hlen, out.toList, ep, vals_of_ints h1, he'⟩, rfl, q ns' _ h2 h3 (I.hok.fresh (Nat.le_succ _))⟩
end

section
variable {X : Cx}
end

section
variable {X : Cx}
end

theorem iter_any {prog : Program} {w : World} {A : Around} {E : Value → Shared → Prop} {s : Shared} {l : Addr} {items : Array Value} {Q : Value → Shared → Prop} (hl : s.heap.IsList l items)
    (h : ∀ s₂ : Shared, s₂ = { s with heap := s.heap.push { cls := .type "list_iterator", data := .fields #[.ref l, .int 0 0] } } →
      (s₂.heap.IsListIter s.heap.objs.size l 0 ∧ s₂.heap.IsList l items) → l ≠ s.heap.objs.size → Q (.ref s.heap.objs.size) s₂) : wpAny (model prog w) A (pyIter (.ref l)) Q E s := by
  have hlt : l < s.heap.objs.size := by obtain ⟨_, e, _⟩ := hl; exact Heap.lt_size e
  exact wpAny_pyIter_list hl (h _ rfl ⟨⟨_, Heap.get?_push_size _ rfl, rfl, rfl⟩, hl.push _⟩ (Nat.ne_of_lt hlt))
theorem truth_bools {prog : Program} {w : World} {A : Around} {bs : List Bool} {its : List Value} (e : its = bs.map Value.bool) :
    TruthOf prog w A (fun i v => its.toArray[i]? = some v) (fun i => bs.getD i false) := fun i v s Q E hv hq => by
  have hv' : its[i]? = some v := by simpa using hv
  rw [e, List.getElem?_map] at hv'
  obtain ⟨b, hb, rfl⟩ := Option.map_eq_some_iff.mp hv'
  have hg : bs.getD i false = b := by rw [List.getD_eq_getElem?_getD, hb] <;> rfl
  have hq' : Q (bs.getD i false) s := hq
  rw [hg] at hq'
  exact wpAny_truthy_bool hq'
theorem all_range : ∀ bs : List Bool, (List.range bs.length).all (fun i => bs.getD i false) = bs.all id
  | [] => rfl
  | b :: bs => by
    rw [List.length_cons, List.range_succ_eq_map, List.all_cons, List.all_map, List.all_cons, ← all_range bs]
    all_goals rfl
section
variable {X : Cx}
def rAll (K : PySem.W.Frag) : List V → Hp → VK → Prop := fun vs H Q => ∃ (a : Addr) (bs : List Bool), vs = [V.ref a] ∧ SqL K H a (bs.map V.bl) ∧ Q (.bl (bs.all id)) H
theorem cr_all (hc : X.calm = true) : CallR X (.builtin "all") (rAll X.K) := by
  intro pins s σ H vs us Q I r h
  obtain ⟨a, bs, rfl, hs, q⟩ := h
  obtain ⟨its, rv, hl, _⟩ := I.list hs
  rw [Vals.ref1 r]
  have hb := rv.bls
  refine call_all_walk (iter_any hl.isList fun s₂ e2 st hne => ?_)
  subst e2
  refine ⟨_, _, _, _, _, _, _, rfl, Walks.list (A := X.A.in1) (I.ok.hd hc) _ a hne its.toArray, st, truth_bools hb, fun h' tk hk => ?_⟩
  refine ⟨.bl _, H, I.kept fun b o eo => hk b o (fun hmem => ?_) (Heap.get?_push_of_some _ eo), ?_, q⟩
  · rcases List.mem_cons.mp hmem with e1 | hmem
    · exact absurd (e1 ▸ Heap.lt_size eo) (Nat.lt_irrefl _)
    · cases hmem
  · show Value.bool _ = Value.bool _
    rw [← all_range, hb, List.size_toArray, List.length_map]
end

mutual
inductive Dp (K : PySem.W.Frag) (H : Hp) : V → PyData → Prop
  | non : Dp K H .non .none
  | bl (b : Bool) : Dp K H (.bl b) (.bool b)
  | int (i : Int) : Dp K H (.int i) (.int i)
  | str (x : Str) : Dp K H (.str x) (.str x)
  | lst {a : Addr} {xs : List V} {ds : List PyData} : SqL K H a xs → DpAll K H xs ds → Dp K H (.ref a) (.list ds)
  | tup {a : Addr} {xs : List V} {ds : List PyData} : SqT K H a xs → DpAll K H xs ds → Dp K H (.ref a) (.tuple ds)
inductive DpAll (K : PySem.W.Frag) (H : Hp) : List V → List PyData → Prop
  | nil : DpAll K H [] []
  | cons {v : V} {vs : List V} {d : PyData} {ds : List PyData} : Dp K H v d → DpAll K H vs ds → DpAll K H (v :: vs) (d :: ds)
end
section
variable {X : Cx} {pins : List (Addr × Obj)} {σ : St} {H : Hp} {s : Shared}
mutual
theorem Dp.reads (I : Inv X pins σ H s) : ∀ (d : PyData) (v : V) (u : Value), Dp X.K H v d → RelV v u → ∃ as, Reads s.heap u d as
  | .none, _, _, h, r => by
    cases h
    cases r
    exact ⟨_, Reads.none⟩
  | .bool b, _, _, h, r => by
    cases h
    cases r
    exact ⟨_, Reads.bool b⟩
  | .int i, _, _, h, r => by
    cases h
    obtain ⟨t, rfl⟩ := r
    exact ⟨_, Reads.int i t⟩
  | .str x, _, _, h, r => by
    cases h
    obtain ⟨t, rfl⟩ := r
    exact ⟨_, Reads.str x t⟩
  | .list ds, _, _, h, r => by
    cases h with
    | lst hs ha =>
      cases r
      obtain ⟨its, rv, ⟨o, n, ho, hc, _, hd⟩, _⟩ := I.list hs
      obtain ⟨as, hr⟩ := Dp.readsAll I ds _ its ha rv
      exact ⟨_, Reads.list ho hc hd hr⟩
  | .tuple ds, _, _, h, r => by
    cases h with
    | tup hs ha =>
      cases r
      obtain ⟨its, rv, ⟨o, ho, hc, n, hd⟩, _⟩ := I.tuple hs
      obtain ⟨as, hr⟩ := Dp.readsAll I ds _ its ha rv
      exact ⟨_, Reads.tuple ho hc hd hr⟩
  | .dict _, _, _, h, _ => by cases h
theorem Dp.readsAll (I : Inv X pins σ H s) : ∀ (ds : List PyData) (vs : List V) (us : List Value), DpAll X.K H vs ds → Vals vs us → ∃ as, ReadsAll s.heap us ds as
  | [], _, _, h, r => by
    cases h
    cases r
    exact ⟨_, ReadsAll.nil⟩
  | d :: ds, _, _, h, r => by
    cases h with
    | cons h1 h2 =>
      cases r with
      | cons r1 r2 =>
        obtain ⟨as, q1⟩ := Dp.reads I d _ _ h1 r1
        obtain ⟨bs, q2⟩ := Dp.readsAll I ds _ _ h2 r2
        exact ⟨_, ReadsAll.cons q1 q2⟩
end
end
section
variable {X : Cx}
def rEqD (K : PySem.W.Frag) : R2 := fun x y H Q => ∃ d e, Dp K H x d ∧ Dp K H y e ∧ SeqAt.shaped d = true ∧ SeqAt.shaped e = true ∧ Q (.bl (PyData.eqv d e)) H
def rNeD (K : PySem.W.Frag) : R2 := fun x y H Q => ∃ d e, Dp K H x d ∧ Dp K H y e ∧ SeqAt.shaped d = true ∧ SeqAt.shaped e = true ∧ Q (.bl (!PyData.eqv d e)) H
theorem op_eqD (hu : X.A.units + 64 < cLine) : OpR X (compareOp .Eq) (rEqD X.K) := by
  intro pins s σ H x y v u Q I rx ry h
  obtain ⟨d, e, hd, he, sd, se, q⟩ := h
  obtain ⟨as, r1⟩ := Dp.reads I d x v hd rx
  obtain ⟨bs, r2⟩ := Dp.reads I e y u he ry
  exact SeqAt.compareEq_shaped r1 r2 sd se hu ⟨.bl _, H, I, rfl, q⟩
theorem op_neD (hu : X.A.units + 64 < cLine) : OpR X (compareOp .NotEq) (rNeD X.K) := by
  intro pins s σ H x y v u Q I rx ry h
  obtain ⟨d, e, hd, he, sd, se, q⟩ := h
  obtain ⟨as, r1⟩ := Dp.reads I d x v hd rx
  obtain ⟨bs, r2⟩ := Dp.reads I e y u he ry
  exact SeqAt.compareNe_shaped r1 r2 sd se hu ⟨.bl _, H, I, rfl, q⟩
end
end L2

namespace L2
open PySem PySem.Spec PyProof.Rows
abbrev CellAt (h : Heap) (c : Addr) (v : Option Value) : Prop := h.IsCell c v
def relS (scope sc : Scope) : Scope :=
  { scope with names := scope.names.map fun (n, k) => if (k == .free && sc.kind == .function && sc.names.lookup n == some .cell) then (n, .cell) else (n, k) }

def cloFrom (cells : List (Str × Addr)) : List (Str × NameKind) → List (Str × Addr) → List (Str × Addr)
  | [], acc => acc
  | (n, k) :: r, acc => if k == .free then cloFrom cells r ((n, (cells.lookup n).getD 0) :: acc) else cloFrom cells r acc

theorem closure_loop (env : Env) (f : Str × NameKind → List (Str × Addr) → Sem (ForInStep (List (Str × Addr))))
    (hf : ∀ n k c, f (n, k) c = if k == .free then (do let a ← cellOf env n; pure (.yield ((n, a) :: c))) else pure (.yield c)) :
    ∀ (names : List (Str × NameKind)) (acc : List (Str × Addr)), (∀ y ∈ names, y.2 = .free → ∃ c, env.cells.lookup y.1 = some c) → forIn names acc f = pure (cloFrom env.cells names acc)
  | [], acc, _ => by rw [List.forIn_nil]; rfl
  | (n, k) :: r, acc, h => by
    rw [List.forIn_cons, hf]
    have ih := fun acc => closure_loop env f hf r acc fun y hy => h y (List.mem_cons_of_mem _ hy)
    unfold cloFrom
    by_cases hk : (k == NameKind.free) = true
    · rw [if_pos hk, if_pos hk]
      obtain ⟨c, hc⟩ := h (n, k) List.mem_cons_self (by simpa using hk)
      have e : cellOf env n = pure c := by unfold cellOf; rw [hc]
      rw [e]
      have e2 : (env.cells.lookup n).getD 0 = c := by rw [hc]; rfl
      rw [e2]
      exact ih _
    · rw [if_neg hk, if_neg hk]
      exact ih _
theorem closure_ok {scope : Scope} {env : Env} (h : ∀ y ∈ scope.names, y.2 = .free → ∃ c, env.cells.lookup y.1 = some c) : closureFor scope env = pure (cloFrom env.cells scope.names []) := by
  simp only [closureFor]
  rw [closure_loop env _ (fun n k c => rfl) scope.names [] h]
  rfl

theorem mem_lookup {α : Type} : ∀ {l : List (Str × α)} {n : Str} {c : α}, (n, c) ∈ l → ∃ c', l.lookup n = some c'
  | (k, v) :: r, n, c, h => by
    rw [List.lookup_cons]
    cases hb : n == k with
    | true => exact ⟨_, rfl⟩
    | false =>
      rcases List.mem_cons.mp h with e | h
      · cases e; simp at hb
      · exact mem_lookup h

theorem cloFrom_mem {cells : List (Str × Addr)} : ∀ {names : List (Str × NameKind)} {acc : List (Str × Addr)} {n : Str} {c : Addr}, (n, c) ∈ cloFrom cells names acc → (n, c) ∈ acc ∨ ((n, .free) ∈ names ∧ c = (cells.lookup n).getD 0)
  | [], _, _, _, h => .inl h
  | (m, k) :: r, acc, n, c, h => by
    unfold cloFrom at h
    split at h
    · rename_i hk
      have hk : k = .free := by simpa using hk
      rcases cloFrom_mem h with h | ⟨h1, h2⟩
      · rcases List.mem_cons.mp h with e | h
        · cases e; exact .inr ⟨hk ▸ List.mem_cons_self, rfl⟩
        · exact .inl h
      · exact .inr ⟨List.mem_cons_of_mem _ h1, h2⟩
    · rcases cloFrom_mem h with h | ⟨h1, h2⟩
      · exact .inl h
      · exact .inr ⟨List.mem_cons_of_mem _ h1, h2⟩
theorem cloFrom_acc {cells : List (Str × Addr)} : ∀ {names : List (Str × NameKind)} {acc : List (Str × Addr)} {p : Str × Addr}, p ∈ acc → p ∈ cloFrom cells names acc
  | [], _, _, h => h
  | (m, k) :: r, acc, p, h => by
    unfold cloFrom
    split
    · exact cloFrom_acc (List.mem_cons_of_mem _ h)
    · exact cloFrom_acc h
theorem cloFrom_has {cells : List (Str × Addr)} : ∀ {names : List (Str × NameKind)} {acc : List (Str × Addr)} {n : Str}, (n, .free) ∈ names → (n, (cells.lookup n).getD 0) ∈ cloFrom cells names acc
  | (m, k) :: r, acc, n, h => by
    unfold cloFrom
    rcases List.mem_cons.mp h with e | h
    · cases e
      exact cloFrom_acc List.mem_cons_self
    · split
      · exact cloFrom_has h
      · exact cloFrom_has h

theorem cells_mem : ∀ {names : List (Str × NameKind)} {h : Heap} {acc : List (Str × Addr)} {x : Str} {c : Addr}, (x, c) ∈ cellsFrom h.objs.size names acc →
    (x, c) ∈ acc ∨ ((x, .cell) ∈ names ∧ h.objs.size ≤ c ∧ CellAt (pushCells h names) c none)
  | [], _, _, _, _, h => .inl h
  | (n, k) :: r, h, acc, x, c, hm => by
    unfold cellsFrom at hm
    unfold pushCells
    split at hm
    · rename_i hk
      rw [if_pos hk]
      have hk : k = .cell := by simpa using hk
      rw [← Heap.size_push h { cls := .type "cell", data := .cell none }] at hm
      rcases cells_mem hm with hm | ⟨h1, h2, h3⟩
      · rcases List.mem_cons.mp hm with e | hm
        · cases e
          exact .inr ⟨hk ▸ List.mem_cons_self, Nat.le_refl _, _, pushCells_keeps r _ _ _ (Heap.get?_push_size _ rfl), rfl⟩
        · exact .inl hm
      · rw [Heap.size_push] at h2
        exact .inr ⟨List.mem_cons_of_mem _ h1, Nat.le_of_succ_le h2, h3⟩
    · rename_i hk
      rw [if_neg hk]
      rcases cells_mem hm with hm | ⟨h1, h2, h3⟩
      · exact .inl hm
      · exact .inr ⟨List.mem_cons_of_mem _ h1, h2, h3⟩
theorem cells_acc : ∀ {names : List (Str × NameKind)} {n : Nat} {acc : List (Str × Addr)} {p : Str × Addr}, p ∈ acc → p ∈ cellsFrom n names acc
  | [], _, _, _, h => h
  | (m, k) :: r, n, acc, p, h => by
    unfold cellsFrom
    split
    · exact cells_acc (List.mem_cons_of_mem _ h)
    · exact cells_acc h
theorem cells_has : ∀ {names : List (Str × NameKind)} {n : Nat} {acc : List (Str × Addr)} {x : Str}, (x, .cell) ∈ names → ∃ c, (x, c) ∈ cellsFrom n names acc
  | (m, k) :: r, n, acc, x, h => by
    unfold cellsFrom
    rcases List.mem_cons.mp h with e | h
    · cases e
      exact ⟨n, cells_acc List.mem_cons_self⟩
    · split
      · exact cells_has h
      · exact cells_has h
theorem cells_inj : ∀ {names : List (Str × NameKind)} {h : Heap} {acc : List (Str × Addr)} {x y : Str} {c : Addr}, (∀ p ∈ acc, p.2 < h.objs.size) → (∀ x y c, (x, c) ∈ acc → (y, c) ∈ acc → x = y) →
    (x, c) ∈ cellsFrom h.objs.size names acc → (y, c) ∈ cellsFrom h.objs.size names acc → x = y
  | [], _, _, _, _, _, _, hi, h1, h2 => hi _ _ _ h1 h2
  | (n, k) :: r, h, acc, x, y, c, hl, hi, h1, h2 => by
    unfold cellsFrom at h1 h2
    split at h1
    · rename_i hk
      rw [if_pos hk] at h2
      rw [← Heap.size_push h { cls := .type "cell", data := .cell none }] at h1 h2
      refine cells_inj (h := h.push _) (fun p hp => ?_) (fun x y c a b => ?_) h1 h2
      · rw [Heap.size_push]
        rcases List.mem_cons.mp hp with rfl | hp
        · exact Nat.lt_succ_self _
        · exact Nat.lt_succ_of_lt (hl p hp)
      · rcases List.mem_cons.mp a with e | a <;> rcases List.mem_cons.mp b with e' | b
        · cases e; cases e'; rfl
        · cases e; exact absurd (hl _ b) (Nat.lt_irrefl _)
        · cases e'; exact absurd (hl _ a) (Nat.lt_irrefl _)
        · exact hi _ _ _ a b
    · rename_i hk
      rw [if_neg hk] at h2
      exact cells_inj hl hi h1 h2

theorem newEnv_comp {M : Model} {A : Around} {E : Value → Shared → Prop} {s : Shared} {scope : Scope} {globals : Addr} {closure : List (Str × Addr)} {qual : Str} {func : Option Addr} {code : Value} {around : Env} {builtins : Addr} {Q : Env → Shared → Prop}
    (h : Q (newEnv scope s.heap.objs.size globals (cellsFrom (s.heap.objs.size + 1) scope.names closure) qual func code (some around) builtins)
      { s with heap := pushCells (s.heap.push { cls := .type "dict", data := .dict #[] }) scope.names }) :
    wpAny M A (newFunctionEnv scope globals closure [] qual func code (some around) builtins) Q E s := by
  simp only [newFunctionEnv, Option.isSome_some, if_true]
  refine wpAny_bind (wpAny_alloc ?_)
  refine wpAny_bind (wpAny_layCells _ (fun n k c => rfl) scope.names closure _ _ ?_)
  rw [show ({ s with heap := s.heap.push { cls := .type "dict", data := .dict #[] } } : Shared).heap.objs.size = s.heap.objs.size + 1 from Heap.size_push ..]
  rw [List.forIn_nil]
  exact wpAny_bind (wpAny_pure (wpAny_pure h))

theorem lookup_relS {sc : Scope} : ∀ {names : List (Str × NameKind)} {x : Str} {k : NameKind},
    (names.map fun (n, k) => if (k == NameKind.free && sc.kind == .function && sc.names.lookup n == some .cell) then (n, NameKind.cell) else (n, k)).lookup x = some k →
    ∃ k', names.lookup x = some k' ∧ (k = k' ∨ (k' = .free ∧ k = .cell))
  | [], _, _, h => by simp at h
  | (n, k₀) :: r, x, k, h => by
    have ih := @lookup_relS sc r x k
    have h' : List.lookup x ((if (k₀ == NameKind.free && sc.kind == .function && sc.names.lookup n == some .cell) = true then (n, NameKind.cell) else (n, k₀)) :: (r.map _)) = some k := h
    cases hx : x == n with
    | true =>
      simp only [List.lookup_cons, hx]
      by_cases hc : (k₀ == NameKind.free && sc.kind == .function && sc.names.lookup n == some .cell) = true
      · rw [if_pos hc] at h'
        simp only [List.lookup_cons, hx] at h'
        cases h'
        simp only [Bool.and_eq_true, beq_iff_eq] at hc
        exact ⟨k₀, rfl, .inr ⟨hc.1.1, rfl⟩⟩
      · rw [if_neg hc] at h'
        simp only [List.lookup_cons, hx] at h'
        cases h'
        exact ⟨_, rfl, .inl rfl⟩
    | false =>
      simp only [List.lookup_cons, hx]
      by_cases hc : (k₀ == NameKind.free && sc.kind == .function && sc.names.lookup n == some .cell) = true
      · rw [if_pos hc] at h'
        simp only [List.lookup_cons, hx] at h'
        exact ih h'
      · rw [if_neg hc] at h'
        simp only [List.lookup_cons, hx] at h'
        exact ih h'
structure BlkOk (N : List Str) (sc scope : Scope) (own : List (Str × Nat)) : Prop where
  kind : scope.kind = .function
  uniq : ∀ y ∈ scope.names, scope.names.lookup y.1 = some y.2
  ix : ∀ p ∈ own, N[p.2]? = some p.1
  free : ∀ y ∈ scope.names, y.2 = .free → sc.names.lookup y.1 = some .cell ∨ sc.names.lookup y.1 = some .free
  own : ∀ y ∈ scope.names, y.2 = .local ∨ y.2 = .cell → y.1 ∈ own.map (·.1) ∨ y.1 ∉ N
def wipe (σ : St) : List Nat → St
  | [] => σ
  | v :: vs => (wipe σ vs).set v none
theorem wipe_length (σ : St) : ∀ vs : List Nat, (wipe σ vs).length = σ.length
  | [] => rfl
  | v :: vs => by unfold wipe; rw [List.length_set, wipe_length σ vs]
theorem wipe_some {σ : St} {i : Nat} {x : V} : ∀ {vs : List Nat}, (wipe σ vs)[i]? = some (some x) → σ[i]? = some (some x) ∧ i ∉ vs
  | [], h => ⟨h, by simp⟩
  | v :: vs, h => by
    unfold wipe at h
    by_cases hi : v = i
    · subst hi
      by_cases hv : v < (wipe σ vs).length
      · rw [List.getElem?_set_self hv] at h; cases h
      · rw [List.getElem?_eq_none (by simpa using hv)] at h; cases h
    · rw [List.getElem?_set_ne hi] at h
      obtain ⟨h1, h2⟩ := wipe_some h
      exact ⟨h1, by simp only [List.mem_cons, not_or]; exact ⟨fun e => hi e.symm, h2⟩⟩

abbrev Cx.blk (X : Cx) (s : Shared) (H : Hp) (scope : Scope) (cenv : Env) (fp : List Addr) : Cx := { X with s_0 := s, H_0 := H, env := cenv, outer := X.stack, ex := fp, fn := fun x => scope.names.lookup x == some .cell, pn := [], xe := fun _ _ => False }
section
variable {X : Cx} {pins : List (Addr × Obj)} {σ : St} {H : Hp} {s : Shared}
theorem block_start {scope : Scope} {own : List (Str × Nat)} {fp : List Addr} (I : Inv X pins σ H s) (ok : BlkOk X.N X.env.scope scope own) (hN : X.N.Nodup) (hfp : ∀ b ∈ fp, FpOk X pins H b ∧ b < s.heap.objs.size) :
    Inv (X.blk s H scope (compEnvC scope (cellsFrom (s.heap.objs.size + 1) scope.names (cloFrom X.env.cells scope.names [])) s.heap.objs.size X.env) fp) [] (wipe σ (own.map (·.2))) H { s with heap := pushCells (s.heap.push { cls := .type "dict", data := .dict #[] }) scope.names } := by
  have hfree : ∀ y ∈ scope.names, y.2 = .free → ∃ c, X.env.cells.lookup y.1 = some c := fun y hy e => by
    rcases ok.free y hy e with k | k
    · exact I.ok.has _ (.inl k)
    · exact I.ok.has _ (.inr k)
  generalize hcenv : compEnvC scope (cellsFrom (s.heap.objs.size + 1) scope.names (cloFrom X.env.cells scope.names [])) s.heap.objs.size X.env = cenv
  have kp : ∀ b o, s.heap.get? b = some o → (pushCells (s.heap.push { cls := .type "dict", data := .dict #[] }) scope.names).get? b = some o := fun b o e => pushCells_keeps _ _ _ _ (Heap.get?_push_of_some _ e)
  have hL : cenv.locals = s.heap.objs.size := by rw [← hcenv]; rfl
  have hcl : cenv.cells = cellsFrom (s.heap.objs.size + 1) scope.names (cloFrom X.env.cells scope.names []) := by rw [← hcenv]; rfl
  have hsc : cenv.scope = relS scope X.env.scope := by rw [← hcenv]; rfl
  rw [← Heap.size_push s.heap { cls := .type "dict", data := .dict #[] }] at hcl
  have cm : ∀ {y c}, (y, c) ∈ cloFrom X.env.cells scope.names [] → X.env.cells.lookup y = some c ∧ c < s.heap.objs.size := fun {y c} hm => by
    rcases cloFrom_mem hm with hm | ⟨h1, rfl⟩
    · cases hm
    · obtain ⟨c, hc⟩ := hfree _ h1 rfl
      rw [hc]
      obtain ⟨w, z⟩ := I.cell _ _ hc
      exact ⟨rfl, z.lt⟩
  have mem : ∀ {y c}, cenv.cells.lookup y = some c → (X.env.cells.lookup y = some c ∧ c < s.heap.objs.size) ∨ (s.heap.objs.size + 1 ≤ c ∧ CellAt (pushCells (s.heap.push { cls := .type "dict", data := .dict #[] }) scope.names) c none) := fun {y c} e => by
    rw [hcl] at e
    rcases cells_mem (PySem.mem_of_lookup e) with hm | ⟨_, h2, h3⟩
    · exact .inl (cm hm)
    · rw [Heap.size_push] at h2; exact .inr ⟨h2, h3⟩
  have look : ∀ {y}, scope.names.lookup y = some .free → ∃ c, cenv.cells.lookup y = some c ∧ X.env.cells.lookup y = some c := fun {y} hl => by
    have hy : (y, NameKind.free) ∈ scope.names := PySem.mem_of_lookup hl
    obtain ⟨c', e'⟩ := mem_lookup (cells_acc (names := scope.names) (n := (s.heap.push { cls := .type "dict", data := .dict #[] }).objs.size) (cloFrom_has (cells := X.env.cells) (acc := []) hy))
    rw [← hcl] at e'
    refine ⟨c', e', ?_⟩
    rw [hcl] at e'
    rcases cells_mem (PySem.mem_of_lookup e') with hm | ⟨h1, _, _⟩
    · exact (cm hm).1
    · have := ok.uniq _ h1
      rw [hl] at this; cases this
  have okB : (X.blk s H scope cenv fp).Ok := by
    refine ⟨I.ok.mod, by show cenv.scope.kind = _; rw [hsc]; exact ok.kind, by show cenv.globals = _; rw [← hcenv]; exact I.ok.glob, by show cenv.builtins = _; rw [← hcenv]; exact I.ok.blt, by show s.heap.objs.size ≤ cenv.locals; rw [hL]; exact Nat.le_refl _,
      fun y z c e1 e2 => ?_, fun y hy => ?_, fun y c z e => ?_, I.ok.hd, I.ok.frames, .inl rfl, fun b hb => ⟨?_, fun y c e z => ?_⟩, I.bs, Nat.le_trans I.ok.bsz I.sz, fun b o e hb => ?_, fun b hb z => ?_, I.stack, I.stkFree⟩
    · have e1 : cenv.cells.lookup y = some c := e1
      have e2 : cenv.cells.lookup z = some c := e2
      rw [hcl] at e1 e2
      refine cells_inj (fun p hp => ?_) (fun y z c a b => I.ok.inj y z c (cm a).1 (cm b).1) (PySem.mem_of_lookup e1) (PySem.mem_of_lookup e2)
      rw [Heap.size_push]
      exact Nat.lt_succ_of_lt (cm (y := p.1) (c := p.2) hp).2
    · show ∃ c, cenv.cells.lookup y = some c
      have key : ∀ k, cenv.kindOf y = some k → (k = .cell ∨ k = .free) → ∃ c, cenv.cells.lookup y = some c := fun k hk hk' => by
        unfold Env.kindOf at hk
        rw [hsc] at hk
        obtain ⟨k', e, r⟩ := lookup_relS hk
        have : k' = .cell ∨ k' = .free := by
          rcases r with rfl | ⟨rfl, _⟩
          · exact hk'
          · exact .inr rfl
        rcases this with rfl | rfl
        · obtain ⟨c, hm⟩ := cells_has (n := (s.heap.push { cls := .type "dict", data := .dict #[] }).objs.size) (acc := cloFrom X.env.cells scope.names []) (PySem.mem_of_lookup e)
          obtain ⟨c', e'⟩ := mem_lookup hm
          exact ⟨c', by rw [hcl]; exact e'⟩
        · obtain ⟨c, h1, _⟩ := look e
          exact ⟨c, h1⟩
      rcases hy with hy | hy
      · exact key _ hy (.inl rfl)
      · exact key _ hy (.inr rfl)
    · have z : (scope.names.lookup y == some NameKind.cell) = true := z
      have z : scope.names.lookup y = some .cell := by simpa using z
      have e : cenv.cells.lookup y = some c := e
      rw [hcl] at e
      rcases cells_mem (PySem.mem_of_lookup e) with hm | ⟨_, h2, _⟩
      · rcases cloFrom_mem hm with hm | ⟨h1, _⟩
        · cases hm
        · have q := ok.uniq _ h1
          rw [z] at q; cases q
      · rw [Heap.size_push] at h2
        exact Nat.le_of_succ_le h2
    · show b ≠ cenv.locals
      rw [hL]; exact Nat.ne_of_lt (hfp b hb).2
    · have e : cenv.cells.lookup y = some c := e
      rcases mem e with ⟨h1, _⟩ | ⟨h1, _⟩
      · exact (hfp b hb).1.2.2.2.2.1 y c h1 z
      · have h2 : s.heap.objs.size + 1 ≤ b := by rw [← z]; exact h1
        exact absurd (Nat.lt_of_lt_of_le (hfp b hb).2 (Nat.le_of_succ_le h2)) (Nat.lt_irrefl _)
    · rcases (hfp b hb).1.2.2.2.1 with z | z
      · exact I.ok.noex b o e z
      · exact absurd (Nat.lt_of_lt_of_le (Heap.lt_size e) (Nat.le_trans I.ok.bsz z)) (Nat.lt_irrefl _)
    · rcases List.mem_cons.mp (I.stkSub b z) with z | z
      · exact (hfp b hb).1.2.1 z
      · exact (hfp b hb).1.2.2.1 z
  refine ⟨okB, rfl, I.bare, Un.kept kp, ⟨fun _ => none, ?_, fun i y av e1 e2 e3 => ?_⟩, fun y c e => ?_, ?_, fun y c e => ?_, fun p hp => ?_, I.hok.kept kp, by rw [wipe_length]; exact I.len⟩
  · show Heap.Ns _ cenv.locals _
    rw [hL]
    exact Heap.Ns.keeps (Heap.Ns.new ..) fun b o e => pushCells_keeps _ _ _ _ e
  · obtain ⟨e2, hne⟩ := wipe_some e2
    have hfr : scope.names.lookup y = some .free ∧ (cenv.kindOf y = some .cell ∨ cenv.kindOf y = some .free) := by
      have key : ∀ k, cenv.scope.names.lookup y = some k → k = .local ∨ k = .cell ∨ k = .free → scope.names.lookup y = some .free ∧ (cenv.kindOf y = some .cell ∨ cenv.kindOf y = some .free) := fun k hk hk' => by
        have hk0 := hk
        rw [hsc] at hk
        obtain ⟨k', e, r⟩ := lookup_relS hk
        have no : ¬ (k' = .local ∨ k' = .cell) := fun hh => by
          rcases ok.own _ (PySem.mem_of_lookup e) hh with e' | e'
          · obtain ⟨p, hp, hpy⟩ := List.mem_map.mp e'
            have e3 := ok.ix p hp
            have : p.1 = y := hpy
            rw [this] at e3
            exact hne (List.mem_map.mpr ⟨p, hp, nodup_ix hN e3 e1⟩)
          · exact e' (List.mem_of_getElem? e1)
        rcases r with rfl | ⟨rfl, rfl⟩
        · rcases hk' with rfl | rfl | rfl
          · exact absurd (.inl rfl) no
          · exact absurd (.inr rfl) no
          · exact ⟨e, .inr hk0⟩
        · exact ⟨e, .inl hk0⟩
      have e3 : Vis cenv.scope y := e3
      rcases e3 with e3 | e3 | e3
      · exact key _ e3 (.inl rfl)
      · exact key _ e3 (.inr (.inl rfl))
      · exact key _ e3 (.inr (.inr rfl))
    obtain ⟨m, hn, hl⟩ := I.loc
    have hvis : Vis X.env.scope y := (ok.free _ (PySem.mem_of_lookup hfr.1) rfl).elim (fun k => .inr (.inl k)) (fun k => .inr (.inr k))
    obtain ⟨w, r, q⟩ := hl i y av e1 e2 hvis
    refine ⟨w, r, .inr ⟨hfr.2, ?_⟩⟩
    obtain ⟨c, h1, h2⟩ := look hfr.1
    rcases q with ⟨k, _⟩ | ⟨_, c', e', z⟩
    · have k : X.env.scope.names.lookup y = some .local := k
      rcases ok.free _ (PySem.mem_of_lookup hfr.1) rfl with k' | k' <;> rw [show X.env.scope.names.lookup y = _ from k'] at k <;> cases k
    · rw [h2] at e'; cases e'
      exact ⟨c, h1, z.keeps kp⟩
  · have e : cenv.cells.lookup y = some c := e
    rcases mem e with ⟨h1, _⟩ | ⟨_, z⟩
    · obtain ⟨w, z⟩ := I.cell y c h1
      exact ⟨w, z.keeps kp⟩
    · exact ⟨_, z⟩
  · show H cenv.locals = none
    rw [hL]; exact I.hok.fresh (Nat.le_refl _)
  · have e : cenv.cells.lookup y = some c := e
    rcases mem e with ⟨h1, _⟩ | ⟨h1, _⟩
    · exact I.freeC y c h1
    · exact I.hok.fresh (Nat.le_of_succ_le h1)
  · exact absurd (show p ∈ ([] : List (Addr × Obj)) ++ [] from hp) (by simp)

theorem app_ok {E : Value → Shared → Prop} {D : Addr} {xs : List V} {y : V} {v : Value} {Q : Value → Shared → Prop} (I : Inv X pins σ H s) (hD : H D = some (.lst xs)) (hz : xs.length < sizeLine) (r : RelV y v)
    (h : ∀ s', Inv X pins σ (upd H D (.lst (xs ++ [y]))) s' → Q .none s') : wpAny (model X.prog X.w) X.A (call (.builtin "list.append") [.ref D, v]) Q E s := by
  obtain ⟨hz', its, n, ri, e⟩ := I.hok D _ hD
  have hl := ri.length
  refine append_at (hsz := by rw [List.size_toArray]; omega) e fun h' sb ho' => ?_
  refine h { s with heap := h' } (I.write (t' := s.toks) (by rw [hD]; trivial) (.inl rfl) (fun b u hb q => (sb.2 b hb).trans q) ⟨_, ho'⟩ ⟨by rw [List.length_append]; exact hz, its ++ [v], n + 1, ri.append (.cons r .nil), ?_⟩)
  rw [ho']
  simp

def PTs (X : Cx) (ifs : List Expr) (t : TT) : Prop :=
  ∀ (pins : List (Addr × Obj)) (s : Shared) (σ : St) (H : Hp) (Q : Bool → Hp → Prop), Inv X pins σ H s → t σ H Q →
    wpAny (model X.prog X.w) X.A (forIn ifs true fun c r => if r = true then do let ok ← isTrue c X.env (eval c X.env); pure (ForInStep.yield ok) else pure (ForInStep.yield r)) (TP X pins σ Q) X.xe s
def tYes : TT := fun _ H Q => Q true H
theorem pts_nil : PTs X [] tYes := fun _ _ _ H _ I h => wpAny_tests_nil ⟨H, I, h⟩
theorem pts_one {c : Expr} {t : TT} (h : PT X c t) : PTs X [c] t := fun pins s σ H Q I hw => wpAny_tests_one (h pins s σ H Q I hw)
end

theorem thnF {α : Type} {t : Sem α} {Q Q' : α → Shared → Prop} {M : Model} {A : Around} {E : Value → Shared → Prop} {s : Shared} (h : wpAny M A t Q (fun _ _ => False) s) (hQ : ∀ a s, Q a s → Q' a s) : wpAny M A t Q' E s := wpAny_mono h hQ fun _ _ z => False.elim z

theorem compLoop_any {prog : Program} {w : World} {A : Around} {R : Result → Shared → Prop} {s : Shared} {elt target iter : Expr} {ifs : List Expr} {scope : Scope} {pos : Pos} {it acc : Value} {env : Env} (I : Nat → Shared → Prop)
    (turn : ∀ n s, I n s → wpAny (model prog w) A (pyNext it) (fun r s₁ => match r with
      | none => R (.ok .next) s₁
      | some v => wpAny (model prog w) A (letOwnedTupleGo target it v) (fun _ s₁' => wpAny (model prog w) A (assign target env v) (fun _ s₂ =>
          wpAny (model prog w) A (forIn ifs true fun c r => if r = true then do let ok ← isTrue c env (eval c env); pure (ForInStep.yield ok) else pure (ForInStep.yield r)) (fun ok s₃ =>
            if ok = true then wpAny (model prog w) A (eval elt env) (fun x s₄ =>
              wpAny (model prog w) A (call (.builtin "list.append") [acc, x]) (fun _ s₅ => ∃ m, m < n ∧ I m s₅) (notedBy (model prog w) A env fun e s' => R (.error e) s') s₄) (notedBy (model prog w) A env fun e s' => R (.error e) s') s₃
            else ∃ m, m < n ∧ I m s₃) (notedBy (model prog w) A env fun e s' => R (.error e) s') s₂) (notedBy (model prog w) A env fun e s' => R (.error e) s') s₁') (notedBy (model prog w) A env fun e s' => R (.error e) s') s₁) (notedBy (model prog w) A env fun e s' => R (.error e) s') s)
    (n : Nat) (h : I n s) :
    codeAny (model prog w) A (.compLoop (.ListComp elt [⟨target, iter, ifs, 0⟩] scope pos) 0 it acc env) R s := by
  refine codeAny_loop rfl I (fun n s hI => ?_) n h
  show wpAny _ A ((compTurn (.ListComp elt [⟨target, iter, ifs, 0⟩] scope pos) 0 it acc env).onRaise (fun x => do noteFrame x env; theTreesLotGoes x)) _ _ s
  refine wpAny_noted ?_
  rw [compTurn_list]
  refine wpAny_bind (wpAny_standAt (wpAny_bind (wpAny_mono (turn n s hI) (fun r s₁ h₁ => ?_) fun _ _ h' => h')))
  cases r with
  | none => exact wpAny_pure h₁
  | some v =>
    refine wpAny_bind (wpAny_mono h₁ (fun _ s₁' h₁' => ?_) fun _ _ h' => h')
    refine wpAny_bind (wpAny_mono h₁' (fun _ s₂ h₂ => wpAny_bind (wpAny_mono h₂ (fun ok s₃ h₃ => ?_) fun _ _ h' => h')) fun _ _ h' => h')
    cases ok with
    | false => exact wpAny_pure ⟨rfl, h₃⟩
    | true =>
      exact wpAny_bind (wpAny_bind (wpAny_mono h₃ (fun x s₄ h₄ => wpAny_bind (wpAny_mono h₄ (fun _ s₅ h₅ => wpAny_pure (wpAny_pure ⟨rfl, h₅⟩)) fun _ _ h' => h')) fun _ _ h' => h'))

section
variable {X : Cx}
def tLc (wi : TI) (g : TG) (tt : TT) (te : TE) (vs : List Nat) : TE := fun σ H Q => wi σ H fun J H1 => ∀ D, H1 D = none → ∃ W : Nat → Nat → Hp → Prop, (∃ m, W 0 m (upd H1 D (.lst []))) ∧ ∀ i m H, W i m H →
  (J.stop i H ∧ Q (.ref D) H) ∨ (J.go i H ∧ ∃ Nx : Hp → Prop, (∀ H', Nx H' → ∃ m', m' < m ∧ W (i + 1) m' H') ∧ ∀ x H', J.yld i H x H' → g x (wipe σ vs) H' fun σ2 H2 => wipe σ2 vs = wipe σ vs ∧ tt σ2 H2 fun b H3 =>
    if b = true then te σ2 H3 fun y H4 => ∃ acc, H4 D = some (.lst acc) ∧ acc.length < sizeLine ∧ Nx (upd H4 D (.lst (acc ++ [y]))) else Nx H3)
theorem lc_core {pins : List (Addr × Obj)} {s : Shared} {σ : St} {H : Hp} {Q : VK} {elt tg iter : Expr} {ifs : List Expr} {scope : Scope} {own : List (Str × Nat)} {pos pos' : Pos} {wi : TI} {g : TG} {tt : TT} {te : TE} {use : Option (Value → Sem Unit)} {Qf : Value → Shared → Prop}
    (hc : X.calm = true) (hN : X.N.Nodup) (I : Inv X pins σ H s) (hi : PI X tg iter wi) (ok : BlkOk X.N X.env.scope scope own)
    (hg : ∀ (s : Shared) (H : Hp) (C : Addr) (cl : List (Str × Addr)) (fp : List Addr), PG (X.blk s H scope (compEnvC scope cl C X.env) fp) tg g) (ht : ∀ (s : Shared) (H : Hp) (C : Addr) (cl : List (Str × Addr)) (fp : List Addr), PTs (X.blk s H scope (compEnvC scope cl C X.env) fp) ifs tt)
    (he : ∀ (s : Shared) (H : Hp) (C : Addr) (cl : List (Str × Addr)) (fp : List Addr), PE (X.blk s H scope (compEnvC scope cl C X.env) fp) elt te) (hs : ∀ x, foldedSetIterable iter X.env x = pure x)
    (h : tLc wi g tt te (own.map (·.2)) σ H Q)
    (hRR : ∀ D C s' m H', Inv X pins σ H' s' → Q (.ref D) H' → s'.heap.Ns C m → FpOk X pins H' C → compPost (model X.prog X.w) X.A X.xe use Qf (.ref D) C (.ok .next) s') :
    wpAny (model X.prog X.w) X.A (comprehension (.ListComp elt [⟨tg, iter, ifs, 0⟩] scope pos) scope X.env pos' (newList []) false (eval iter X.env) use) Qf X.xe s := by
  have hfree : ∀ y ∈ scope.names, y.2 = .free → ∃ c, X.env.cells.lookup y.1 = some c := fun y hy e => by
    rcases ok.free y hy e with k | k
    · exact I.ok.has _ (.inl k)
    · exact I.ok.has _ (.inr k)
  refine wpAny_comprehension_free (use := use) rfl hs (closure_ok hfree) ok.kind (fun y hy e => by rw [ok.uniq y hy, e])
    (thn (hi pins s σ H _ I h) fun xv s1 hx => thn hx fun itv s2 h2 => ?_)
  obtain ⟨it, fp, tn, J, H2, e, I2, T, st2, f2, q⟩ := h2
  subst e
  refine wpAny_newObj_type (newEnv_comp ?_) (by show 0 ≤ sizeLine; decide)
  generalize hD : s2.heap.objs.size = D
  have hDn : H2 D = none := I2.hok.fresh (Nat.le_of_eq hD)
  obtain ⟨W, ⟨m0, w0⟩, turn⟩ := q D hDn
  generalize hs3 : ({ s2 with heap := s2.heap.push { cls := .type "list", data := .seq ([] : List Value).toArray } } : Shared) = s3
  have I3 : Inv X pins σ (upd H2 D (.lst [])) s3 := by
    rw [← hs3]
    refine I2.laid (t' := s2.toks) (fun b o e => Heap.get?_push_of_some _ e) (Nat.le_of_eq hD) ⟨Nat.zero_le _, [], 0, .nil, ?_⟩
    rw [← hD]
    exact Heap.get?_push_size _ rfl
  have h3 : s3.heap = s2.heap.push { cls := .type "list", data := .seq ([] : List Value).toArray } := by rw [← hs3]
  have sz : ∀ b ∈ fp, b < s2.heap.objs.size := fun b hb => by
    obtain ⟨o, e, _⟩ := T.obj _ _ st2 b hb
    exact Heap.lt_size e
  have f3 : ∀ b ∈ fp, FpOk X pins (upd H2 D (.lst [])) b ∧ b < s3.heap.objs.size := fun b hb => by
    have hlt := sz b hb
    refine ⟨⟨?_, (f2 b hb).2⟩, by rw [h3, Heap.size_push]; exact Nat.lt_succ_of_lt hlt⟩
    rw [upd_ne (by rw [← hD]; exact Nat.ne_of_lt hlt)]
    exact (f2 b hb).1
  have st3 : tn 0 s3.heap := T.keep _ _ _ st2 fun b _ o e => by rw [h3]; exact Heap.get?_push_of_some _ e
  have I4 := block_start I3 ok hN f3
  have pg := hg s3 (upd H2 D (.lst [])) s3.heap.objs.size (cellsFrom (s3.heap.objs.size + 1) scope.names (cloFrom X.env.cells scope.names [])) fp
  have pt := ht s3 (upd H2 D (.lst [])) s3.heap.objs.size (cellsFrom (s3.heap.objs.size + 1) scope.names (cloFrom X.env.cells scope.names [])) fp
  have pe := he s3 (upd H2 D (.lst [])) s3.heap.objs.size (cellsFrom (s3.heap.objs.size + 1) scope.names (cloFrom X.env.cells scope.names [])) fp
  show codeAny _ _ (.compStart (.ListComp elt [⟨tg, iter, ifs, 0⟩] scope pos) 0 (.ref it) (.ref D) (compEnvC scope (cellsFrom (s3.heap.objs.size + 1) scope.names (cloFrom X.env.cells scope.names [])) s3.heap.objs.size X.env)) (compPost (model X.prog X.w) X.A X.xe use Qf (.ref D) s3.heap.objs.size) { s3 with heap := pushCells (s3.heap.push { cls := .type "dict", data := .dict #[] }) scope.names }
  have nfp : ∀ b ∈ fp, (upd H2 D (.lst [])) b = none := fun b hb => (f3 b hb).1.1
  generalize hce : compEnvC scope (cellsFrom (s3.heap.objs.size + 1) scope.names (cloFrom X.env.cells scope.names [])) s3.heap.objs.size X.env = ce at I4 pg pt pe ⊢
  have cL : ce.locals = s3.heap.objs.size := by subst hce; rfl
  generalize hH3 : upd H2 D (.lst []) = H3 at I3 I4 pg pt pe w0 nfp f3
  generalize hs4 : ({ s3 with heap := pushCells (s3.heap.push { cls := .type "dict", data := .dict #[] }) scope.names } : Shared) = s4 at I4 ⊢
  have st4 : tn 0 s4.heap := T.keep _ _ _ st3 fun b _ o e => by rw [← hs4]; exact pushCells_keeps _ _ _ _ (Heap.get?_push_of_some _ e)
  have stat : ∀ {σ' : St} {H' : Hp} {s' : Shared}, Inv (X.blk s3 H3 scope ce fp) [] σ' H' s' → (∀ b ∈ fp, H' b = none) → ∀ b ∈ fp, FpOk (X.blk s3 H3 scope ce fp) [] H' b := fun {σ' H' s'} I' hn b hb =>
    ⟨hn b hb, (I'.ok.exf b hb).1, I'.ok.exfs b hb, .inl hb, fun x c e => (I'.ok.exf b hb).2 x c e, fun p hp => absurd (show p ∈ ([] : List (Addr × Obj)) ++ [] from hp) (by simp)⟩
  have loop : codeAny (model X.prog X.w) X.A (.compLoop (.ListComp elt [⟨tg, iter, ifs, 0⟩] scope pos) 0 (.ref it) (.ref D) ce) (compPost (model X.prog X.w) X.A X.xe use Qf (.ref D) s3.heap.objs.size) s4 := by
    refine compLoop_any (fun n s' => ∃ i H', Inv (X.blk s3 H3 scope ce fp) [] (wipe σ (own.map (·.2))) H' s' ∧ tn i s'.heap ∧ (∀ b ∈ fp, H' b = none) ∧ W i n H') ?_ m0 ⟨0, H3, I4, st4, nfp, w0⟩
    rintro n s5 ⟨i, H5, I5, st5, n5, w5⟩
    rcases turn i n H5 w5 with ⟨stop, qq⟩ | ⟨go, Nx, hNx, step⟩
    · have td := T.done (X.blk s3 H3 scope ce fp) rfl rfl rfl hc i [] s5 _ H5 (fun _ _ => False) I5 (stat I5 n5) st5 stop
      refine thnF td fun r s6 ⟨hr, I6⟩ => ?_
      subst hr
      have I7 : Inv X pins σ H5 s6 := I3.call' (ch := fp) I6.os I6.base I6.hok I6.bare fun b hb => ⟨(f3 b hb).1.2.2.2.1, (f3 b hb).1.2.1, (f3 b hb).1.2.2.2.2.1, (f3 b hb).1.2.2.2.2.2⟩
      have nC : H5 s3.heap.objs.size = none := by
        have z : H5 ce.locals = none := I6.free
        rw [cL] at z
        exact z
      obtain ⟨m, hn, _⟩ := I6.loc
      have hn : s6.heap.Ns ce.locals m := hn
      rw [cL] at hn
      exact hRR D s3.heap.objs.size s6 m H5 I7 qq hn (I3.fpOk (Nat.le_refl _) nC)
    · have ti := T.item (X.blk s3 H3 scope ce fp) rfl rfl rfl hc i [] s5 _ H5 (fun _ _ => False) I5 (stat I5 n5) st5 go
      refine thnF ti fun r s6 ⟨u, hr, h6⟩ => ?_
      subst hr
      refine thnF h6 fun _ s7 ⟨x, H7, I7, r7, y7, st7, n7⟩ => ?_
      have I7' := I7.pinned (stat I7 n7) (T.obj _ _ st7)
      refine thnF (pg _ s7 _ H7 x u _ I7' r7 (step x H7 y7)) fun _ s8 ⟨σ8, H8, I8, hw8, q8⟩ => ?_
      refine thnF (pt _ s8 σ8 H8 _ I8 q8) fun b s9 ⟨H9, I9, q9⟩ => ?_
      have fin : ∀ {s' : Shared} {H' : Hp}, Inv (X.blk s3 H3 scope ce fp) ([] ++ pinsAt fp s7.heap) σ8 H' s' → Nx H' → ∃ m, m < n ∧ ∃ i H', Inv (X.blk s3 H3 scope ce fp) [] (wipe σ (own.map (·.2))) H' s' ∧ tn i s'.heap ∧ (∀ b ∈ fp, H' b = none) ∧ W i m H' := fun {s' H'} I' nx => by
        obtain ⟨m', hm, w'⟩ := hNx H' nx
        have pin' : ∀ b ∈ fp, ∀ o, s7.heap.get? b = some o → s'.heap.get? b = some o ∧ H' b = none := fun b hb o e =>
          let z := I'.pin (b, o) (List.mem_append_right _ (List.mem_append_right _ (mem_pinsAt hb e)))
          ⟨z.1, z.2.1⟩
        have hl : (wipe σ (own.map (·.2))).length = σ8.length := by rw [← hw8, wipe_length]
        refine ⟨m', hm, i + 1, H', (I'.unpinned (pins := [])).weak hl (fun j v e => ?_), T.keep _ _ _ st7 fun b hb o e => (pin' b hb o e).1, fun b hb => ?_, w'⟩
        · rw [← hw8] at e
          exact (wipe_some e).1
        · obtain ⟨o, e, _⟩ := T.obj _ _ st7 b hb
          exact (pin' b hb o e).2
      cases b with
      | false =>
        simp only [Bool.false_eq_true, if_false] at q9 ⊢
        exact fin I9 q9
      | true =>
        simp only [if_true] at q9 ⊢
        refine thnF (pe _ s9 σ8 H9 _ I9 q9) fun z s10 ⟨yv, H10, I10, r10, acc, hD10, hz10, nx⟩ => ?_
        exact app_ok (X := X.blk s3 H3 scope ce fp) I10 hD10 hz10 r10 fun s11 I11 => fin I11 nx
  exact codeAny_compStart_list loop (T.self X.A 0 _ _ _ st4 loop)
theorem pe_lc {elt tg iter : Expr} {ifs : List Expr} {scope : Scope} {own : List (Str × Nat)} {pos : Pos} {wi : TI} {g : TG} {tt : TT} {te : TE} (hc : X.calm = true) (hN : X.N.Nodup) (hi : PI X tg iter wi) (ok : BlkOk X.N X.env.scope scope own)
    (hg : ∀ (s : Shared) (H : Hp) (C : Addr) (cl : List (Str × Addr)) (fp : List Addr), PG (X.blk s H scope (compEnvC scope cl C X.env) fp) tg g) (ht : ∀ (s : Shared) (H : Hp) (C : Addr) (cl : List (Str × Addr)) (fp : List Addr), PTs (X.blk s H scope (compEnvC scope cl C X.env) fp) ifs tt)
    (he : ∀ (s : Shared) (H : Hp) (C : Addr) (cl : List (Str × Addr)) (fp : List Addr), PE (X.blk s H scope (compEnvC scope cl C X.env) fp) elt te) (hs : ∀ x, foldedSetIterable iter X.env x = pure x := by intro _; rfl) :
    PE X (.ListComp elt [⟨tg, iter, ifs, 0⟩] scope pos) (tLc wi g tt te (own.map (·.2))) := by
  intro pins s σ H Q I h
  rw [eval_ListComp]
  refine lc_core hc hN I hi ok hg ht he hs h fun D C s' m H' I' q hn f => ⟨m, hn, fun h'' sb => ?_⟩
  obtain ⟨f0, f1, f2, f3, f4, f5⟩ := f
  exact ⟨.ref D, H', I'.turned (t' := s'.toks) (fun b o hb e => (sb.2 b hb).trans e) f0 f1 f3 f4 f5, rfl, q⟩
theorem ps_setLc {i : Nat} {y : Str} {py : Pos} {elt tg iter : Expr} {ifs : List Expr} {scope : Scope} {own : List (Str × Nat)} {pos spos : Pos} {wi : TI} {g : TG} {tt : TT} {te : TE} (hc : X.calm = true) (hN : X.N.Nodup) (hy : X.N[i]? = some y) (hyl : X.env.scope.names.lookup y = some .local)
    (hsw : swapsWith (.ListComp elt [⟨tg, iter, ifs, 0⟩] scope pos) (some (.Name y py)) spos.line X.env = pure true) (hi : PI X tg iter wi) (ok : BlkOk X.N X.env.scope scope own)
    (hg : ∀ (s : Shared) (H : Hp) (C : Addr) (cl : List (Str × Addr)) (fp : List Addr), PG (X.blk s H scope (compEnvC scope cl C X.env) fp) tg g) (ht : ∀ (s : Shared) (H : Hp) (C : Addr) (cl : List (Str × Addr)) (fp : List Addr), PTs (X.blk s H scope (compEnvC scope cl C X.env) fp) ifs tt)
    (he : ∀ (s : Shared) (H : Hp) (C : Addr) (cl : List (Str × Addr)) (fp : List Addr), PE (X.blk s H scope (compEnvC scope cl C X.env) fp) elt te) (hs : ∀ x, foldedSetIterable iter X.env x = pure x := by intro _; rfl) :
    PS X (.Assign [.Name y py] (.ListComp elt [⟨tg, iter, ifs, 0⟩] scope pos) spos) (tAsg (tLc wi g tt te (own.map (·.2))) (gName i)) := by
  intro pins s σ H D I h
  rw [exec_Assign_Name_used _ _ _ _ hsw]
  refine wpAny_bind (wpAny_standAt (wpAny_bind ?_))
  show wpAny _ X.A (do let _ ← comprehension (.ListComp elt [⟨tg, iter, ifs, 0⟩] scope pos) scope X.env (firstIterPos [⟨tg, iter, ifs, 0⟩] pos) (newList []) false (eval iter X.env) (some (assign (.Name y py) X.env))) _ _ s
  have h : tLc wi g tt te (own.map (·.2)) σ H (fun x H1 => gName i x σ H1 D.nx) := h
  refine wpAny_bind (thn (lc_core (Qf := fun _ s' => SP X pins D .next s') hc hN I hi ok hg ht he hs h fun L C s' m H' I' q hn f => ?_) fun _ s' hq => wpAny_pure (wpAny_pure hq))
  show wpAny _ _ (assign (.Name y py) X.env (.ref L)) _ _ _
  refine wpAny_assign_Name (store_ok2 (v := V.ref L) I' hN hy (.inl hyl) rfl (fun s2 I2 ⟨a, sb, ha⟩ => ?_) (.inr hyl))
  obtain ⟨f0, f1, f2, f3, f4, f5⟩ := f
  have haC : C ≠ a := by
    rcases ha with z | z
    · rw [z]; exact f1
    · exact fun e => f4 y a z e.symm
  refine ⟨m, hn.sameBut sb haC, fun h3 sb3 => ?_⟩
  exact ⟨_, H', I2.turned (t' := s2.toks) (fun b o hb e => (sb3.2 b hb).trans e) f0 f1 f3 f4 f5, q⟩
theorem sw_true {elt : Expr} {gs : List Comprehension} {scope : Scope} {pos py : Pos} {y : Str} {l : Nat} {env : Env} (hk : env.scope.kind = .function) (hy : env.scope.names.lookup y = some .local) (hl : (py.line == pos.line) = true)
    (ha : (scope.names.any fun (n, k) => n == y && (k == .local || k == .cell)) = false) : swapsWith (.ListComp elt gs scope pos) (some (.Name y py)) l env = pure true := by
  have ky : env.kindOf y = some .local := hy
  have hb : env.blockKind = .function := by unfold Env.blockKind; rw [hk]; rfl
  unfold swapsWith
  simp only [hb, ky, ha, Expr.pos, hl]
  rfl
end

theorem lc_range {lo : Int} {n : Nat} {g : TG} {tt : TT} {te : TE} {vs : List Nat} {σ : St} {H1 : Hp} {D : Addr} {Qd : Hp → Prop} (Pv : Nat → Hp → Prop) (h0 : Pv 0 (upd H1 D (.lst [])))
    (hs : ∀ i H, i < n → Pv i H → g (.int (lo + i)) (wipe σ vs) H fun σ2 H2 => wipe σ2 vs = wipe σ vs ∧ tt σ2 H2 fun b H3 =>
      if b = true then te σ2 H3 fun y H4 => ∃ acc, H4 D = some (.lst acc) ∧ acc.length < sizeLine ∧ Pv (i + 1) (upd H4 D (.lst (acc ++ [y]))) else Pv (i + 1) H3) (hd : ∀ H, Pv n H → Qd H) :
    ∃ W : Nat → Nat → Hp → Prop, (∃ m, W 0 m (upd H1 D (.lst []))) ∧ ∀ i m H, W i m H →
      ((Itr lo n).stop i H ∧ Qd H) ∨ ((Itr lo n).go i H ∧ ∃ Nx : Hp → Prop, (∀ H', Nx H' → ∃ m', m' < m ∧ W (i + 1) m' H') ∧ ∀ x H', (Itr lo n).yld i H x H' → g x (wipe σ vs) H' fun σ2 H2 => wipe σ2 vs = wipe σ vs ∧ tt σ2 H2 fun b H3 =>
        if b = true then te σ2 H3 fun y H4 => ∃ acc, H4 D = some (.lst acc) ∧ acc.length < sizeLine ∧ Nx (upd H4 D (.lst (acc ++ [y]))) else Nx H3) := by
  refine ⟨fun i m H => m = n - i ∧ i ≤ n ∧ Pv i H, ⟨n, by simp, Nat.zero_le _, h0⟩, ?_⟩
  rintro i m H ⟨rfl, hi, p⟩
  by_cases hlt : i < n
  · refine .inr ⟨hlt, Pv (i + 1), fun H' p' => ⟨n - (i + 1), by omega, rfl, hlt, p'⟩, fun x H' y => ?_⟩
    obtain ⟨e, y⟩ := y
    subst e y
    exact hs i _ hlt p
  · have e : i = n := by omega
    subst e
    exact .inl ⟨Nat.le_refl _, hd H p⟩
theorem lc_list {K : PySem.W.Frag} {a : Addr} {xs : List V} {g : TG} {tt : TT} {te : TE} {vs : List Nat} {σ : St} {H1 : Hp} {D : Addr} {Qd : Hp → Prop} (Pv : Nat → Hp → Prop) (h0 : Pv 0 (upd H1 D (.lst []))) (hl : ∀ i H, i ≤ xs.length → Pv i H → SqL K H a xs)
    (hs : ∀ i x H, xs[i]? = some x → Pv i H → g x (wipe σ vs) H fun σ2 H2 => wipe σ2 vs = wipe σ vs ∧ tt σ2 H2 fun b H3 =>
      if b = true then te σ2 H3 fun y H4 => ∃ acc, H4 D = some (.lst acc) ∧ acc.length < sizeLine ∧ Pv (i + 1) (upd H4 D (.lst (acc ++ [y]))) else Pv (i + 1) H3) (hd : ∀ H, Pv xs.length H → Qd H) :
    ∃ W : Nat → Nat → Hp → Prop, (∃ m, W 0 m (upd H1 D (.lst []))) ∧ ∀ i m H, W i m H →
      ((Itl K a).stop i H ∧ Qd H) ∨ ((Itl K a).go i H ∧ ∃ Nx : Hp → Prop, (∀ H', Nx H' → ∃ m', m' < m ∧ W (i + 1) m' H') ∧ ∀ x H', (Itl K a).yld i H x H' → g x (wipe σ vs) H' fun σ2 H2 => wipe σ2 vs = wipe σ vs ∧ tt σ2 H2 fun b H3 =>
        if b = true then te σ2 H3 fun y H4 => ∃ acc, H4 D = some (.lst acc) ∧ acc.length < sizeLine ∧ Nx (upd H4 D (.lst (acc ++ [y]))) else Nx H3) := by
  refine ⟨fun i m H => m = xs.length - i ∧ i ≤ xs.length ∧ Pv i H, ⟨xs.length, by simp, Nat.zero_le _, h0⟩, ?_⟩
  rintro i m H ⟨rfl, hi, p⟩
  have q := hl i H hi p
  by_cases hlt : i < xs.length
  · refine .inr ⟨⟨xs, xs[i], q, by simp [hlt]⟩, Pv (i + 1), fun H' p' => ⟨xs.length - (i + 1), by omega, rfl, hlt, p'⟩, fun x H' y => ?_⟩
    obtain ⟨e, y⟩ := y
    subst e
    exact hs i x _ (y xs q) p
  · have e : i = xs.length := by omega
    subst e
    exact .inl ⟨⟨xs, q, Nat.le_refl _⟩, hd H p⟩
def blkC (N : List Str) (sc scope : Scope) (own : List (Str × Nat)) : Bool :=
  (match scope.kind with | .function => true | _ => false) && (scope.names.all fun y => decide (scope.names.lookup y.1 = some y.2)) && (own.all fun p => decide (N[p.2]? = some p.1)) &&
    (scope.names.all fun y => match y.2 with
      | .free => (match sc.names.lookup y.1 with | some .cell => true | some .free => true | _ => false)
      | .local => decide (y.1 ∈ own.map (·.1)) || decide (y.1 ∉ N)
      | .cell => decide (y.1 ∈ own.map (·.1)) || decide (y.1 ∉ N)
      | _ => true)
theorem blkOk_by {N : List Str} {sc scope : Scope} {own : List (Str × Nat)} (h : blkC N sc scope own = true) : BlkOk N sc scope own := by
  unfold blkC at h
  simp only [Bool.and_eq_true, List.all_eq_true, decide_eq_true_eq] at h
  obtain ⟨⟨⟨h1, h2⟩, h3⟩, h4⟩ := h
  refine ⟨?_, h2, h3, fun y hy e => ?_, fun y hy e => ?_⟩
  · split at h1
    · assumption
    · cases h1
  · have q := h4 y hy
    simp only [e] at q
    split at q <;> first | exact .inl (by assumption) | exact .inr (by assumption) | cases q
  · have q := h4 y hy
    rcases e with e | e <;> (simp only [e, Bool.or_eq_true, decide_eq_true_eq] at q; exact q)
end L2

namespace L2
open PySem PySem.Spec PyProof.Rows

section
variable {prog : Program} {w : World} {A : Around} {R : Result → Shared → Prop} {s : Shared} {elt t0 i0 t1 i1 : Expr} {ifs0 ifs1 : List Expr} {scope : Scope} {pos : Pos} {it acc : Value} {env : Env}
end

section
variable {X : Cx}
end
end L2

namespace L2
open PySem PySem.Spec PyProof.Rows

section
variable {κ : Type} [DecidableEq κ]
def valV (kvs : List (κ × V)) (k : κ) : Option V := (kvs.find? fun kv => decide (kv.1 = k)).map (·.2)
def putK (kvs : List (κ × V)) (k : κ) (v : V) : List (κ × V) :=
  if (kvs.any fun kv => decide (kv.1 = k)) = true then kvs.map (fun kv => if kv.1 = k then (kv.1, v) else kv) else kvs ++ [(k, v)]
def dropK (kvs : List (κ × V)) (k : κ) : List (κ × V) := kvs.filter fun kv => decide (kv.1 ≠ k)

theorem valV_pos {p : κ × V} {r : List (κ × V)} {k : κ} (e : p.1 = k) : valV (p :: r) k = some p.2 := by simp [valV, List.find?_cons, e]
theorem valV_neg {p : κ × V} {r : List (κ × V)} {k : κ} (e : ¬ p.1 = k) : valV (p :: r) k = valV r k := by simp [valV, List.find?_cons, e]
theorem valV_any (k : κ) : ∀ kvs : List (κ × V), (kvs.any fun kv => decide (kv.1 = k)) = (valV kvs k).isSome
  | [] => rfl
  | p :: r => by
    rw [List.any_cons]
    by_cases e : p.1 = k
    · simp only [valV_pos e, decide_eq_true e, Bool.true_or, Option.isSome_some]
    · rw [valV_neg e, decide_eq_false e, Bool.false_or]; exact valV_any k r
theorem valV_map (k j : κ) (y : V) : ∀ kvs : List (κ × V), valV (kvs.map fun kv => if kv.1 = k then (kv.1, y) else kv) j = (valV kvs j).map fun x => if j = k then y else x
  | [] => rfl
  | p :: r => by
    have ih := valV_map k j y r
    rw [List.map_cons]
    by_cases h : p.1 = k
    · rw [if_pos h]
      by_cases e : p.1 = j
      · rw [valV_pos (p := (p.1, y)) e, valV_pos e, Option.map_some, if_pos (e.symm.trans h)]
      · rw [valV_neg (p := (p.1, y)) e, valV_neg e, ih]
    · rw [if_neg h]
      by_cases e : p.1 = j
      · rw [valV_pos (p := p) e, valV_pos e, Option.map_some, if_neg (fun z => h (e.trans z))]
      · rw [valV_neg (p := p) e, valV_neg e, ih]
theorem valV_snoc (k j : κ) (y : V) : ∀ kvs : List (κ × V), valV kvs k = none → valV (kvs ++ [(k, y)]) j = if j = k then some y else valV kvs j
  | [], _ => by
    by_cases e : k = j
    · rw [if_pos e.symm]; exact valV_pos (p := (k, y)) e
    · rw [if_neg (fun z => e z.symm)]; exact valV_neg (p := (k, y)) e
  | p :: r, hn => by
    rw [List.cons_append]
    have hk : ¬ p.1 = k := fun z => by rw [valV_pos z] at hn; cases hn
    rw [valV_neg hk] at hn
    have ih := valV_snoc k j y r hn
    by_cases e : p.1 = j
    · rw [valV_pos e, valV_pos e, if_neg (fun z => hk (e.trans z))]
    · rw [valV_neg e, valV_neg e, ih]
theorem valV_put (kvs : List (κ × V)) (k j : κ) (y : V) : valV (putK kvs k y) j = if j = k then some y else valV kvs j := by
  unfold putK
  by_cases a : (kvs.any fun kv => decide (kv.1 = k)) = true
  · rw [if_pos a, valV_map]
    rw [valV_any] at a
    by_cases e : j = k
    · obtain ⟨x, hx⟩ := Option.isSome_iff_exists.mp a
      rw [if_pos e, e, hx, Option.map_some, if_pos rfl]
    · rw [if_neg e]
      cases valV kvs j with
      | none => rfl
      | some x => rw [Option.map_some, if_neg e]
  · rw [if_neg a]
    refine valV_snoc k j y kvs ?_
    rw [valV_any] at a
    cases q : valV kvs k with
    | none => rfl
    | some x => rw [q] at a; exact (a rfl).elim
theorem length_putK (kvs : List (κ × V)) (k : κ) (v : V) : (putK kvs k v).length ≤ kvs.length + 1 := by
  unfold putK
  split
  · rw [List.length_map]; omega
  · rw [List.length_append, List.length_cons, List.length_nil]; omega
theorem putK_new {kvs : List (κ × V)} {k : κ} (v : V) (h : valV kvs k = none) : putK kvs k v = kvs ++ [(k, v)] := by
  unfold putK
  rw [valV_any, h]
  exact if_neg (by decide)

theorem RelO.isSome_eq {o : Option V} {u : Option Value} (r : RelO o u) : o.isSome = u.isSome := by
  cases o with
  | none => cases u with
    | none => rfl
    | some _ => exact (show False from r).elim
  | some _ => cases u with
    | none => exact (show False from r).elim
    | some _ => rfl
theorem RelO.getD {o : Option V} {u : Option Value} {d : V} {d' : Value} (r : RelO o u) (rd : RelV d d') : RelV (o.getD d) (u.getD d') := by
  cases o with
  | none => cases u with
    | none => exact rd
    | some _ => exact (show False from r).elim
  | some _ => cases u with
    | none => exact (show False from r).elim
    | some _ => exact r

theorem KV.val {kvs : List (κ × V)} {vs : List (κ × Value)} (r : KV kvs vs) (k : κ) : RelO (valV kvs k) (valueAt vs k) := by
  unfold KV at r
  induction r with
  | nil => exact True.intro
  | @cons p q ps qs h t ih =>
    obtain ⟨h1, h2⟩ := h
    by_cases e : p.1 = k
    · have e' : q.1 = k := h1.symm.trans e
      have b : valueAt (q :: qs) k = some q.2 := by simp [valueAt, List.find?_cons, e']
      rw [valV_pos e, b]; exact h2
    · have e' : ¬ q.1 = k := fun z => e (h1.trans z)
      have b : valueAt (q :: qs) k = valueAt qs k := by simp [valueAt, List.find?_cons, e']
      rw [valV_neg e, b]; exact ih
theorem KV.any {kvs : List (κ × V)} {vs : List (κ × Value)} (r : KV kvs vs) (k : κ) : (kvs.any fun kv => decide (kv.1 = k)) = vs.any fun kv => decide (kv.1 = k) := by
  unfold KV at r
  induction r with
  | nil => rfl
  | cons h t ih => rw [List.any_cons, List.any_cons, ih, h.1]
theorem KV.repl {kvs : List (κ × V)} {vs : List (κ × Value)} (r : KV kvs vs) (k : κ) {y : V} {u : Value} (ry : RelV y u) :
    KV (kvs.map fun kv => if kv.1 = k then (kv.1, y) else kv) (vs.map fun kv => if kv.1 = k then (kv.1, u) else kv) := by
  unfold KV at r ⊢
  induction r with
  | nil => exact .nil
  | @cons p q ps qs h t ih =>
    rw [List.map_cons, List.map_cons]
    refine .cons ?_ ih
    obtain ⟨h1, h2⟩ := h
    by_cases e : p.1 = k
    · rw [if_pos e, if_pos (h1.symm.trans e)]; exact ⟨h1, ry⟩
    · rw [if_neg e, if_neg (fun z => e (h1.trans z))]; exact ⟨h1, h2⟩
theorem KV.put {kvs : List (κ × V)} {vs : List (κ × Value)} (r : KV kvs vs) (k : κ) {y : V} {u : Value} (ry : RelV y u) : KV (putK kvs k y) (stored vs k u) := by
  unfold putK stored
  rw [r.any k]
  by_cases e : (vs.any fun kv => decide (kv.1 = k)) = true
  · rw [if_pos e, if_pos e]; exact r.repl k ry
  · rw [if_neg e, if_neg e]; exact Paired.snoc r ⟨rfl, ry⟩
theorem KV.drop {kvs : List (κ × V)} {vs : List (κ × Value)} (r : KV kvs vs) (k : κ) : KV (dropK kvs k) (without vs k) := by
  unfold KV at r ⊢
  unfold dropK without
  induction r with
  | nil => exact .nil
  | @cons p q ps qs h t ih =>
    obtain ⟨h1, h2⟩ := h
    rw [List.filter_cons, List.filter_cons]
    by_cases e : p.1 = k
    · have a : ¬ decide (p.1 ≠ k) = true := by simp [e]
      have b : ¬ decide (q.1 ≠ k) = true := by simp [h1.symm.trans e]
      rw [if_neg a, if_neg b]; exact ih
    · have e' : ¬ q.1 = k := fun z => e (h1.trans z)
      have a : decide (p.1 ≠ k) = true := by simp [e]
      have b : decide (q.1 ≠ k) = true := by simp [e']
      rw [if_pos a, if_pos b]; exact .cons ⟨h1, h2⟩ ih
theorem KV.keys {kvs : List (κ × V)} {vs : List (κ × Value)} (r : KV kvs vs) : kvs.map (·.1) = vs.map (·.1) := by
  unfold KV at r
  induction r with
  | nil => rfl
  | cons h t ih => rw [List.map_cons, List.map_cons, ih, h.1]
theorem KV.length {kvs : List (κ × V)} {vs : List (κ × Value)} (r : KV kvs vs) : kvs.length = vs.length := Paired.length r
end


theorem kV_is {P : Program} {w : World} {k : Key} {u : Value} (r : RelV (kV k) u) : (mixKind P w).is k u = true := by
  cases k with
  | inl i => obtain ⟨t, e⟩ := (show ∃ t, u = Value.int i t from r); subst e; exact mixKind_int P w i t
  | inr x => obtain ⟨t, e⟩ := (show ∃ t, u = Value.str x t from r); subst e; exact mixKind_str P w x t
theorem items_are {P : Program} {w : World} : ∀ {ks : List Key} {us : List Value}, Vals (ks.map kV) us → ItemsAre (mixKind P w) ks us
  | [], _, r => by rw [List.map_nil] at r; cases r; exact .nil
  | k :: ks, _, r => by
    rw [List.map_cons] at r
    cases r with
    | cons h t => exact .cons (kV_is h) (items_are t)

abbrev KT (H : Hp) : List (List Key × V) → List (List Key × Addr × Value) → Prop := Paired fun p q => p.1 = q.1 ∧ H q.2.1 = some (.tup (p.1.map kV)) ∧ RelV p.2 q.2.2
theorem KT.val {H : Hp} {kvs : List (List Key × V)} {xs : List (List Key × Addr × Value)} (r : KT H kvs xs) (k : List Key) : RelO (valV kvs k) ((atKey xs k).map (·.2)) := by
  induction r with
  | nil => exact True.intro
  | @cons p q ps qs h t ih =>
    obtain ⟨h1, _, h2⟩ := h
    by_cases e : p.1 = k
    · have e' : q.1 = k := h1.symm.trans e
      have b : atKey (q :: qs) k = some q.2 := by simp [atKey, List.find?_cons, e']
      rw [valV_pos e, b]; exact h2
    · have e' : ¬ q.1 = k := fun z => e (h1.trans z)
      have b : atKey (q :: qs) k = atKey qs k := by simp [atKey, List.find?_cons, e']
      rw [valV_neg e, b]; exact ih
theorem KT.repl {H : Hp} {kvs : List (List Key × V)} {xs : List (List Key × Addr × Value)} (r : KT H kvs xs) (k : List Key) {y : V} {u : Value} (ry : RelV y u) :
    KT H (kvs.map fun kv => if kv.1 = k then (kv.1, y) else kv) (xs.map (putAt k u)) := by
  induction r with
  | nil => exact .nil
  | @cons p q ps qs h t ih =>
    rw [List.map_cons, List.map_cons]
    refine .cons ?_ ih
    obtain ⟨h1, h2, h3⟩ := h
    unfold putAt
    by_cases e : p.1 = k
    · rw [if_pos e, if_pos (h1.symm.trans e)]; exact ⟨h1, h2, ry⟩
    · rw [if_neg e, if_neg (fun z => e (h1.trans z))]; exact ⟨h1, h2, h3⟩
theorem KT.put {H : Hp} {kvs : List (List Key × V)} {xs : List (List Key × Addr × Value)} (r : KT H kvs xs) (k : List Key) {b : Addr} {y : V} {u : Value} (hb : H b = some (.tup (k.map kV))) (ry : RelV y u) :
    KT H (putK kvs k y) (storedH xs k b u) := by
  have e : (kvs.any fun kv => decide (kv.1 = k)) = (atKey xs k).isSome := by
    rw [valV_any, (r.val k).isSome_eq, Option.isSome_map]
  unfold putK storedH
  rw [e]
  by_cases q : (atKey xs k).isSome = true
  · rw [if_pos q, if_pos q]; exact r.repl k ry
  · rw [if_neg q, if_neg q]; exact Paired.snoc r ⟨rfl, hb, ry⟩
theorem KT.keeps {H H' : Hp} {kvs : List (List Key × V)} {xs : List (List Key × Addr × Value)} (r : KT H kvs xs) (ht : ∀ b ys, H b = some (.tup ys) → H' b = some (.tup ys)) : KT H' kvs xs :=
  Paired.mapP r fun _ _ z => ⟨z.1, ht _ _ z.2.1, z.2.2⟩

section
variable {P : Program} {w : World} {H : Hp} {h : Heap} {a : Addr}
theorem rd_of {u : HO} (ok : HOk P w H h) (e : Rd H a u) : ObjOk P w H h a u := e.ok ok
theorem dk_rd {kvs : List (Key × V)} (ok : HOk P w H h) (e : Rd H a (.dK kvs)) : kvs.length ≤ sizeLine ∧ (a == sysModules) = false ∧ ∃ vs, KV kvs vs ∧ h.DictOf (mixKind P w) a vs :=
  show ObjOk P w H h a (.dK kvs) from rd_of ok e
theorem dk_of {kvs : List (Key × V)} (ok : HOk P w H h) (e : H a = some (.dK kvs)) : kvs.length ≤ sizeLine ∧ (a == sysModules) = false ∧ ∃ vs, KV kvs vs ∧ h.DictOf (mixKind P w) a vs := dk_rd ok (.inl e)
theorem key_of {ks : List Key} (ok : HOk P w H h) (e : H a = some (.tup (ks.map kV))) : (tupleKind (mixKind P w)).is h ks a := by
  obtain ⟨_, its, r, o, h1, h2, n, h3⟩ := (show ObjOk P w H h a (.tup (ks.map kV)) from ok a _ e)
  exact ⟨o, its.toArray, n, h1, h2, h3, by simpa using items_are r⟩
theorem dt_rd {kvs : List (List Key × V)} (ok : HOk P w H h) (e : Rd H a (.dT kvs)) : kvs.length ≤ sizeLine ∧ (a == sysModules) = false ∧
    ∃ xs, KT H kvs xs ∧ h.DictOfH (tupleKind (mixKind P w)) a xs := by
  obtain ⟨z, y, xs, r, o, es, ep, h1, h2, h3, h4, h5⟩ := (show ObjOk P w H h a (.dT kvs) from rd_of ok e)
  refine ⟨z, y, xs, r, o, es, ep, h1, h2, h3, h4, fun x hx => ?_, h5⟩
  have all : ∀ {l : List (List Key × V)} {m : List (List Key × Addr × Value)}, KT H l m → ∀ x ∈ m, (tupleKind (mixKind P w)).is h x.1 x.2.1 := by
    intro l m q
    induction q with
    | nil => intro x hx; exact nomatch hx
    | @cons p q ps qs hq t ih =>
      intro x hx
      rcases List.mem_cons.mp hx with e | hx
      · subst e
        exact key_of ok (by rw [← hq.1]; exact hq.2.1)
      · exact ih x hx
  exact all r x hx
theorem dt_of {kvs : List (List Key × V)} (ok : HOk P w H h) (e : H a = some (.dT kvs)) : kvs.length ≤ sizeLine ∧ (a == sysModules) = false ∧
    ∃ xs, KT H kvs xs ∧ h.DictOfH (tupleKind (mixKind P w)) a xs := dt_rd ok (.inl e)
end

def DGet (H : Hp) (a : Addr) (y : V) (r : Option V) : Prop :=
  (∃ kvs k, Rd H a (.dK kvs) ∧ y = kV k ∧ r = valV kvs k) ∨ ∃ kvs k b, Rd H a (.dT kvs) ∧ y = .ref b ∧ H b = some (.tup (k.map kV)) ∧ r = valV kvs k
def DPut (H : Hp) (a : Addr) (y v : V) (H' : Hp) : Prop :=
  (∃ kvs k, H a = some (.dK kvs) ∧ y = kV k ∧ kvs.length < sizeLine ∧ H' = upd H a (.dK (putK kvs k v))) ∨
  ∃ kvs k b, H a = some (.dT kvs) ∧ y = .ref b ∧ H b = some (.tup (k.map kV)) ∧ kvs.length < sizeLine ∧ H' = upd H a (.dT (putK kvs k v))
theorem DGet.k {H : Hp} {a : Addr} {kvs : List (Key × V)} {k : Key} (e : H a = some (.dK kvs)) : DGet H a (kV k) (valV kvs k) := .inl ⟨kvs, k, .inl e, rfl, rfl⟩
theorem DGet.t {H : Hp} {a b : Addr} {kvs : List (List Key × V)} {k : List Key} (e : H a = some (.dT kvs)) (eb : H b = some (.tup (k.map kV))) : DGet H a (.ref b) (valV kvs k) := .inr ⟨kvs, k, b, .inl e, rfl, eb, rfl⟩
theorem DPut.k {H : Hp} {a : Addr} {kvs : List (Key × V)} {k : Key} {v : V} (e : H a = some (.dK kvs)) (hl : kvs.length < sizeLine) : DPut H a (kV k) v (upd H a (.dK (putK kvs k v))) := .inl ⟨kvs, k, e, rfl, hl, rfl⟩
theorem DPut.t {H : Hp} {a b : Addr} {kvs : List (List Key × V)} {k : List Key} {v : V} (e : H a = some (.dT kvs)) (eb : H b = some (.tup (k.map kV))) (hl : kvs.length < sizeLine) :
    DPut H a (.ref b) v (upd H a (.dT (putK kvs k v))) := .inr ⟨kvs, k, b, e, rfl, eb, hl, rfl⟩


section
variable {X : Cx} {pins : List (Addr × Obj)} {σ : St} {H : Hp} {s : Shared} {a : Addr} {y v : V} {u r : Value} {o : Option V} {A : Around} {E : Value → Shared → Prop}

theorem Inv.big (I : Inv X pins σ H s) : sysModules < s.heap.objs.size := by
  have h : mainGlobals < s.heap.objs.size := (I.mod.glob.keeps I.bk).lt
  exact Nat.lt_trans (by decide) h

theorem d_getItem {Q : Value → Shared → Prop} (hu : A.units + 1 < cLine) (I : Inv X pins σ H s) (g : DGet H a y (some v)) (ry : RelV y u) (h : ∀ w' s', Inv X pins σ H s' → RelV v w' → Q w' s') :
    wpAny (model X.prog X.w) A (getItem (.ref a) u) Q E s := by
  rcases g with ⟨kvs, k, e, ey, l⟩ | ⟨kvs, k, b, e, ey, eb, l⟩
  · subst ey
    obtain ⟨z, hd, vs, rel, dd⟩ := dk_rd I.hok e
    obtain ⟨w', hw, rw'⟩ := RelO.some_of (v := v) (o := valueAt vs k) (by rw [l]; exact rel.val k)
    exact wpAny_getItem_of (kV_is ry) dd.mapOf hw (h w' _ (I.tok _) rw')
  · subst ey
    cases (show u = Value.ref b from ry)
    obtain ⟨z, hd, xs, rel, dd⟩ := dt_rd I.hok e
    obtain ⟨w', hw, rw'⟩ := RelO.some_of (v := v) (o := (atKey xs k).map (·.2)) (by rw [l]; exact rel.val k)
    obtain ⟨p, hp, hp2⟩ := Option.map_eq_some_iff.mp hw
    refine wpAny_getItem_heap (tupleKind_room_in1 hu) (key_of I.hok eb) dd hp ?_
    rw [hp2]
    exact h w' _ (I.tok _) rw'
theorem d_write {h' : Heap} {t' : Nat} {ob : HO} (I : Inv X pins σ H s) (mu : Mut (H a)) (hs : Heap.SameBut a s.heap h') (he : ∃ q, h'.get? a = some q) (new : ObjOk X.prog X.w (upd H a ob) h' a ob) :
    Inv X pins σ (upd H a ob) { s with heap := h', toks := t' } :=
  I.write (x := a) (e := a) mu (.inl rfl) (fun b q hb z => (hs.2 b hb).trans z) he new
theorem dk_new {P : Program} {w : World} {H' : Hp} {h' : Heap} {kvs : List (Key × V)} {vs : List (Key × Value)} (z : kvs.length ≤ sizeLine) (hd : (a == sysModules) = false) (rel : KV kvs vs) (dd : h'.DictOf (mixKind P w) a vs) :
    ObjOk P w H' h' a (.dK kvs) := ⟨z, hd, vs, rel, dd⟩
theorem d_setItem {H' : Hp} {Q : Unit → Shared → Prop} (hu : A.units + 1 < cLine) (I : Inv X pins σ H s) (g : DPut H a y v H') (ry : RelV y u) (rv : RelV v r) (h : ∀ s', Inv X pins σ H' s' → Q () s') :
    wpAny (model X.prog X.w) A (setItem (.ref a) u r) Q E s := by
  rcases g with ⟨kvs, k, e, ey, l, eH⟩ | ⟨kvs, k, b, e, ey, eb, l, eH⟩
  · subst ey eH
    obtain ⟨z, hd, vs, rel, dd⟩ := dk_of I.hok e
    have hz : vs.length ≤ sizeLine := by rw [← rel.length]; exact z
    have hl : (putK kvs k v).length ≤ sizeLine := by have := length_putK kvs k v; omega
    refine wpAny_setItem_pairs (hsz := hz) (kV_is ry) dd fun h' dd' hs => h _ ?_
    have he : ∃ q, h'.get? a = some q := let ⟨q, _, _, hq, _⟩ := dd'; ⟨q, hq⟩
    exact d_write I (by rw [e]; exact True.intro) hs he (dk_new hl hd (rel.put k rv) dd')
  · subst ey eH
    cases (show u = Value.ref b from ry)
    obtain ⟨z, hd, xs, rel, dd⟩ := dt_of I.hok e
    have hz : xs.length ≤ sizeLine := by rw [← Paired.length rel]; exact z
    have hl : (putK kvs k v).length ≤ sizeLine := by have := length_putK kvs k v; omega
    refine wpAny_setItem_heap (hsz := hz) (tupleKind_room_in1 hu) (key_of I.hok eb) dd fun h' dd' hs => h _ ?_
    obtain ⟨q, es, ep, hq, h2, h3, h4, _, h5⟩ := dd'
    refine d_write I (by rw [e]; exact True.intro) hs ⟨q, hq⟩ ⟨hl, hd, _, (rel.put k eb rv).keeps fun c ys ec => ?_, q, es, ep, hq, h2, h3, h4, h5⟩
    rw [upd_ne (ne_of ec e (fun z => nomatch z))]
    exact ec
end

section
variable {X : Cx} {pins : List (Addr × Obj)} {σ : St} {H : Hp} {s : Shared} {a : Addr} {kvs : List (Key × V)} {k : Key} {u : Value} {A : Around} {E : Value → Shared → Prop}
end


def NoSl (i : Expr) : Prop := ∀ ov iv, subscripted i false ov iv = operate [ov, iv] (getItem ov iv)
theorem subD_of {prog : Program} {w : World} {A : Around} {E : Value → Shared → Prop} {s : Shared} {env : Env} {value slice : Expr} {pos : Pos} {T id : String} {Q : Value → Shared → Prop}
    (hl : typeLookup (.type T) "__getitem__" = pure (some (.builtin id))) (hs : NoSl slice)
    (h : wpAny (model prog w) A (eval value env) (fun o s₁ => wpAny (model prog w) A (eval slice env) (fun i s₂ => s₂.TypeIs o T ∧ wpAny (model prog w) A (getItem o i) Q E s₂) E s₁) E s) :
    wpAny (model prog w) A (eval (.Subscript value slice pos) env) Q E s := by
  refine Subscript_ (wpAny_mono h (fun o s₁ h₁ => wpAny_mono h₁ (fun i s₂ h₂ => ?_) fun _ _ x => x) fun _ _ x => x)
  obtain ⟨hT, h₂⟩ := h₂
  unfold subscriptTail
  refine wpAny_bind ?_
  rw [getitemInPython_of_ne hT.not_modules]
  refine wpAny_bind (wpAny_specialOf hT hl ?_)
  have fin : wpAny (model prog w) A (subscripted slice false o i) (fun r s₃ => wpAny (model prog w) A (letTemporaryGo value o r >>= fun _ => pure r) Q E s₃) E s₂ := by
    rw [hs o i]
    exact wpAny_operating (wpAny_mono h₂ (fun r s₃ h₃ => wpAny_bind (wpAny_letTemporaryGo (wpAny_pure h₃))) fun _ _ x => x)
  first
    | exact wpAny_pure (wpAny_bind fin)
    | exact wpAny_bind (wpAny_pure (wpAny_bind fin))
    | exact wpAny_bind fin

theorem dict_typeIs {X : Cx} {pins : List (Addr × Obj)} {σ : St} {H : Hp} {s : Shared} {a : Addr} {y : V} {o : Option V} (I : Inv X pins σ H s) (g : DGet H a y o) : s.TypeIs (.ref a) "dict" := by
  rcases g with ⟨kvs, k, e, _, _⟩ | ⟨kvs, k, b, e, _, _, _⟩
  · obtain ⟨_, _, vs, _, dd⟩ := dk_rd I.hok e
    exact dd.typeIs
  · obtain ⟨_, _, xs, _, dd⟩ := dt_rd I.hok e
    exact dd.typeIs
def tDGet (td ty : TE) : TE := fun σ H Q => td σ H fun x H1 => ty σ H1 fun y H2 => ∃ a v, x = .ref a ∧ DGet H2 a y (some v) ∧ Q v H2
def sDPut (td ty tv : TE) : TS := fun D σ H => tv σ H fun v H1 => td σ H1 fun x H2 => ty σ H2 fun y H3 => ∃ a H4, x = .ref a ∧ DPut H3 a y v H4 ∧ D.nx σ H4
section
variable {X : Cx} {o i e value : Expr} {pos pos' tpos : Pos} {td ty tv : TE}
theorem pe_dget (hu : X.A.units + 1 < cLine) (ho : PE X o td) (hi : PE X i ty) (hs : NoSl i) : PE X (.Subscript o i pos) (tDGet td ty) := by
  intro pins s σ H Q I h
  refine subD_of PySem.F.slot_dict_getitem.lookup hs (thn (ho pins s σ H _ I h) fun u s1 ⟨x, H1, I1, rx, q1⟩ => thn (hi pins s1 σ H1 _ I1 q1) fun iv s2 ⟨y, H2, I2, ry, a, v, ex, g, q2⟩ => ?_)
  subst ex
  obtain rfl : u = Value.ref a := rx
  exact ⟨dict_typeIs I2 g, d_getItem hu I2 g ry fun w' s3 I3 rw' => ⟨v, H2, I3, rw', q2⟩⟩
theorem ps_dput (hu : X.A.units + 1 < cLine) (ho : PE X o td) (hi : PE X i ty) (hv : PE X value tv) (hs : swapsWith value (some (.Subscript o i pos')) pos.line X.env = pure false) :
    PS X (.Assign [.Subscript o i pos'] value pos) (sDPut td ty tv) := by
  intro pins s σ H D I h
  refine wpAny_Assign_Subscript (thn (hv pins s σ H _ I h) fun r s1 ⟨v, H1, I1, rv, q1⟩ => thn (ho pins s1 σ H1 _ I1 q1) fun u s2 ⟨x, H2, I2, rx, q2⟩ => thn (hi pins s2 σ H2 _ I2 q2) fun iv s3 ⟨y, H3, I3, ry, a, H4, ex, g, q3⟩ => ?_) hs
  subst ex
  obtain rfl : u = Value.ref a := rx
  exact d_setItem hu I3 g ry rv fun s4 I4 => ⟨σ, H4, I4, q3⟩
end


theorem dk_empty {P : Program} {w : World} {H : Hp} (h : Heap) (hb : sysModules < h.objs.size) : ObjOk P w H (h.push { cls := .type "dict", data := .dict #[] }) h.objs.size (.dK []) :=
  ⟨Nat.zero_le _, beq_eq_false_iff_ne.mpr (Ne.symm (Nat.ne_of_lt hb)), [], .nil, Heap.DictOf.new h⟩
def tDNewK : TE := fun _ H Q => ∀ p, H p = none → Q (.ref p) (upd H p (.dK []))
section
variable {X : Cx} {pos : Pos}
theorem pe_dnewK : PE X (.Dict [] [] pos) tDNewK := fun pins s σ H Q I h =>
  wpAny_Dict_empty ⟨.ref s.heap.objs.size, _, I.laid (a := s.heap.objs.size) (o := .dK []) (t' := s.toks) (fun _ _ q => Heap.get?_push_of_some _ q) (Nat.le_refl _) (dk_empty s.heap I.big), rfl, h _ (I.hok.fresh (Nat.le_refl _))⟩
end

structure M1 (X : Cx) (o : Expr) (m : Str) (apos : Pos) (e : Expr) (cpos : Pos) : Prop where
  base : attributeBase o m X.env (eval o X.env) = eval o X.env
  few : ((backTo cpos (starEach [e] X.env)).all (fun x => !x.1) && (backToKw cpos (keywordEach [] X.env)).all (fun x => x.1.isSome)
    && decide (([e] : List Expr).length + ([] : List Keyword).length + (if ([] : List Keyword).isEmpty then 0 else 1) < 30)) = true
  line : (apos.endLine == cpos.line) = true
  trees : backTo cpos (starEach [e] X.env) = [(false, eval e X.env)]
def IsD (H : Hp) (a : Addr) : Prop := (∃ kvs, Rd H a (.dK kvs)) ∨ ∃ kvs, Rd H a (.dT kvs)
theorem isD_at {X : Cx} {pins : List (Addr × Obj)} {σ : St} {H : Hp} {s : Shared} {a : Addr} (I : Inv X pins σ H s) (d : IsD H a) :
    s.TypeIs (.ref a) "dict" ∧ (∀ b, Value.ref a = .ref b → ∃ ob, s.heap.get? b = some ob ∧ ob.dict = none) ∧ (a == sysModules) = false := by
  rcases d with ⟨kvs, e⟩ | ⟨kvs, e⟩
  · obtain ⟨_, hd, vs, _, dd⟩ := dk_rd I.hok e
    refine ⟨dd.typeIs, fun b q => ?_, hd⟩
    cases q
    obtain ⟨ob, _, _, h1, h2, _⟩ := dd
    exact ⟨ob, h1, h2.2.1⟩
  · obtain ⟨_, hd, xs, _, dd⟩ := dt_rd I.hok e
    refine ⟨dd.typeIs, fun b q => ?_, hd⟩
    cases q
    obtain ⟨ob, _, _, h1, h2, _⟩ := dd
    exact ⟨ob, h1, h2.2.1⟩

section
variable {X : Cx} {pins : List (Addr × Obj)} {σ : St} {H : Hp} {s : Shared} {a : Addr} {y d : V} {u r : Value} {o : Option V} {A : Around} {E : Value → Shared → Prop}
theorem d_get1 {Q : Value → Shared → Prop} (hu : A.units + 1 < cLine) (I : Inv X pins σ H s) (g : DGet H a y o) (ry : RelV y u) (h : ∀ w' s', Inv X pins σ H s' → RelV (o.getD .non) w' → Q w' s') :
    wpAny (model X.prog X.w) A (call (.builtin "dict.get") [.ref a, u]) Q E s := by
  rcases g with ⟨kvs, k, e, ey, l⟩ | ⟨kvs, k, b, e, ey, eb, l⟩
  · subst ey
    obtain ⟨z, hd, vs, rel, dd⟩ := dk_rd I.hok e
    refine call_meetsIn PySem.F.slot_dict_get dd.typeIs PySem.F.entry_dict_get (PySem.F.args_dict_get_2 _ _) (meets_dict_get (mixKind X.prog X.w) a (kV_is ry) hd) ⟨_, dd.mapOf, h _ _ (I.tok _) ?_⟩
    rw [l]
    exact (rel.val k).getD rfl
  · subst ey
    cases (show u = Value.ref b from ry)
    obtain ⟨z, hd, xs, rel, dd⟩ := dt_rd I.hok e
    refine call_meetsIn PySem.F.slot_dict_get dd.typeIs PySem.F.entry_dict_get (PySem.F.args_dict_get_2 _ _) (meetsH_dict_get (tupleKind (mixKind X.prog X.w)) a b hd) ⟨tupleKind_room_in1 hu, k, xs, key_of I.hok eb, dd, h _ _ (I.tok _) ?_⟩
    rw [l]
    exact (rel.val k).getD rfl
end

def tDGet1 (td ty : TE) : TE := fun σ H Q => td σ H fun x H1 => ∃ a, x = .ref a ∧ IsD H1 a ∧ ty σ H1 fun y H2 => ∃ o, DGet H2 a y o ∧ Q (o.getD .non) H2
section
variable {X : Cx} {o e f : Expr} {apos cpos : Pos} {td ty tx : TE}
theorem pe_dget1 (hu : X.A.units + 1 < cLine) (ho : PE X o td) (he : PE X e ty) (m : M1 X o "get" apos e cpos) : PE X (.Call (.Attribute o "get" apos) [e] [] cpos) (tDGet1 td ty) := by
  intro pins s σ H Q I h
  refine wpAny_Call_method m.base m.few m.line PySem.F.plainAttrs_dict PySem.F.slot_dict_get PySem.F.type_dict_get (thn (ho pins s σ H _ I h) fun u s1 ⟨x, H1, I1, rx, a, ex, d, q1⟩ => ?_)
  subst ex
  obtain rfl : u = Value.ref a := rx
  obtain ⟨t1, t2, _⟩ := isD_at I1 d
  refine ⟨t1, t2, ?_⟩
  rw [m.trees]
  refine Calls.callWith_builtin rfl (Calls.evalArgs_plain (Calls.spliced_cons (thn (he pins s1 σ H1 _ I1 q1) fun iv s2 ⟨y, H2, I2, ry, ov, g, q2⟩ => Calls.spliced_nil ?_)))
  exact d_get1 hu I2 g ry fun w' s3 I3 rw' => ⟨_, H2, I3, rw', q2⟩
end

section
variable {X : Cx} {pins : List (Addr × Obj)} {σ : St} {H : Hp} {s : Shared} {a : Addr} {kvs : List (Key × V)} {A : Around} {E : Value → Shared → Prop}
end


section
variable {X : Cx} {pins : List (Addr × Obj)} {σ : St} {H : Hp} {s : Shared} {a : Addr} {y : V} {u : Value} {A : Around} {E : Value → Shared → Prop}
end
end L2

namespace L2
open PySem PySem.Spec PyProof.Rows

section
variable {prog : Program} {w : World} {A : Around} {E : Value → Shared → Prop}
end

section
variable {X : Cx}
end
end L2

namespace L2
open PySem PySem.Spec PyProof.Rows

section
variable {X : Cx} {pins : List (Addr × Obj)} {σ : St} {H : Hp} {s : Shared} {h' : Heap}
theorem Inv.turnedNew {t' : Nat} {ch : List Addr} {T : Addr} {ob : HO} (I : Inv X pins σ H s) (k : ∀ b o, b ∉ ch → s.heap.get? b = some o → h'.get? b = some o) (hf : ∀ b ∈ ch, FpOk X pins H b) (hT : s.heap.objs.size ≤ T)
    (new : ObjOk X.prog X.w (upd H T ob) h' T ob) : Inv X pins σ (upd H T ob) { s with heap := h', toks := t' } := by
  have hn : H T = none := I.hok.fresh hT
  have nit : ∀ b u, H b = some u → b ∉ ch := fun b u e z => by
    have q := (hf b z).1
    rw [q] at e; cases e
  refine I.step (g' := s.gens) (d' := s.drawn) (ch := ch) (fun b hb => ⟨(hf b hb).2.2.2.1, (hf b hb).2.1, (hf b hb).2.2.2.2.1, (hf b hb).2.2.2.2.2⟩) (fun b o _ _ hc e _ => k b o hc e) (fun b o _ _ hc e _ => ⟨o.slots, k b o hc e⟩)
    (fun b o _ e n => ?_) (fun b o hc e => ⟨o, k b o hc e⟩) (fun b xs e => ?_) (fun b o u e => ?_) (fun b ps e => ⟨#[], ?_⟩) (fun m hm => ?_) (fun b u e => ?_) I.bare
  · rw [upd_ne (Nat.ne_of_lt (Nat.lt_of_lt_of_le (Heap.lt_size e) hT))]; exact n
  · rw [upd_ne (ne_of_none e hn)]; exact e
  · rw [upd_ne (ne_of_none e hn)]; exact e
  · rw [upd_ne (ne_of_none e hn), e]; simp
  · obtain ⟨o, es, ep, ho, r⟩ := hm
    exact ⟨o, es, ep, k _ o (fun z => (hf _ z).2.1 rfl) ho, r⟩
  · by_cases hb : b = T
    · subst hb
      rw [upd_same] at e
      cases e
      exact new
    · rw [upd_ne hb] at e
      refine (I.hok b u e).stay (fun c v hc q => k c v ?_ q) (fun c q => by rw [upd_ne (ne_of_none q hn)]; exact q) fun c xs q => by rw [upd_ne (ne_of_none q hn)]; exact q
      rcases hc with z | z
      · rw [z]; exact nit b u e
      · exact nit c _ z

theorem Inv.lock {d : Addr} {u : HO} (I : Inv X pins σ H s) (h : H d = some u) (mu : Mut (some u)) : ∃ od, Inv X pins σ (upd H d (.frz od u)) s := by
  have x := I.hok d u h
  have ex : ∃ od, s.heap.get? d = some od := by
    cases u with
    | lst xs => obtain ⟨_, _, _, _, e⟩ := x; exact ⟨_, e⟩
    | dK kvs => obtain ⟨_, _, _, _, o, _, _, e, _⟩ := x; exact ⟨o, e⟩
    | dT kvs => obtain ⟨_, _, _, _, o, _, _, e, _⟩ := x; exact ⟨o, e⟩
    | set S n => obtain ⟨o, _, _, _, e, _⟩ := x; exact ⟨o, e⟩
    | ins C dx fs => obtain ⟨_, _, _, e, _⟩ := x; exact ⟨_, e⟩
    | ext φ => obtain ⟨_, ⟨_, e⟩, _⟩ := x; exact ⟨_, e⟩
    | _ => exact False.elim mu
  obtain ⟨od, e⟩ := ex
  have new : ObjOk X.prog X.w (upd H d (.frz od u)) s.heap d (.frz od u) := by
    refine ⟨e, x.stay (fun b v _ q => q) (fun b q => ?_) fun b xs q => ?_⟩
    · rw [upd_ne (fun z => by rw [z, h] at q; cases q; exact mu)]; exact q
    · rw [upd_ne (fun z => by rw [z, h] at q; cases q; exact mu)]; exact q
  exact ⟨od, I.write (x := d) (e := d) (t' := s.toks) (h' := s.heap) (by rw [h]; exact mu) (.inl rfl) (fun b v _ q => q) ⟨od, e⟩ new⟩
theorem Inv.nofrz {d : Addr} {u : HO} (I : Inv X pins σ H s) (h : H d = some u) (mu : Mut (some u)) : ∀ o' u', X.H_0 d ≠ some (.frz o' u') := fun o' u' e => by
  have q := I.base.frzs d o' u' e
  rw [h] at q
  cases q
  exact mu
theorem Inv.unlock {d : Addr} {od : Obj} {u : HO} (I : Inv X pins σ H s) (h : H d = some (.frz od u)) (hn : ∀ o' u', X.H_0 d ≠ some (.frz o' u')) : Inv X pins σ (upd H d u) s := by
  have neH : ∀ b o, H b = some o → (∀ o' u', o ≠ .frz o' u') → b ≠ d := fun b o e hne z => by
    rw [z, h] at e
    cases e
    exact hne _ _ rfl
  have neN : ∀ b, H b = none → b ≠ d := fun b e z => by rw [z, h] at e; cases e
  refine ⟨I.ok, I.os, I.bare, ⟨I.base.keep, I.base.slot, fun b o e n hx => ?_, I.base.there, fun b xs e => ?_, fun b o x e => ?_, fun b ps e => ?_⟩, I.loc, I.cell, ?_, fun x c e => ?_, fun p hp => ?_, fun b o e => ?_, I.len⟩
  · rw [upd_ne (neN b (I.base.free b o e n hx))]; exact I.base.free b o e n hx
  · have q := I.base.tups b xs e
    rw [upd_ne (neH b _ q (fun _ _ z => nomatch z))]; exact q
  · have q := I.base.frzs b o x e
    rw [upd_ne (fun z => by rw [z] at e; exact hn _ _ e)]; exact q
  · obtain ⟨m, q⟩ := I.base.tbls b ps e
    exact ⟨m, by rw [upd_ne (neH b _ q (fun _ _ z => nomatch z))]; exact q⟩
  · rw [upd_ne (neN _ I.free)]; exact I.free
  · rw [upd_ne (neN c (I.freeC x c e))]; exact I.freeC x c e
  · obtain ⟨e, n, r⟩ := I.pin p hp
    exact ⟨e, by rw [upd_ne (neN _ n)]; exact n, r⟩
  · by_cases hb : b = d
    · rw [hb, upd_same] at e
      cases e
      rw [hb]
      obtain ⟨_, x⟩ := I.hok d _ h
      exact x.stay (fun c v _ q => q) (fun c q => by rw [upd_ne (neH c _ q (fun _ _ z => nomatch z))]; exact q) fun c xs q => by rw [upd_ne (neH c _ q (fun _ _ z => nomatch z))]; exact q
    · rw [upd_ne hb] at e
      exact (I.hok b o e).stay (fun c v _ q => q) (fun c q => by rw [upd_ne (neH c _ q (fun _ _ z => nomatch z))]; exact q) fun c xs q => by rw [upd_ne (neH c _ q (fun _ _ z => nomatch z))]; exact q
end
def tLock (t : TS) : TS := fun D σ H => ∃ d u, H d = some u ∧ Mut (some u) ∧ ∀ od, t ⟨fun σ' H' => H' d = some (.frz od u) ∧ D.nx σ' (upd H' d u), fun v H' => H' d = some (.frz od u) ∧ D.rt v (upd H' d u), fun σ' H' => H' d = some (.frz od u) ∧ D.bk σ' (upd H' d u), fun σ' H' => H' d = some (.frz od u) ∧ D.ct σ' (upd H' d u)⟩ σ (upd H d (.frz od u))
def tLockE (t : TE) : TE := fun σ H Q => ∃ d u, H d = some u ∧ Mut (some u) ∧ ∀ od, t σ (upd H d (.frz od u)) fun v H' => H' d = some (.frz od u) ∧ Q v (upd H' d u)
section
variable {X : Cx}
theorem ps_lock {st : Stmt} {t : TS} (h : PS X st t) : PS X st (tLock t) := by
  intro pins s σ H D I hw
  obtain ⟨d, u, hd, mu, hw⟩ := hw
  obtain ⟨od, I1⟩ := I.lock hd mu
  refine thn (h pins s σ _ _ I1 (hw od)) fun f s1 q => ?_
  cases f with
  | next => obtain ⟨σ', H', I2, e, q⟩ := q; exact ⟨σ', _, I2.unlock e (I.nofrz hd mu), q⟩
  | brk => obtain ⟨σ', H', I2, e, q⟩ := q; exact ⟨σ', _, I2.unlock e (I.nofrz hd mu), q⟩
  | cont => obtain ⟨σ', H', I2, e, q⟩ := q; exact ⟨σ', _, I2.unlock e (I.nofrz hd mu), q⟩
  | ret v => obtain ⟨x, σ', H', I2, r, e, q⟩ := q; exact ⟨x, σ', _, I2.unlock e (I.nofrz hd mu), r, q⟩
theorem pe_lock {e : Expr} {t : TE} (h : PE X e t) : PE X e (tLockE t) := by
  intro pins s σ H Q I hw
  obtain ⟨d, u, hd, mu, hw⟩ := hw
  obtain ⟨od, I1⟩ := I.lock hd mu
  refine thn (h pins s σ _ _ I1 (hw od)) fun v s1 ⟨x, H1, I2, r, e2, q⟩ => ?_
  exact ⟨x, _, I2.unlock e2 (I.nofrz hd mu), r, q⟩

theorem pi_one {tg : Expr} {pins : List (Addr × Obj)} {σ : St} {H : Hp} {s : Shared} {R : It → Hp → Prop} {J : It} {tn : Nat → Heap → Prop} {tk : Nat} (I : Inv X pins σ H s) (o : Obj)
    (T : Turn X.prog X.w X.K tg J [s.heap.objs.size] s.heap.objs.size tn) (st : tn 0 (s.heap.push o)) (q : R J H) : PIE X pins σ tg R (.ref s.heap.objs.size) { s with heap := s.heap.push o, toks := tk } := by
  refine ⟨s.heap.objs.size, [s.heap.objs.size], tn, J, H, rfl, I.kept fun b ob e => Heap.get?_push_of_some _ e, T, st, fun b hb => ?_, q⟩
  have e : b = s.heap.objs.size := by simpa using hb
  subst e
  exact I.fpOk (Nat.le_refl _) (I.hok.fresh (Nat.le_refl _))
end

def RgC (i j c : Int) (n : Nat) : Prop := c ≠ 0 ∧ c.natAbs < 1073741824 ∧ Builtin.Range.small i j c = true ∧ Builtin.Range.rangeSize i j c = n
theorem RgC.neg {i j : Int} (ha : -(2 ^ 62) ≤ i) (ha' : i < 2 ^ 62) (hb : -(2 ^ 62) ≤ j) (hb' : j < 2 ^ 62) : RgC i j (-1) (i - j).toNat :=
  ⟨by decide, by decide, PySem.W.small_down ha ha' hb hb', PySem.W.rangeSize_downNat i j⟩
section
variable {X : Cx} {tg : Expr}
end
section
variable {X : Cx} {tg : Expr}
end

section
variable {prog : Program} {w : World} {A : Around} {E : Value → Shared → Prop} {s : Shared}
theorem iter_keys {d : Addr} {o : Obj} {es : Array DictEntry} {ep : Nat} {Q : Value → Shared → Prop} (hd : (d == sysModules) = false) (ho : s.heap.get? d = some o) (hc : o.ExactDict) (hdat : o.data = .dict es ep)
    (hQ : Q (.ref s.heap.objs.size) { s with heap := s.heap.push { cls := .type "dict_keyiterator", data := .fields #[.ref d, .int 0 0, .int es.size 0, .int ep 0] } }) :
    wpAny (model prog w) A (pyIter (.ref d)) Q E s := by
  have hT : s.TypeIs (.ref d) "dict" := ⟨o, ho, hc.1⟩
  refine wpAny_pyIter_slot hT F.slot_dict_iter (wpAny_call_entry F.slot_dict_iter hT F.entry_dict_iter ?_ (F.args_dict_iter_1 _))
  unfold Builtin.«dict.__iter__»
  refine wpAny_bind ?_
  unfold Builtin.Dict.dictSlotNone
  refine wpAny_bind (wpAny_notOrdered_dict hT ?_)
  show wpAny _ _ (pure (Value.ref d)) _ _ s
  refine wpAny_pure ?_
  show wpAny _ _ (Builtin.Dict.showsAll d >>= _) _ _ s
  unfold Builtin.Dict.showsAll
  rw [if_neg (by rw [hd]; exact Bool.false_ne_true)]
  refine wpAny_bind (wpAny_pure ?_)
  refine wpAny_bind (wpAny_dictEntries ho hdat ?_)
  refine wpAny_bind (wpAny_dictEpoch ho hdat ?_)
  refine wpAny_bind (wpAny_newObj_type (wpAny_pure ⟨_, rfl, "dict_keyiterator", _, ⟨_, Heap.get?_push_size _ rfl, rfl⟩, F.slot_dict_keyiterator_next.lookup, ?_⟩))
  simpa [rawInt] using hQ
theorem next_key_item {it d : Addr} {i n ep : Nat} {od : Obj} {es : Array DictEntry} {en : DictEntry} {Q : Option Value → Shared → Prop} (hit : s.heap.IsKeyIter it d i n ep) (hod : s.heap.get? d = some od) (hdd : od.data = .dict es ep)
    (hsz : es.size = n) (hx : es[i]? = some en) (hQ : ∀ h', h'.IsKeyIter it d (i + 1) n ep → Heap.SameBut it s.heap h' → Q (some en.key) { s with heap := h' }) : wpAny (model prog w) A (pyNext (.ref it)) Q E s := by
  obtain ⟨o, ho, hc, hd⟩ := id hit
  unfold pyNext
  refine wpAny_bind (wpAny_attempt (wpAny_callSpecial?_slot (name := Str.ofString "__next__") hit.typeIs F.slot_dict_keyiterator_next
    (wpAny_call_entry F.slot_dict_keyiterator_next hit.typeIs F.entry_dict_keyiterator_next ?_ (F.args_dict_keyiterator_next_1 _))))
  refine wpAny_bind (wpAny_pure ?_)
  refine wpAny_bind ?_
  refine wpAny_bind ?_
  first | refine wpAny_bind (wpAny_typeNameOfWhole_keyiter hit.typeIs (wpAny_pure ?_)) | refine wpAny_bind (wpAny_typeNameOf_keyiter hit.typeIs (wpAny_pure ?_))
  refine wpAny_bind (wpAny_fieldsOf ho hd ?_)
  have hown : Builtin.Dict_items.ownsTuple "dict_keyiterator" = false := by decide
  simp only [hown, Bool.false_eq_true, if_false]
  show wpAny _ _ (if (Value.ref d == Value.none) = true then _ else _) _ _ s
  rw [if_neg (show ¬ ((Value.ref d == Value.none) = true) from Bool.false_ne_true)]
  refine wpAny_bind (wpAny_pure ?_)
  refine wpAny_bind (wpAny_dictEntries hod hdd ?_)
  rw [if_neg (by rw [hsz]; simp)]
  refine wpAny_bind (wpAny_pure ?_)
  refine wpAny_bind (wpAny_dictEpoch hod hdd ?_)
  rw [if_neg (by simp)]
  refine wpAny_pure ?_
  obtain ⟨hlt', hen⟩ := Array.getElem?_eq_some_iff.mp hx
  simp only [show ¬ ((i : Int) < 0) from by omega, if_false, Int.toNat_natCast, Array.getElem?_eq_getElem hlt']
  refine wpAny_bind ?_
  first | refine wpAny_bind (wpAny_typeNameOfWhole_keyiter hit.typeIs (wpAny_pure ?_)) | refine wpAny_bind (wpAny_typeNameOf_keyiter hit.typeIs (wpAny_pure ?_))
  refine wpAny_bind (wpAny_isOneOf_keyiter hit.typeIs ?_)
  show wpAny _ _ (setField (.ref it) 1 (rawInt ((i : Int) + 1)) >>= _) _ _ s
  refine wpAny_bind (wpAny_setField ho hd (by simp) ?_)
  have hit' : (s.heap.update it (Obj.mapFields (·.setIfInBounds 1 (rawInt ((i : Int) + 1))))).IsKeyIter it d (i + 1) n ep :=
    ⟨_, Heap.get?_update_self _ ho (Obj.isFreed_of_fields (Obj.data_mapFields hd _)), (Obj.cls_mapFields ..).trans hc, by rw [Obj.data_mapFields hd]; simp [rawInt]⟩
  refine wpAny_bind (wpAny_holding ?_)
  refine wpAny_bind (wpAny_isOneOf_keyiter (s := { s with heap := s.heap.update it (Obj.mapFields (·.setIfInBounds 1 (rawInt ((i : Int) + 1)))) }) hit'.typeIs ?_)
  show wpAny _ _ (pure es[i].key) _ _ _
  rw [hen]
  exact wpAny_pure (wpAny_pure ⟨_, rfl, wpAny_pure (hQ _ hit' (Heap.SameBut.update ..))⟩)
theorem next_key_end {it d : Addr} {i n ep : Nat} {od : Obj} {es : Array DictEntry} {Q : Option Value → Shared → Prop} (hh : A.handled = none) (hit : s.heap.IsKeyIter it d i n ep) (hod : s.heap.get? d = some od) (hdd : od.data = .dict es ep)
    (hsz : es.size = n) (hge : n ≤ i) (hQ : ∀ h', Heap.ExtBut it s.heap h' → Q none { s with heap := h' }) : wpAny (model prog w) A (pyNext (.ref it)) Q E s := by
  obtain ⟨o, ho, hc, hd⟩ := id hit
  unfold pyNext
  refine wpAny_bind (wpAny_attempt (wpAny_callSpecial?_slot (name := Str.ofString "__next__") hit.typeIs F.slot_dict_keyiterator_next
    (wpAny_call_entry F.slot_dict_keyiterator_next hit.typeIs F.entry_dict_keyiterator_next ?_ (F.args_dict_keyiterator_next_1 _))))
  refine wpAny_bind (wpAny_pure ?_)
  refine wpAny_bind ?_
  refine wpAny_bind ?_
  first | refine wpAny_bind (wpAny_typeNameOfWhole_keyiter hit.typeIs (wpAny_pure ?_)) | refine wpAny_bind (wpAny_typeNameOf_keyiter hit.typeIs (wpAny_pure ?_))
  refine wpAny_bind (wpAny_fieldsOf ho hd ?_)
  have hown : Builtin.Dict_items.ownsTuple "dict_keyiterator" = false := by decide
  simp only [hown, Bool.false_eq_true, if_false]
  show wpAny _ _ (if (Value.ref d == Value.none) = true then _ else _) _ _ s
  rw [if_neg (show ¬ ((Value.ref d == Value.none) = true) from Bool.false_ne_true)]
  refine wpAny_bind (wpAny_pure ?_)
  refine wpAny_bind (wpAny_dictEntries hod hdd ?_)
  rw [if_neg (by rw [hsz]; simp)]
  refine wpAny_bind (wpAny_pure ?_)
  refine wpAny_bind (wpAny_dictEpoch hod hdd ?_)
  rw [if_neg (by simp)]
  refine wpAny_pure ?_
  have hge' : es.size ≤ i := by rw [hsz]; exact hge
  simp only [show ¬ ((i : Int) < 0) from by omega, if_false, Int.toNat_natCast, Array.getElem?_eq_none hge']
  refine wpAny_bind ?_
  first | refine wpAny_bind (wpAny_typeNameOfWhole_keyiter hit.typeIs (wpAny_pure ?_)) | refine wpAny_bind (wpAny_typeNameOf_keyiter hit.typeIs (wpAny_pure ?_))
  show wpAny _ _ (setField (.ref it) 0 .none >>= _) _ _ s
  refine wpAny_bind (wpAny_setField ho hd (by simp) ?_)
  show wpAny _ _ (newExc (.type "StopIteration") [] >>= _) _ _ _
  refine wpAny_bind ?_
  simp only [newExc, newTuple]
  refine wpAny_bind (wpAny_newObj_type ?_ (by size_fits))
  refine wpAny_bind (m := firstArgMember _ _) (wpAny_of_eq (a := Value.none) (by first | rfl | (simp only [firstArgMember]; rfl)) ?_)
  refine wpAny_newObj_type ?_ (by size_fits)
  simp only [raiseNew]
  refine wpAny_bind (wpAny_handled ?_)
  rw [show A.in1.handled = none from hh]
  refine wpAny_bind (wpAny_pure (wpAny_throw ?_))
  refine wpAny_bind (wpAny_isInstance (T := "StopIteration") (b := true) ⟨_, Heap.get?_push_size _ rfl, rfl⟩ isSubtype_stop ?_)
  exact wpAny_pure (hQ _ (((Heap.SameBut.update ..).extBut.push _).push _))
end

theorem kv_get {κ : Type} {kvs : List (κ × V)} {vs : List (κ × Value)} (h : KV kvs vs) : ∀ {i : Nat} {k : κ} {v : V}, kvs[i]? = some (k, v) → ∃ u, vs[i]? = some (k, u) ∧ RelV v u := by
  unfold KV at h
  induction h with
  | nil => intro i k v e; simp at e
  | @cons a b l₁ l₂ r t ih =>
    intro i k v e
    cases i with
    | zero =>
      simp only [List.getElem?_cons_zero, Option.some.injEq] at e
      subst e
      refine ⟨b.2, ?_, r.2⟩
      simp only [List.getElem?_cons_zero]
      exact congrArg some (Prod.ext r.1.symm rfl)
    | succ j =>
      simp only [List.getElem?_cons_succ] at e ⊢
      exact ih e
theorem paired_get {α β : Type} {G : α → β → Prop} {l₁ : List α} {l₂ : List β} (h : Paired G l₁ l₂) : ∀ {i : Nat} {a : α}, l₁[i]? = some a → ∃ b, l₂[i]? = some b ∧ G a b := by
  induction h with
  | nil => intro i a e; simp at e
  | @cons a b l₁ l₂ r t ih =>
    intro i a' e
    cases i with
    | zero =>
      simp only [List.getElem?_cons_zero, Option.some.injEq] at e
      subst e
      exact ⟨b, rfl, r⟩
    | succ j =>
      simp only [List.getElem?_cons_succ] at e ⊢
      exact ih e
theorem relV_key {k : Key} {u : Value} (h : keyIs k u = true) : RelV (kV k) u := by
  rcases keyIs_shape h with ⟨i, t, rfl, rfl⟩ | ⟨x, t, rfl, rfl⟩
  · exact ⟨t, rfl⟩
  · exact ⟨t, rfl⟩
section
variable {X : Cx} {pins : List (Addr × Obj)} {σ : St} {H : Hp} {s : Shared} {d : Addr} {o : Obj}
theorem Inv.frzK {kvs : List (Key × V)} (I : Inv X pins σ H s) (h : H d = some (.frz o (.dK kvs))) :
    (d == sysModules) = false ∧ s.heap.get? d = some o ∧ o.ExactDict ∧ ∃ (es : Array DictEntry) (ep : Nat) (vs : List (Key × Value)), o.data = .dict es ep ∧ es.size = kvs.length ∧ KV kvs vs ∧ s.heap.DictAt (mixKind X.prog X.w) d vs ep := by
  obtain ⟨hd, z, hs, vs, kv, o', es, ep, ho, hx, hdt, r⟩ := I.hok d _ h
  rw [hd] at ho
  cases ho
  refine ⟨hs, hd, hx, es, ep, vs, hdt, ?_, kv, o, es, hd, hx, hdt, r⟩
  have l1 := r.2.1.length
  have l2 : kvs.length = vs.length := Paired.length kv
  rw [Array.length_toList] at l1
  omega
theorem Inv.frzT {kvs : List (List Key × V)} (I : Inv X pins σ H s) (h : H d = some (.frz o (.dT kvs))) :
    (d == sysModules) = false ∧ s.heap.get? d = some o ∧ o.ExactDict ∧ ∃ (es : Array DictEntry) (ep : Nat), o.data = .dict es ep ∧ es.size = kvs.length ∧
      ∀ (i : Nat) (k : List Key) (v : V), kvs[i]? = some (k, v) → ∃ (en : DictEntry) (q : Addr), es[i]? = some en ∧ en.key = .ref q ∧ H q = some (.tup (k.map kV)) := by
  obtain ⟨hd, z, hs, xs, pr, o', es, ep, ho, hx, hdt, he, _⟩ := I.hok d _ h
  rw [hd] at ho
  cases ho
  refine ⟨hs, hd, hx, es, ep, hdt, ?_, fun i k v e => ?_⟩
  · have l1 : es.size = xs.length := size_of_entries he
    have l2 : kvs.length = xs.length := Paired.length pr
    omega
  · obtain ⟨b, hb, e1, e2, _⟩ := paired_get pr e
    have q := entry_at he i
    rw [hb] at q
    exact ⟨_, b.2.1, q, rfl, e2⟩
end

def Itk (d : Addr) (o : Obj) (kvs : List (Key × V)) : It :=
  ⟨fun i H => H d = some (.frz o (.dK kvs)) ∧ i < kvs.length, fun i H x H' => H' = H ∧ ∃ k v, kvs[i]? = some (k, v) ∧ x = kV k, fun i H => H d = some (.frz o (.dK kvs)) ∧ kvs.length ≤ i⟩
def Itkt (d : Addr) (o : Obj) (kvs : List (List Key × V)) : It :=
  ⟨fun i H => H d = some (.frz o (.dT kvs)) ∧ i < kvs.length, fun i H x H' => H' = H ∧ ∃ (k : List Key) (v : V) (q : Addr), kvs[i]? = some (k, v) ∧ x = .ref q ∧ H q = some (.tup (k.map kV)), fun i H => H d = some (.frz o (.dT kvs)) ∧ kvs.length ≤ i⟩
theorem dict_ep {o : Obj} {es es' : Array DictEntry} {ep ep' : Nat} (h : o.data = .dict es ep) (h' : o.data = .dict es' ep') : es' = es ∧ ep' = ep := by
  rw [h] at h'
  cases h'
  exact ⟨rfl, rfl⟩
section
variable {P : Program} {w : World} {K : PySem.W.Frag} {tg : Expr} {d : Addr} {o : Obj} {es : Array DictEntry} {ep : Nat}
theorem turn_keys {kvs : List (Key × V)} (it : Addr) (hod : o.data = .dict es ep) : Turn P w K tg (Itk d o kvs) [it] it (fun i h => h.IsKeyIter it d i kvs.length ep) where
  mem := by simp
  obj := fun i h st b hb => by
    have e : b = it := by simpa using hb
    subst e
    obtain ⟨oi, e, c, dd⟩ := st
    exact ⟨oi, e, fun v z => by rw [dd] at z; cases z⟩
  keep := fun i h h' st k => st.at fun oi e => k it (by simp) oi e
  item := by
    intro X hP hw hK hc i pins s σ H E I hf st hg
    subst hP hw hK
    obtain ⟨hd, hi⟩ := hg
    obtain ⟨f0, f1, f2, f3, f4, f5⟩ := hf it (by simp)
    obtain ⟨hs, hgd, hx, es', ep', vs, hdt, hsz, kv, hm⟩ := I.frzK hd
    obtain ⟨rfl, rfl⟩ := dict_ep hod hdt
    obtain ⟨⟨k, v⟩, hkv⟩ : ∃ p, kvs[i]? = some p := ⟨kvs[i], List.getElem?_eq_getElem hi⟩
    obtain ⟨u, hu, ru⟩ := kv_get kv hkv
    have hl : kvs.length = vs.length := Paired.length kv
    rw [hl] at st
    refine wpAny_pyNext_dict_item st hm hu fun key h' hkey st' sb => ?_
    have I1 : Inv X pins σ H { s with heap := h' } := I.turned (t' := s.toks) (fun b ob hb e => (sb.2 b hb).trans e) f0 f1 f3 f4 f5
    obtain ⟨oi, e, c, dd⟩ := id st'
    refine ⟨key, rfl, go_of (s := { s with heap := h' }) e c dd (by decide) ⟨kV k, H, I1, relV_key (show keyIs k key = true from hkey), ⟨rfl, k, v, hkv, rfl⟩, ?_, fun b hb => (hf b hb).1⟩⟩
    show h'.IsKeyIter it d (i + 1) kvs.length _
    rw [hl]
    exact st'
  done := by
    intro X hP hw hK hc i pins s σ H E I hf st hg
    subst hP hw hK
    obtain ⟨hd, hi⟩ := hg
    obtain ⟨f0, f1, f2, f3, f4, f5⟩ := hf it (by simp)
    obtain ⟨hs, hgd, hx, es', ep', vs, hdt, hsz, kv, hm⟩ := I.frzK hd
    obtain ⟨rfl, rfl⟩ := dict_ep hod hdt
    exact next_key_end (I.ok.hd hc) st hgd hdt hsz hi fun h' eb => ⟨rfl, I.turned (t' := s.toks) (fun b ob hb e => eb b ob hb e) f0 f1 f3 f4 f5⟩
  self := fun A i s Q E st h => wpAny_pyIter_keyiter st h
theorem turn_keysT {kvs : List (List Key × V)} (it : Addr) (hod : o.data = .dict es ep) : Turn P w K tg (Itkt d o kvs) [it] it (fun i h => h.IsKeyIter it d i kvs.length ep) where
  mem := by simp
  obj := fun i h st b hb => by
    have e : b = it := by simpa using hb
    subst e
    obtain ⟨oi, e, c, dd⟩ := st
    exact ⟨oi, e, fun v z => by rw [dd] at z; cases z⟩
  keep := fun i h h' st k => st.at fun oi e => k it (by simp) oi e
  item := by
    intro X hP hw hK hc i pins s σ H E I hf st hg
    subst hP hw hK
    obtain ⟨hd, hi⟩ := hg
    obtain ⟨f0, f1, f2, f3, f4, f5⟩ := hf it (by simp)
    obtain ⟨hs, hgd, hx, es', ep', hdt, hsz, ent⟩ := I.frzT hd
    obtain ⟨rfl, rfl⟩ := dict_ep hod hdt
    obtain ⟨⟨k, v⟩, hkv⟩ : ∃ p, kvs[i]? = some p := ⟨kvs[i], List.getElem?_eq_getElem hi⟩
    obtain ⟨en, q, hen, hkey, hq⟩ := ent i k v hkv
    refine next_key_item st hgd hdt hsz hen fun h' st' sb => ?_
    have I1 : Inv X pins σ H { s with heap := h' } := I.turned (t' := s.toks) (fun b ob hb e => (sb.2 b hb).trans e) f0 f1 f3 f4 f5
    obtain ⟨oi, e, c, dd⟩ := id st'
    exact ⟨en.key, rfl, go_of (s := { s with heap := h' }) e c dd (by decide) ⟨.ref q, H, I1, hkey, ⟨rfl, k, v, q, hkv, rfl, hq⟩, st', fun b hb => (hf b hb).1⟩⟩
  done := by
    intro X hP hw hK hc i pins s σ H E I hf st hg
    subst hP hw hK
    obtain ⟨hd, hi⟩ := hg
    obtain ⟨f0, f1, f2, f3, f4, f5⟩ := hf it (by simp)
    obtain ⟨hs, hgd, hx, es', ep', hdt, hsz, ent⟩ := I.frzT hd
    obtain ⟨rfl, rfl⟩ := dict_ep hod hdt
    exact next_key_end (I.ok.hd hc) st hgd hdt hsz hi fun h' eb => ⟨rfl, I.turned (t' := s.toks) (fun b ob hb e => eb b ob hb e) f0 f1 f3 f4 f5⟩
  self := fun A i s Q E st h => by
    refine wpAny_pyIter_slot st.typeIs F.slot_dict_keyiterator_iter (wpAny_call_entry F.slot_dict_keyiterator_iter st.typeIs F.entry_dict_keyiterator_iter ?_ (F.args_dict_keyiterator_iter_1 _))
    show wpAny _ _ (ret (.ref it)) _ _ s
    exact wpAny_pure ⟨_, rfl, "dict_keyiterator", _, st.typeIs, F.slot_dict_keyiterator_next.lookup, h⟩
end

def iKeys (td : TE) : TI := fun σ H R => td σ H fun x H1 => ∃ d o, x = .ref d ∧ ((∃ kvs, H1 d = some (.frz o (.dK kvs)) ∧ R (Itk d o kvs) H1) ∨ ∃ kvs, H1 d = some (.frz o (.dT kvs)) ∧ R (Itkt d o kvs) H1)
section
variable {X : Cx} {tg e : Expr} {td : TE} {apos cpos : Pos}
theorem pi_keys (he : PE X e td) : PI X tg e (iKeys td) := by
  intro pins s σ H R I h
  refine thn (he pins s σ H _ I h) fun u s1 ⟨x, H1, I1, rx, d, o, ex, q⟩ => ?_
  subst ex
  obtain rfl : u = Value.ref d := rx
  rcases q with ⟨kvs, hd, q⟩ | ⟨kvs, hd, q⟩
  · obtain ⟨hs, hgd, hx, es, ep, vs, hdt, hsz, kv, hm⟩ := I1.frzK hd
    refine iter_keys hs hgd hx hdt (pi_one (tk := s1.toks) I1 _ (turn_keys _ hdt) ⟨_, Heap.get?_push_size _ rfl, rfl, ?_⟩ q)
    rw [hsz] <;> rfl
  · obtain ⟨hs, hgd, hx, es, ep, hdt, hsz, ent⟩ := I1.frzT hd
    refine iter_keys hs hgd hx hdt (pi_one (tk := s1.toks) I1 _ (turn_keysT _ hdt) ⟨_, Heap.get?_push_size _ rfl, rfl, ?_⟩ q)
    rw [hsz] <;> rfl
end

def Ite (K : PySem.W.Frag) (a : Addr) : It :=
  ⟨fun i H => ∃ (xs : List V) (x : V), SqL K H a xs ∧ xs[i]? = some x, fun i H v H' => ∃ T x, v = .ref T ∧ H T = none ∧ H' = upd H T (.tup [.int (i : Nat), x]) ∧ ∀ xs, SqL K H a xs → xs[i]? = some x, fun i H => ∃ xs : List V, SqL K H a xs ∧ xs.length ≤ i⟩
theorem turn_enum {P : Program} {w : World} {K : PySem.W.Frag} {elts : List Expr} {kk : Nat} {tpos : Pos} (a e it : Addr) :
    Turn P w K (.Tuple elts kk tpos) (Ite K a) [e, it] e (fun i h => (∃ old, IsEnum h e it ((i : Nat) : Int) old) ∧ h.IsListIter it a i ∧ e ≠ it) where
  mem := by simp
  obj := fun i h st b hb => by
    obtain ⟨⟨old, he⟩, ⟨o, ho, hc, hd⟩, _⟩ := st
    have e' : b = e ∨ b = it := by simpa using hb
    rcases e' with z | z
    · rw [z]; exact ⟨_, he, fun v q => nomatch q⟩
    · rw [z]; exact ⟨o, ho, fun v q => by rw [hd] at q; cases q⟩
  keep := fun i h h' st k => let ⟨⟨old, he⟩, hi, hne⟩ := st; ⟨⟨old, k e (by simp) _ he⟩, hi.at fun o q => k it (by simp) o q, hne⟩
  item := by
    intro X hP hw hK hc i pins s σ H E I hf st hg
    subst hP hw hK
    obtain ⟨⟨old, he⟩, hit, hne⟩ := st
    obtain ⟨xs, x, hq, hx⟩ := hg
    obtain ⟨its, rv, p, hz⟩ := I.list hq
    obtain ⟨u, hu, ru⟩ := rv.get hx
    have hel : e < s.heap.objs.size := Heap.lt_size he
    have hil : it < s.heap.objs.size := by obtain ⟨_, q, _⟩ := hit; exact Heap.lt_size q
    refine wpAny_pyNext_enum_item he hit p.isList (x := u) (by simpa using hu) hne fun h' ho hit' hT hsz hk => ?_
    refine ⟨_, rfl, wpAny_letOwnedTupleGo_enum (s := { s with heap := h', toks := s.toks + 1 }) ho fun h'' he' sb => ?_⟩
    have hT2 : h''.get? s.heap.objs.size = some { cls := .type "tuple", data := .seq #[.int i s.toks, u] } := (sb.2 _ (Nat.ne_of_gt hel)).trans hT
    have new : ObjOk X.prog X.w (upd H s.heap.objs.size (.tup [.int (i : Nat), x])) h'' s.heap.objs.size (.tup [.int (i : Nat), x]) :=
      ⟨by show 2 ≤ sizeLine; decide, [.int i s.toks, u], .cons ⟨_, rfl⟩ (.cons ru .nil), ⟨_, hT2, rfl, _, rfl⟩⟩
    have I1 : Inv X pins σ (upd H s.heap.objs.size (.tup [.int (i : Nat), x])) { s with heap := h'', toks := s.toks + 1 } :=
      I.turnedNew (ch := [e, it]) (fun b ob hb q => (sb.2 b (fun z => hb (by simp [z]))).trans (hk b ob (fun z => hb (by simp [z])) (fun z => hb (by simp [z])) q)) hf (Nat.le_refl _) new
    refine ⟨.ref s.heap.objs.size, _, I1, rfl, ⟨_, x, rfl, I.hok.fresh (Nat.le_refl _), rfl, fun ys hy => by rw [I.list_inj hy hq]; exact hx⟩, ⟨⟨u, ?_⟩, hit'.at fun o q => (sb.2 it (Ne.symm hne)).trans q, hne⟩, fun b hb => ?_⟩
    · have e1 : ((i + 1 : Nat) : Int) = (i : Int) + 1 := by omega
      rw [e1]; exact he'
    · have hb' : b < s.heap.objs.size := by
        have e' : b = e ∨ b = it := by simpa using hb
        rcases e' with z | z
        · rw [z]; exact hel
        · rw [z]; exact hil
      rw [upd_ne (Nat.ne_of_lt hb')]
      exact (hf b hb).1
  done := by
    intro X hP hw hK hc i pins s σ H E I hf st hg
    subst hP hw hK
    obtain ⟨⟨old, he⟩, hit, hne⟩ := st
    obtain ⟨xs, hq, hx⟩ := hg
    obtain ⟨its, rv, p, hz⟩ := I.list hq
    obtain ⟨f0, f1, f2, f3, f4, f5⟩ := hf it (by simp)
    have hl := rv.length
    exact wpAny_pyNext_enum_end (I.ok.hd hc) he hit p.isList (by simp; omega) fun h' eb => ⟨rfl, I.turned (t' := s.toks) (fun b o hb q => eb b o hb q) f0 f1 f3 f4 f5⟩
  self := fun A i s Q E st h => let ⟨⟨_, he⟩, _⟩ := st; wpAny_pyIter_enum he h
def iEnum (K : PySem.W.Frag) (ta : TA) : TI := fun σ H R => ta σ H fun vs H1 => ∃ a xs, vs = [.ref a] ∧ SqL K H1 a xs ∧ R (Ite K a) H1
theorem pi_enum {X : Cx} {e : Expr} {ta : TA} {p pos tpos : Pos} {elts : List Expr} {kk : Nat} (hg : Gl X "enumerate") (hm : X.mg "enumerate" = none) (ha : PA X [e] ta) (hs : starEach [e] X.env = [(false, eval e X.env)] := by rfl) :
    PI X (.Tuple elts kk tpos) (.Call (.Name "enumerate" p) [e] [] pos) (iEnum X.K ta) := by
  intro pins s σ H R I h
  refine Call_ (ld_blt I hg hm boot_enumerate (PyProof.Rows.callWith_type1 (thn (ha pos pins s σ H _ I h) fun us s1 ⟨vs, H1, I1, r1, q1⟩ => ?_) hs rfl))
  obtain ⟨a, xs, ex, hq, q⟩ := q1
  subst ex
  cases r1 with
  | cons r rr =>
    cases rr
    cases r
    obtain ⟨its, rv, p', hz⟩ := I1.list hq
    refine call_enumerate_list p'.isList fun h' he hit hsz hk => wpAny_pyIter_enum he ?_
    have I2 : Inv X pins σ H1 { s1 with heap := h' } := I1.kept (t' := s1.toks) hk
    refine ⟨s1.heap.objs.size + 1, [s1.heap.objs.size + 1, s1.heap.objs.size], _, _, H1, rfl, I2, turn_enum a (s1.heap.objs.size + 1) s1.heap.objs.size, ⟨⟨.none, he⟩, hit, Nat.succ_ne_self _⟩, fun b hb => ?_, q⟩
    have e' : b = s1.heap.objs.size + 1 ∨ b = s1.heap.objs.size := by simpa using hb
    have hle : s1.heap.objs.size ≤ b := by
      rcases e' with z | z
      · rw [z]; exact Nat.le_add_right _ _
      · rw [z]; exact Nat.le_refl _
    exact I1.fpOk hle (I1.hok.fresh hle)
end L2

section 
namespace Bits
open PySem PyProof.Rows

end Bits
end 

section 
namespace TL
open PySem PySem.Builtin PySem.Builtin.Str PySem.StrLaws

abbrev tl (x : Str) : List Nat := x.cps.toList
def pre (S l : List Nat) : Bool := l.take S.length == S
def par (S : List Nat) : List Nat → List Nat → Option (List Nat × List Nat)
  | _, [] => none
  | acc, c :: r => if pre S (c :: r) = true then some (acc, (c :: r).drop S.length) else par S (acc ++ [c]) r

end TL
end 

namespace L2
open PySem PySem.Spec PyProof.Rows

section
variable {X : Cx} {pins : List (Addr × Obj)} {σ : St} {H : Hp} {s : Shared} {Q : VK}
end

section
variable {X : Cx}

end

section
variable {X : Cx} {o e : Expr} {to te : TE}
end
end L2

namespace L2
open PySem PySem.Spec PyProof.Rows

section
variable {X : Cx}
end

end L2

namespace Att
open PySem PySem.W PySem.Calls PyProof.Rows

theorem ints_of_wellAll {P : Params} {h : Heap} : ∀ (ns : List Int) (vs : List Value), WellAll P h vs (ns.map WData.int) → IntsAre vs ns := by
  intro ns
  induction ns with
  | nil =>
    intro vs w
    rw [List.map_nil] at w
    cases w
    exact .nil
  | cons n ns ih =>
    intro vs w
    rw [List.map_cons] at w
    cases w with
    | cons a b =>
      cases a
      exact .cons _ _ (ih _ b)

theorem script_of {l : OpenLaw} {n : Nat} (hn : l.most = some n) {P : Params} {h : Heap} {args : List WData} {vals : List Value}
    (hpre : l.row.toRowW.claim.pre args = true) (hwl : WellAll P h vals args) :
    ∃ a vs ns, vals = [Value.ref a] ∧ args = [WData.list (ns.map WData.int)] ∧ h.get? a = some { cls := .type "list", data := .seq vs.toArray } ∧ IntsAre vs ns ∧ ns.length ≤ n := by
  have hsh : WShape.hasAll [] args [.list .int] = true := (pre_splitW hpre).1
  have hc : l.pre.holds [] { args := args } = true := (pre_splitW hpre).2
  obtain ⟨d, r, rfl, h1, h2⟩ := hasAllW_cons hsh
  obtain rfl := hasAllW_nil h2
  obtain ⟨xs, rfl, h3⟩ := hasW_list h1
  obtain ⟨ns, rfl⟩ := items_int h3
  have hlen : ns.length ≤ n := by
    unfold OpenLaw.pre at hc
    have h4 : (WTm.not (.lt (.lit (.int (n : Int))) (.len (.arg 0)))).holds [] { args := [.list (ns.map .int)] } = true := by
      have h4 := (holds_andW hc).1
      rw [hn] at h4
      exact h4
    have h5 := condW_of h4 (w_not (w_lt w_lit (w_len_list (w_arg rfl))))
    rw [List.length_map] at h5
    refine Nat.le_of_not_lt fun q => ?_
    have q' : (n : Int) < ((ns.length : Nat) : Int) := by omega
    first
      | (rw [decide_eq_true q'] at h5; exact absurd h5 (by decide))
      | (simp at h5; omega)
  cases hwl with
  | cons w1 w2 =>
    cases w2
    cases w1 with
    | list ho hall => exact ⟨_, _, ns, rfl, rfl, ho, ints_of_wellAll ns _ hall, hlen⟩

theorem post_true (l : OpenLaw) (args : List WData) : l.row.toRowW.claim.post args (.bool true) args = true :=
  postW_of (r := l.row.toRowW) (X := (true == true))
    (show WShape.has [] (.bool true) .bool = true by first | rfl | decide | simp [WShape.has, WShape.arms, WShape.armsAll])
    (show (WTm.eq .res (.lit (.bool true))).value [] { args := args, res := some (.bool true), after := args } = some (.bool (true == true)) from w_eq_bool (w_res rfl) w_lit) rfl

theorem attach_call {l : OpenLaw} {n : Nat} {q : Program} {loose : List Str} {XP : (Str → Option Value) → Heap → Prop} {YP : World → Heap → Prop} {d : DefRec}
    (hn : l.most = some n) (hdf : d.params.defaults = [])
    (call : ∀ (w : World) (s₀ s₁ : Shared) (mg mb : Str → Option Value) (fa : Addr) (o : Obj) (pm cd doc : Value) (a : Addr) (vs : List Value) (ns : List Int),
      Ground q loose [] XP w s₀ mg mb s₁.heap → YP w s₁.heap →
      s₁.heap.get? fa = some o → o.data = .func (docDef d.name d.params d.body d.scope pm cd doc) → s₁.heap.CodeRec cd d.name → mg d.name = some (.ref fa) →
      s₁.heap.get? a = some { cls := .type "list", data := .seq vs.toArray } → IntsAre vs ns → ns.length ≤ n → s₁.gens = #[] →
      codeAny (model l.prog w) callerA (.call (.ref fa) ⟨[.ref a], []⟩) (fun r s' => r = .ok (.ret (.bool true)) ∧ OldK s₁.heap s'.heap ∧ s'.os = s₁.os ∧ AllBare s'.gens) s₁) :
    WalkO q loose XP YP l.row.toRowW d [] (fun f vs => PySem.call f vs) := by
  intro w s₀ s₁ mg mb G Y fa o pm cd doc dV kV ho hd hcd hD hmg hg args vals as hpre hlay hrd hwl hlo
  obtain rfl : dV = .none := Dflts.none hD hdf
  obtain rfl : kV = .none := Dflts.noKw hD
  obtain ⟨a, vs, ns, rfl, rfl, hobj, hints, hlen⟩ := script_of hn hpre hwl
  refine enter_call (codeAny_mono (call w s₀ s₁ mg mb fa o pm cd doc a vs ns G Y ho (fd_plain hd) hcd hmg hobj hints hlen hg) fun r s' hq => ?_)
  obtain ⟨rfl, h2, h3, h4⟩ := hq
  exact ⟨.inl ⟨.bool true, .bool true, [], rfl, fun _ => rfl, .bool true, post_true l _, fun _ => ⟨List.Pairwise.nil, fun _ hm => (nomatch hm)⟩⟩, h2, h3, h4⟩

section
variable {prog : Program} {w : World} {A : Around} {E : Value → Shared → Prop} {s : Shared} {K : Frag}

end
end Att

namespace L2
open PySem PySem.Spec PyProof.Rows

theorem vals_ints : ∀ {vs : List Value} {ns : List Int}, IntsAre vs ns → Vals (ns.map V.int) vs
  | _, _, .nil => .nil
  | _, _, .cons n t h => .cons ⟨t, rfl⟩ (vals_ints h)

def Only (H : Hp) : Prop := ∀ b, H b = none ∨ ∃ o xs, H b = some (.frz o (.lst xs))

theorem law_call {P : Program} {w : World} {K : PySem.W.Frag} {mg mb : Str → Option Value} {CX : CXT} {k : Nat} {fa a : Addr} {fd : FuncData} {x : Str} {sp : Sp} {s₁ : Shared} {vs : List Value} {ns : List Int}
    (KX : K.In s₁.heap) (hns : s₁.heap.Ns mainGlobals mg) (hb : s₁.heap.Ns builtinsNs mb) (hbb : ∀ x : Str, x ≠ "__name__" → mb x = bootBuiltins x) (hlim : s₁.heap.NoLimit) (hg : s₁.gens = #[])
    (ha : s₁.heap.get? a = some { cls := .type "list", data := .seq vs.toArray }) (hi : IntsAre vs ns) (hl : ns.length ≤ sizeLine) (hr : Room k callerA)
    (F : ∀ base : Heap, K.In base → base.Ns mainGlobals mg → FnOk P w K mg base CX k fa fd [x] sp) (hbind : ∀ (s : Shared) (u : Value), BindsTo s fd ⟨[u], []⟩ [(x, u)])
    (hsp : ∀ H : Hp, Only H → SqL K H a (ns.map V.int) → sp [.ref a] H (fun v _ => v = .bl true) fun _ _ _ => False)
    (hCX : ∀ H e s', CX [] H s₁ (fun _ _ _ => False) e s' → False) :
    codeAny (model P w) callerA (.call (.ref fa) ⟨[.ref a], []⟩) (fun r s' => r = .ok (.ret (.bool true)) ∧ OldK s₁.heap s'.heap ∧ s'.os = s₁.os ∧ AllBare s'.gens) s₁ := by
  have rv := vals_ints hi
  have lenV := hi.length
  have core : ∀ H : Hp, Only H → SqL K H a (ns.map V.int) → HOk P w H s₁.heap → (∀ b, H b ≠ none → b = a) → (H a ≠ none → K.lookup a = none) →
      codeAny (model P w) callerA (.call (.ref fa) ⟨[.ref a], []⟩) (fun r s' => r = .ok (.ret (.bool true)) ∧ OldK s₁.heap s'.heap ∧ s'.os = s₁.os ∧ AllBare s'.gens) s₁ := by
    intro H hO hS hok hA hK
    have base_of : ∀ {b : Addr} {o : Obj}, s₁.heap.get? b = some o → H b = none → (hidT s₁.heap H).get? b = some o := fun e n => hidT_get e n
    have noA : ∀ {b : Addr} {o : Obj} {es : Array DictEntry} {ep : Nat}, s₁.heap.get? b = some o → o.data = .dict es ep → H b = none := fun {b o es ep} e d => by
      cases q : H b with
      | none => rfl
      | some u =>
        have e' : b = a := hA b (by rw [q]; simp)
        subst e'
        rw [ha] at e; cases e
        have d' : Data.seq vs.toArray _ = Data.dict es ep := d
        cases d'
    have nsK : ∀ {b : Addr} {m : Str → Option Value}, s₁.heap.Ns b m → (hidT s₁.heap H).Ns b m := fun {b m} ⟨o, es, ep, e, d, r⟩ => ⟨o, es, ep, base_of e (noA e d), d, r⟩
    have hKb : K.In (hidT s₁.heap H) := fun b o e => base_of (KX b o e) (by
      cases q : H b with
      | none => rfl
      | some u =>
        have e' : b = a := hA b (by rw [q]; simp)
        subst e'
        rw [hK (by rw [q]; simp)] at e; cases e)
    have hM : Mod K mg (hidT s₁.heap H) := ⟨hKb, nsK hns, ⟨mb, nsK hb, hbb⟩, let ⟨mc, h1, h2⟩ := hlim; ⟨mc, nsK h1, h2⟩⟩
    have e0 : Env0 P w K mg (hidT s₁.heap H) callerA [] s₁ H := ⟨rfl, hM, fun b o e => of_hidT e, Nat.le_of_eq (hidT_size _ _), trivial, fun b hb => absurd (show b ∈ ([] : List Addr) from hb) (by simp), hok, .of_eq hg⟩
    refine codeAny_mono ((F _ hKb (nsK hns)).run callerA [] s₁ H ⟨[.ref a], []⟩ [.ref a] [.ref a] _ _ hr e0 (hbind s₁ (.ref a)) (.cons rfl .nil) (hsp H hO hS)) fun r s' h => ?_
    cases r with
    | error e => exact (hCX H e s' h).elim
    | ok fl =>
      cases fl with
      | next => exact False.elim h
      | brk => exact False.elim h
      | cont => exact False.elim h
      | ret u =>
        obtain ⟨v, H', os, bare, un, hok', r', q⟩ := h
        have q' : v = .bl true := q
        subst q'
        obtain rfl : u = Value.bool true := r'
        refine ⟨rfl, OldK.of_keep fun b o e => ?_, os, bare⟩
        cases q : H b with
        | none => exact un.keep b o e q (by intro z; exact absurd (show b ∈ ([] : List Addr) from z) (by simp)) (by simp)
        | some u =>
          rcases hO b with z | ⟨ob, xs, z⟩
          · rw [q] at z; cases z
          · have z2 := un.frzs b ob _ z
            obtain ⟨e1, _⟩ := hok b _ z
            obtain ⟨e2, _⟩ := hok' b _ z2
            rw [e] at e1; cases e1
            exact e2
  cases hk : K.lookup a with
  | some o =>
    have e := KX a o hk
    rw [ha] at e
    cases e
    refine core (fun _ => none) (fun _ => .inl rfl) (.inr ⟨_, vs.toArray, _, hk, rfl, rfl, rfl, by rw [List.size_toArray, lenV]; exact hl, by simpa using rv⟩) (fun b u z => by have z' : (none : Option HO) = some u := z; cases z') (fun b z => absurd rfl z) fun z => absurd rfl z
  | none =>
    refine core (fun b => if b = a then some (.frz { cls := .type "list", data := .seq vs.toArray } (.lst (ns.map V.int))) else none) (fun b => ?_) (.inl (.inr ⟨{ cls := .type "list", data := .seq vs.toArray }, if_pos rfl⟩)) (fun b u z => ?_) (fun b z => ?_) fun _ => hk
    · by_cases hb : b = a
      · exact .inr ⟨_, _, if_pos hb⟩
      · exact .inl (if_neg hb)
    · by_cases hb : b = a
      · have z' := (if_pos hb).symm.trans z
        cases z'
        subst hb
        exact ⟨ha, by rw [List.length_map]; exact hl, vs, _, rv, ha⟩
      · have z' := (if_neg hb).symm.trans z
        cases z'
    · by_cases hb : b = a
      · exact hb
      · exact absurd (if_neg hb) z
end L2

namespace L2
open PySem PySem.Spec PyProof.Rows

theorem walk_of {l : PySem.W.OpenLaw} {n k : Nat} {q : Program} {loose : List Str} {XP : (Str → Option Value) → Heap → Prop} {YP : World → Heap → Prop} {d : DefRec} {K : Params → PySem.W.Frag} {CX : World → CXT} {sp : World → Sp} {x : Str}
    (hn : l.most = some n) (hn2 : n ≤ sizeLine) (hdf : d.params.defaults = []) (hr : Room k callerA)
    (hY : ∀ (w : World) (h : Heap), YP w h → (K w.params).In h)
    (F : ∀ (w : World) (mg : Str → Option Value) (fa : Addr) (h : Heap), (K w.params).In h → h.Ns mainGlobals mg → mg d.name = some (.ref fa) →
      ∃ fd : FuncData, (∀ (s : Shared) (u : Value), BindsTo s fd ⟨[u], []⟩ [(x, u)]) ∧
        ∀ base : Heap, (K w.params).In base → base.Ns mainGlobals mg → FnOk l.prog w (K w.params) mg base (CX w) k fa fd [x] (sp w))
    (hsp : ∀ (w : World) (H : Hp) (a : Addr) (ns : List Int), ns.length ≤ n → Only H → SqL (K w.params) H a (ns.map V.int) → sp w [.ref a] H (fun v _ => v = .bl true) fun _ _ _ => False)
    (hCX : ∀ (w : World) (H : Hp) (s : Shared) (e : Value) (s' : Shared), CX w [] H s (fun _ _ _ => False) e s' → False) :
    PySem.W.WalkO q loose XP YP l.row.toRowW d [] (fun f vs => PySem.call f vs) := by
  refine Att.attach_call hn hdf fun w s₀ s₁ mg mb fa o pm cd doc a vs ns G Y ho hd hcd hmg hobj hints hlen hg => ?_
  have KX := hY w _ Y
  obtain ⟨fd, hb, hF⟩ := F w mg fa _ KX G.T.g hmg
  exact law_call KX G.T.g G.T.b G.T.builtins G.T.nolimit hg hobj hints (Nat.le_trans hlen hn2) hr hF hb (fun H hO hS => hsp w H a ns hlen hO hS) fun H e s' => hCX w H s₁ e s'
theorem walk_ofK {l : PySem.W.OpenLaw} {n k : Nat} {q : Program} {loose : List Str} {XP : (Str → Option Value) → Heap → Prop} {YP : World → Heap → Prop} {d : DefRec} {K : Params → PySem.W.Frag} {CX : CXT} {sp : PySem.W.Frag → Sp} {x : Str}
    (hn : l.most = some n) (hn2 : n ≤ sizeLine) (hdf : d.params.defaults = []) (hr : Room k callerA)
    (hY : ∀ (w : World) (h : Heap), YP w h → (K w.params).In h)
    (F : ∀ (w : World) (mg : Str → Option Value) (fa : Addr) (h : Heap), (K w.params).In h → h.Ns mainGlobals mg → mg d.name = some (.ref fa) →
      ∃ fd : FuncData, (∀ (s : Shared) (u : Value), BindsTo s fd ⟨[u], []⟩ [(x, u)]) ∧
        ∀ base : Heap, (K w.params).In base → base.Ns mainGlobals mg → FnOk l.prog w (K w.params) mg base CX k fa fd [x] (sp (K w.params)))
    (hsp : ∀ (K : PySem.W.Frag) (H : Hp) (a : Addr) (ns : List Int), ns.length ≤ n → Only H → SqL K H a (ns.map V.int) → sp K [.ref a] H (fun v _ => v = .bl true) fun _ _ _ => False)
    (hCX : ∀ (H : Hp) (s : Shared) (e : Value) (s' : Shared), CX [] H s (fun _ _ _ => False) e s' → False) :
    PySem.W.WalkO q loose XP YP l.row.toRowW d [] (fun f vs => PySem.call f vs) :=
  walk_of (K := K) (CX := fun _ => CX) (sp := fun w => sp (K w.params)) hn hn2 hdf hr hY F (fun w H a ns h1 h2 h3 => hsp (K w.params) H a ns h1 h2 h3) fun _ H s e s' => hCX H s e s'
end L2


namespace L2
open PySem PySem.Spec PyProof.Rows

def inClass (s : Stmt) (j : Nat) : Stmt := match s with
  | .ClassDef _ _ _ body _ _ _ _ _ _ _ => body.getD j (.Pass ⟨0, 0, 0, 0⟩)
  | _ => .Pass ⟨0, 0, 0, 0⟩
def defArgs (s : Stmt) : Arguments := match s with
  | .FunctionDef _ a _ _ _ _ _ _ _ _ => a
  | _ => { posonlyargs := [], args := [], vararg := none, kwonlyargs := [], kw_defaults := [], kwarg := none, defaults := [] }
def defBody (s : Stmt) : List Stmt := match s with
  | .FunctionDef _ _ b _ _ _ _ _ _ _ => b
  | _ => []
def defScope (s : Stmt) : Scope := match s with
  | .FunctionDef _ _ _ _ _ _ sc _ _ _ => sc
  | _ => { kind := .function, names := [], isGenerator := false, isCoroutine := false }

abbrev CX0 : CXT := fun _ _ _ _ _ _ => False
abbrev E0 : XK := fun _ _ _ => False
theorem pass0 {X : Cx} : Passes CX0 X E0 := fun _ _ _ _ _ _ _ h => h.elim

structure Fun (K : PySem.W.Frag) (x qual : Str) (st : Stmt) (f : Addr) (fd : FuncData) : Prop where
  ex : ∃ (oc : Value) (od : Option Addr) (kV doc pm : Value) (an : Option Addr) (cdv ct : Value) (osl : Array (Option Value)),
    fd = PySem.W.fnOf x qual (defArgs st) (defBody st) (defScope st) .none kV doc pm an cdv ct ∧ K.lookup f = some ⟨oc, od, .func fd, osl⟩ ∧ PySem.W.codeIn K cdv qual = true
  kp : PySem.W.keepIn K (.ref f) = true
section
variable {P : Program} {w : World} {K : PySem.W.Frag} {mg : Str → Option Value} {base : Heap}
theorem Fun.ok {x qual : Str} {st : Stmt} {f : Addr} {fd : FuncData} {N ps : List Str} {k : Nat} {sp : Sp} (F : Fun K x qual st f fd) (S : FnScope N ps (defScope st)) (len : ∀ vs H Q E, sp vs H Q E → vs.length = ps.length)
    (hbody : ∀ (cdv : Value) (A : Around) (outer : List Env) (s : Shared) (H : Hp) (vs : List V) (Q : VK) (E : XK), Room k (A.deeper (envOfC qual (defScope st) s.heap.objs.size f cdv)) → sp vs H Q E →
      ∃ t, PSs (cxOf CX0 P w K mg base N qual (defScope st) f cdv A outer s H E).nox (defBody st) t ∧ t { nx := fun _ H' => Q .non H', rt := Q } (start N vs) H) : FnOk P w K mg base CX0 (k + 1) f fd ps sp := by
  obtain ⟨oc, od, kV, doc, pm, an, cdv, ct, osl, rfl, lk, hcd⟩ := F.ex
  refine fn_of lk hcd S len fun A outer s H vs Q E hr hsp => ?_
  obtain ⟨t, h, q⟩ := hbody cdv A outer s H vs Q E hr hsp
  exact ⟨t, h.nox, q⟩
theorem Fun.binds {x qual : Str} {st : Stmt} {f : Addr} {fd : FuncData} {ps : List Str} (F : Fun K x qual st f fd)
    (h : ∀ (kV doc pm : Value) (an : Option Addr) (cdv ct : Value) (us : List Value), us.length = ps.length → bindArgs (PySem.W.fnOf x qual (defArgs st) (defBody st) (defScope st) .none kV doc pm an cdv ct) ⟨us, []⟩ = pure (ps.zip us)) : Binds K fd ps [] := by
  obtain ⟨oc, od, kV, doc, pm, an, cdv, ct, osl, rfl, lk, hcd⟩ := F.ex
  exact .all (h kV doc pm an cdv ct)
theorem fun_mk {x qual : Str} {st : Stmt} {f : Addr} {oc : Value} {od an : Option Addr} {osl : Array (Option Value)} {kV doc pm cdv ct : Value} (l : K.lookup f = some ⟨oc, od, .func (PySem.W.fnOf x qual (defArgs st) (defBody st) (defScope st) .none kV doc pm an cdv ct), osl⟩)
    (c : PySem.W.codeIn K cdv qual = true) (k : PySem.W.keepIn K (.ref f) = true) : Fun K x qual st f (PySem.W.fnOf x qual (defArgs st) (defBody st) (defScope st) .none kV doc pm an cdv ct) := ⟨⟨oc, od, kV, doc, pm, an, cdv, ct, osl, rfl, l, c⟩, k⟩
end
theorem small1000 {n : Nat} (h : n ≤ 1000) : n < sizeLine := Nat.lt_of_le_of_lt h (by decide)

section
variable {X : Cx}
theorem pv (i : Nat) {x : Str} {pos : Pos} (hN : X.N[i]? = some x := by rfl) (hv : Vis X.env.scope x := by first | exact Or.inl rfl | exact Or.inr (Or.inl rfl) | exact Or.inr (Or.inr rfl)) (hd : (x == ("__debug__" : Str)) = false := by decide)
    (hcd : (x == ("__classdict__" : Str)) = false := by decide) : PE X (.Name x pos) (tVar i) := pe_var hN hv hd hcd
end

theorem iteF {A B : Prop} (h : B) : if false = true then A else B := by
  rw [if_neg Bool.false_ne_true]
  exact h
theorem iteT {A B : Prop} (h : A) : if true = true then A else B := by
  rw [if_pos rfl]
  exact h
theorem ite2 {c A B : Prop} [Decidable c] (h1 : c → A) (h2 : ¬ c → B) : if c then A else B := by
  by_cases h : c
  · rw [if_pos h]
    exact h1 h
  · rw [if_neg h]
    exact h2 h
def Same (H H' : Hp) : Prop := ∀ b o, H b = some o → H' b = some o
theorem Same.refl (H : Hp) : Same H H := fun _ _ h => h
theorem Same.trans {H H1 H2 : Hp} (a : Same H H1) (b : Same H1 H2) : Same H H2 := fun c o h => b c o (a c o h)
theorem Same.free {H H' : Hp} (e : Same H H') {l : Addr} (h : H' l = Option.none) : H l = Option.none := by
  cases q : H l with
  | none => rfl
  | some o =>
    rw [e l o q] at h
    cases h
theorem Same.seq {K : PySem.W.Frag} {H H' : Hp} {a : Addr} {xs : List V} (e : Same H H') (h : SqL K H a xs) : SqL K H' a xs := by
  rcases h with (h | ⟨o, h⟩) | h
  · exact .inl (.inl (e _ _ h))
  · exact .inl (.inr ⟨o, e _ _ h⟩)
  · exact .inr h

section
variable {κ : Type} [DecidableEq κ]
theorem valV_not {kvs : List (κ × V)} {k : κ} (h : valV kvs k = none) : ¬ k ∈ kvs.map (·.1) := by
  intro m
  obtain ⟨p, hp, e⟩ := List.mem_map.mp m
  have q : (kvs.any fun kv => decide (kv.1 = k)) = true := List.any_eq_true.mpr ⟨p, hp, decide_eq_true e⟩
  rw [valV_any, h] at q
  exact absurd q (by simp)
theorem valV_in {kvs : List (κ × V)} {k : κ} {v : V} (h : valV kvs k = some v) : k ∈ kvs.map (·.1) := by
  have q : (kvs.any fun kv => decide (kv.1 = k)) = true := by
    rw [valV_any, h]
    all_goals rfl
  obtain ⟨p, hp, e⟩ := List.any_eq_true.mp q
  exact List.mem_map.mpr ⟨p, hp, of_decide_eq_true e⟩
end
theorem at_of {xs : List V} {z : Int} {j : Nat} {v : V} (e : z = (j : Int)) (h : xs[j]? = some v) : atI xs z = some v := by
  rw [e]
  exact atI_nat h
theorem Same.made {H H1 : Hp} {x dx C : Addr} (nx : H x = Option.none) (nd : H dx = Option.none) (k : ∀ b o, (upd (upd H dx (.own x)) x (.ins C dx [])) b = some o → b ≠ x → H1 b = some o) : Same H H1 := fun b o e =>
  k b o (by rw [upd_ne (ne_of_none e nx), upd_ne (ne_of_none e nd)]; exact e) (ne_of_none e nx)
end L2

set_option Elab.async false
set_option linter.all false
set_option maxRecDepth 100000
set_option maxHeartbeats 4000000
namespace L2
open PySem PySem.Spec PyProof.Rows
section
variable {X : Cx}
def rIsi (K : PySem.W.Frag) : List V → Hp → VK → Prop := fun vs H Q => ∃ (x c : V) (t : Value) (b : Bool), vs = [x, c] ∧ TyOf K H x t ∧ (∀ u, RelV c u → PySem.W.kitOne K t u = some b) ∧ Q (.bl b) H
theorem cr_isi : CallR X (.builtin "isinstance") (rIsi X.K) := by
  intro pins s σ H vs us Q I r h
  obtain ⟨x, c, t, b, rfl, ty, k, q⟩ := h
  cases r with
  | cons r1 r2 =>
    cases r2 with
    | cons r3 r4 =>
      cases r4
      exact isinst_ok I r1 ty (k _ r3) fun tk => ⟨.bl b, H, I.tok tk, rfl, q⟩
def CMulB (i j : Int) : Prop := Builtin.Int.intBits i ≤ 2 ^ 20 ∧ Builtin.Int.intBits j ≤ 2 ^ 20
theorem op_mulB : OpR X (binaryOp .Mult) (rI CMulB fun i j => .int (i * j)) := opI fun _ _ _ _ _ _ _ hc q => mul_int q (PySem.IntMulOk.of_bits hc.1 hc.2)
end
end L2

set_option Elab.async false
set_option linter.all false
set_option maxRecDepth 100000
set_option maxHeartbeats 4000000
namespace L2
open PySem PySem.Spec PyProof.Rows
section
variable {prog : Program} {w : World} {A : Around} {E : Value → Shared → Prop} {s : Shared}
end
end L2

set_option Elab.async false
set_option linter.all false
set_option maxRecDepth 100000
set_option maxHeartbeats 4000000
namespace L2
open PySem PySem.Spec PyProof.Rows
section
variable {prog : Program} {w : World} {A : Around} {E : Value → Shared → Prop} {s : Shared}
end
end L2

set_option Elab.async false
set_option linter.all false
set_option maxRecDepth 100000
set_option maxHeartbeats 4000000
namespace L2
open PySem PySem.Spec PyProof.Rows
end L2

set_option Elab.async false
set_option linter.all false
set_option maxRecDepth 100000
set_option maxHeartbeats 4000000
namespace L2
open PySem PySem.Spec PyProof.Rows
section
variable {prog : Program} {w : World} {A : Around} {R : Result → Shared → Prop} {I S : Addr} {fp wr : List Addr} {n : Nat} {P : Nat → Value → Prop} {St : Nat → Heap → Prop} {kw : List (Str × Value)} {bt : Nat → Nat → Bool}
end
section
variable {prog : Program} {w : World} {A : Around} {E : Value → Shared → Prop} {s : Shared} {l : Addr} {its : List Value} {ns : List Int} {d : Value} {Q : Value → Shared → Prop}
end
section
variable {X : Cx} {x : Str} {p pos : Pos} {e : Expr} {es : List Expr} {kws : List Keyword} {t tk : TA} {id : String}
end
end L2

set_option Elab.async false
set_option linter.all false
set_option maxRecDepth 100000
set_option maxHeartbeats 4000000
namespace L2
open PySem PySem.Spec PyProof.Rows
section
variable {X : Cx} {pins : List (Addr × Obj)} {σ : St} {H : Hp} {s : Shared}
end
end L2

set_option Elab.async false
set_option linter.all false
set_option maxRecDepth 100000
set_option maxHeartbeats 4000000
namespace L2
open PySem PySem.Spec PyProof.Rows
section
variable {X : Cx} {pins : List (Addr × Obj)} {σ : St} {H : Hp} {s : Shared}
theorem Inv.chpin {pins' : List (Addr × Obj)} {b : Addr} {h' : Heap} {t' : Nat} (I : Inv X pins σ H s) (f : FpOk X [] H b) (sb : Heap.SameBut b s.heap h')
    (hp : ∀ p ∈ pins', (p ∈ pins ∧ p.1 ≠ b) ∨ (p.1 = b ∧ h'.get? b = some p.2 ∧ ∀ v, p.2.data ≠ .cell v)) : Inv X pins' σ H { s with heap := h', toks := t' } := by
  obtain ⟨f0, f1, f2, f3, f4, f5⟩ := f
  have I0 : Inv X [] σ H s := I.pins_of fun p hp => absurd hp (by simp)
  have I1 : Inv X [] σ H { s with heap := h', toks := t' } := I0.turned (fun c o hc e => (sb.2 c hc).trans e) f0 f1 f3 f4 f5
  refine I1.pins_of fun p hq => ?_
  rcases hp p hq with ⟨hm, hne⟩ | ⟨he, hg, hd⟩
  · obtain ⟨e, n, ne, nf, d⟩ := I.pin p (List.mem_append_right _ hm)
    exact ⟨(sb.2 p.1 hne).trans e, n, ne, nf, d⟩
  · rw [he]
    exact ⟨hg, f0, f1, f2, hd⟩
theorem Inv.newpin {pins' : List (Addr × Obj)} {h' : Heap} {t' : Nat} (I : Inv X pins σ H s) (k : ∀ b o, s.heap.get? b = some o → h'.get? b = some o)
    (hp : ∀ p ∈ pins', p ∈ pins ∨ (s.heap.objs.size ≤ p.1 ∧ h'.get? p.1 = some p.2 ∧ ∀ v, p.2.data ≠ .cell v)) : Inv X pins' σ H { s with heap := h', toks := t' } := by
  have I1 : Inv X pins σ H { s with heap := h', toks := t' } := I.kept k
  refine I1.pins_of fun p hq => ?_
  rcases hp p hq with hm | ⟨hz, hg, hd⟩
  · exact I1.pin p (List.mem_append_right _ hm)
  · obtain ⟨f0, f1, f2, _⟩ := I.fpOk hz (I.hok.fresh hz)
    exact ⟨hg, f0, f1, f2, hd⟩
theorem Inv.adopt {a : Addr} {o : HO} (I : Inv X pins σ H s) (f : FpOk X pins H a) (new : ObjOk X.prog X.w (upd H a o) s.heap a o) : Inv X pins σ (upd H a o) s := by
  obtain ⟨f0, f1, f2, f3, f4, f5⟩ := f
  refine I.step (h' := s.heap) (g' := s.gens) (t' := s.toks) (d' := s.drawn) (ch := [a]) (fun b hb => ?_) (fun b o _ _ _ e _ => e) (fun b o _ _ _ e _ => ⟨o.slots, e⟩) (fun b o hb e n => ?_) (fun b o _ e => ⟨o, e⟩) (fun b xs e => ?_) (fun b o u e => ?_) (fun b ps e => ⟨#[], ?_⟩) (fun m hm => hm) (fun b u e => ?_) I.bare
  · have e : b = a := by simpa using hb
    subst e
    exact ⟨f3, f1, f4, f5⟩
  · rw [upd_ne (fun z => hb (by simp [z]))]
    exact n
  · rw [upd_ne (ne_of_none e f0)]
    exact e
  · rw [upd_ne (ne_of_none e f0)]
    exact e
  · rw [upd_ne (ne_of_none e f0), e]
    simp
  · by_cases hb : b = a
    · subst hb
      rw [upd_same] at e
      cases e
      exact new
    · rw [upd_ne hb] at e
      exact (I.hok b u e).stay (fun c v _ q => q) (fun c q => by rw [upd_ne (ne_of_none q f0)]; exact q) fun c xs q => by rw [upd_ne (ne_of_none q f0)]; exact q
theorem FpOk.repin {pins pins' : List (Addr × Obj)} {b : Addr} (f : FpOk X pins H b) (h : ∀ p ∈ pins', p.1 ≠ b) : FpOk X pins' H b :=
  ⟨f.1, f.2.1, f.2.2.1, f.2.2.2.1, f.2.2.2.2.1, fun p hp => (List.mem_append.mp hp).elim (fun z => f.2.2.2.2.2 p (List.mem_append_left _ z)) (h p)⟩
end
section
variable {X : Cx} {pins : List (Addr × Obj)} {σ : St} {H : Hp} {s : Shared} {A : Around} {E : Value → Shared → Prop} {a kS : Addr} {vs : List Value} {kz : List Int} {keys : Array Value} {e e1 : Nat} {P : PySem.Fin → Shared → Prop}
abbrev SkOut (kz : List Int) (vs : List Value) (out : List Value) : Prop := KskOut false kz vs out
end
end L2

set_option Elab.async false
set_option linter.all false
set_option maxRecDepth 100000
set_option maxHeartbeats 4000000
namespace L2
open PySem PySem.Spec PyProof.Rows
def tabOf (ts : List (Nat × Nat × Addr)) : List Value := ts.flatMap fun t => [rawInt t.1, rawInt t.2.1, .ref t.2.2]
abbrev codeX (qual : Str) (c : Addr) : HO := .ext fun h => h.CodeRec (.ref c) qual
def TabOk (H : Hp) (P : Addr) (qual : Str) : Prop := ∃ ts : List (Nat × Nat × Addr), H P = some (.tbl (tabOf ts).toArray) ∧ ∀ t ∈ ts, H t.2.2 = some (codeX qual t.2.2)
theorem TabOk.laid {H : Hp} {P a : Addr} {qual : Str} {o : HO} (T : TabOk H P qual) (h : H a = none) : TabOk (upd H a o) P qual := by
  obtain ⟨ts, e, k⟩ := T
  exact ⟨ts, by rw [upd_ne (ne_of_none e h)]; exact e, fun t ht => by rw [upd_ne (ne_of_none (k t ht) h)]; exact k t ht⟩
section
variable {X : Cx} {pins : List (Addr × Obj)} {σ : St} {H : Hp} {s : Shared}
end
end L2

set_option Elab.async false
set_option linter.all false
set_option maxRecDepth 100000
set_option maxHeartbeats 4000000
namespace L2
open PySem PySem.Spec PyProof.Rows
theorem perm_back {α β : Type} {R : α → β → Prop} : ∀ {l1 l2 : List β}, l1.Perm l2 → ∀ {m2 : List α}, Paired R m2 l2 → ∃ m1, m1.Perm m2 ∧ Paired R m1 l1 := by
  intro l1 l2 p
  induction p with
  | nil => intro m2 h; exact ⟨m2, .refl _, h⟩
  | cons x _ ih =>
    intro m2 h
    cases h with
    | cons r t =>
      obtain ⟨m1, h1, h2⟩ := ih t
      exact ⟨_ :: m1, h1.cons _, .cons r h2⟩
  | swap x y l =>
    intro m2 h
    cases h with
    | cons r t =>
      cases t with
      | cons r' t' => exact ⟨_ :: _ :: _, .swap .., .cons r' (.cons r t')⟩
  | trans _ _ ih1 ih2 =>
    intro m3 h
    obtain ⟨m2, h1, h2⟩ := ih2 h
    obtain ⟨m1, h3, h4⟩ := ih1 h2
    exact ⟨m1, h3.trans h1, h4⟩
theorem paired_zip {kz : List Int} : ∀ {xs : List V} {vs : List Value}, Vals xs vs → Paired (fun (p : Int × V) (q : Int × Value) => p.1 = q.1 ∧ RelV p.2 q.2) (kz.zip xs) (kz.zip vs) := by
  induction kz with
  | nil => intro xs vs _; exact .nil
  | cons k r ih =>
    intro xs vs h
    cases h with
    | nil => exact .nil
    | cons a t => exact .cons ⟨rfl, a⟩ (ih t)
theorem paired_fst : ∀ {ps : List (Int × V)} {qs : List (Int × Value)}, Paired (fun (p : Int × V) (q : Int × Value) => p.1 = q.1 ∧ RelV p.2 q.2) ps qs → ps.map (·.1) = qs.map (·.1)
  | _, _, .nil => rfl
  | _, _, .cons r t => by rw [List.map_cons, List.map_cons, r.1, paired_fst t]
theorem paired_snd : ∀ {ps : List (Int × V)} {qs : List (Int × Value)}, Paired (fun (p : Int × V) (q : Int × Value) => p.1 = q.1 ∧ RelV p.2 q.2) ps qs → Vals (ps.map (·.2)) (qs.map (·.2))
  | _, _, .nil => .nil
  | _, _, .cons r t => .cons r.2 (paired_snd t)
def ByKey (ks : List Int) (xs ys : List V) : Prop := ∃ ps : List (Int × V), ps.Perm (ks.zip xs) ∧ ys = ps.map (·.2) ∧ (ps.map (·.1)).Pairwise (· ≤ ·)
theorem ByKey.of {kz : List Int} {xs : List V} {vs out : List Value} (h : SkOut kz vs out) (r : Vals xs vs) : ∃ ys, ByKey kz xs ys ∧ Vals ys out := by
  obtain ⟨qs, hp, ho, hs⟩ := h
  obtain ⟨ps, h1, h2⟩ := perm_back hp (paired_zip (kz := kz) r)
  refine ⟨ps.map (·.2), ⟨ps, h1, rfl, ?_⟩, ?_⟩
  · rw [paired_fst h2, List.pairwise_map]
    exact hs.imp fun {a b} q => by simpa using q
  · rw [ho]
    exact paired_snd h2
section
variable {X : Cx}
end
end L2

set_option Elab.async false
set_option linter.all false
set_option maxRecDepth 100000
set_option maxHeartbeats 4000000
namespace L2
open PySem PySem.Spec PyProof.Rows
def EnSt (h : Heap) (e it : Addr) (k : Int) : Prop := ∃ f0 f1 old, h.get? e = some { cls := .type "enumerate", dict := none, data := .fields #[f0, f1, .ref it, rawInt k, .none, old], slots := #[] } ∧ (f0 = .none ∨ ∃ (T : Addr) (o : Obj), f0 = rawInt (T : Int) ∧ h.get? T = some o ∧ T ≠ e ∧ T ≠ it)
theorem EnSt.at {h h' : Heap} {e it : Addr} {k : Int} (x : EnSt h e it k) (k1 : ∀ o, h.get? e = some o → h'.get? e = some o) (k2 : ∀ b o, b ≠ e → b ≠ it → h.get? b = some o → ∃ o', h'.get? b = some o') : EnSt h' e it k := by
  obtain ⟨f0, f1, old, e1, e2⟩ := x
  refine ⟨f0, f1, old, k1 _ e1, ?_⟩
  rcases e2 with e2 | ⟨T, o, a, b, c, d⟩
  · exact .inl e2
  · obtain ⟨o', q⟩ := k2 T o c d b
    exact .inr ⟨T, o', a, q, c, d⟩
section
variable {prog : Program} {w : World} {A : Around} {E : Value → Shared → Prop} {s : Shared}
end
end L2

set_option Elab.async false
set_option linter.all false
set_option maxRecDepth 100000
set_option maxHeartbeats 4000000
namespace L2
open PySem PySem.Spec PyProof.Rows PySem.W
section
variable {prog : Program} {w : World} {A : Around} {E : Value → Shared → Prop} {s : Shared}
end
end L2

set_option Elab.async false
set_option linter.all false
set_option maxRecDepth 100000
set_option maxHeartbeats 4000000
namespace L2
open PySem PySem.Spec PyProof.Rows PySem.W
section
variable {X : Cx} {pins : List (Addr × Obj)} {σ : St} {H : Hp} {A : Around} {R : Result → Shared → Prop} {S e it a : Addr} {k : Int} {xs : List V} {res : Value}
end
end L2

set_option Elab.async false
set_option linter.all false
set_option maxRecDepth 100000
set_option maxHeartbeats 4000000
namespace L2
open PySem PySem.Spec PyProof.Rows PySem.W
section
variable {X : Cx} {pins : List (Addr × Obj)} {σ : St} {H : Hp} {s : Shared} {e it a : Addr} {k : Int} {xs : List V} {Q : VK}
end
section
variable {X : Cx} {e : Expr} {te : TE} {p p2 pos pos2 kpos cpos : Pos} {j : Nat}
end
end L2

set_option Elab.async false
set_option linter.all false
set_option maxRecDepth 100000
set_option maxHeartbeats 4000000
namespace L2
open PySem PySem.Spec PyProof.Rows
section
variable {X : Cx} {e : Expr} {te : TE} {p2 pos cp up : Pos} {j : Nat}
end
end L2

set_option Elab.async false
set_option linter.all false
set_option maxRecDepth 100000
set_option maxHeartbeats 4000000
namespace L2
open PySem PySem.Spec PyProof.Rows
abbrev ForG (J : It) (g : TG) (tb : TS) (D : Ends) (σ : St) (H : Hp) : Prop := ∃ W : Nat → Nat → St → Hp → Prop, (∃ m, W 0 m σ H) ∧ ∀ i m σ H, W i m σ H →
  (J.stop i H ∧ D.nx σ H) ∨ (J.go i H ∧ ∃ N : St → Hp → Prop, (∀ σ' H', N σ' H' → ∃ m', m' < m ∧ W (i + 1) m' σ' H') ∧ ∀ x H', J.yld i H x H' → g x σ H' fun σ2 H2 => tb { D with nx := N, ct := N, bk := D.nx } σ2 H2)
theorem for_it {J : It} {g : TG} {tb : TS} {D : Ends} {σ : St} {H : Hp} (n : Nat) (Pv : Nat → St → Hp → Prop) (h0 : Pv 0 σ H) (hg : ∀ i σ H, i < n → Pv i σ H → J.go i H) (he : ∀ σ H, Pv n σ H → J.stop n H)
    (hs : ∀ i x σ H H', i < n → Pv i σ H → J.yld i H x H' → g x σ H' fun σ2 H2 => tb { D with nx := Pv (i + 1), ct := Pv (i + 1), bk := D.nx } σ2 H2) (hd : ∀ σ H, Pv n σ H → D.nx σ H) : ForG J g tb D σ H := by
  refine ⟨fun i m σ H => m = n - i ∧ i ≤ n ∧ Pv i σ H, ⟨n, by simp, Nat.zero_le _, h0⟩, ?_⟩
  rintro i m σ H ⟨rfl, hi, p⟩
  by_cases hlt : i < n
  · exact .inr ⟨hg i σ H hlt p, Pv (i + 1), fun σ' H' p' => ⟨n - (i + 1), by omega, rfl, hlt, p'⟩, fun x H' y => hs i x σ H H' hlt p y⟩
  · have e : i = n := by omega
    subst e
    exact .inl ⟨he σ H p, hd σ H p⟩
abbrev LcG (J : It) (g : TG) (tt : TT) (te : TE) (vs : List Nat) (σ : St) (D : Addr) (H1 : Hp) (Qd : Hp → Prop) : Prop := ∃ W : Nat → Nat → Hp → Prop, (∃ m, W 0 m (upd H1 D (.lst []))) ∧ ∀ i m H, W i m H →
  (J.stop i H ∧ Qd H) ∨ (J.go i H ∧ ∃ Nx : Hp → Prop, (∀ H', Nx H' → ∃ m', m' < m ∧ W (i + 1) m' H') ∧ ∀ x H', J.yld i H x H' → g x (wipe σ vs) H' fun σ2 H2 => wipe σ2 vs = wipe σ vs ∧ tt σ2 H2 fun b H3 =>
    if b = true then te σ2 H3 fun y H4 => ∃ acc, H4 D = some (.lst acc) ∧ acc.length < sizeLine ∧ Nx (upd H4 D (.lst (acc ++ [y]))) else Nx H3)
theorem lc_it {J : It} {g : TG} {tt : TT} {te : TE} {vs : List Nat} {σ : St} {H1 : Hp} {D : Addr} {Qd : Hp → Prop} (n : Nat) (Pv : Nat → Hp → Prop) (h0 : Pv 0 (upd H1 D (.lst []))) (hg : ∀ i H, i < n → Pv i H → J.go i H) (he : ∀ H, Pv n H → J.stop n H)
    (hs : ∀ i x H H', i < n → Pv i H → J.yld i H x H' → g x (wipe σ vs) H' fun σ2 H2 => wipe σ2 vs = wipe σ vs ∧ tt σ2 H2 fun b H3 =>
      if b = true then te σ2 H3 fun y H4 => ∃ acc, H4 D = some (.lst acc) ∧ acc.length < sizeLine ∧ Pv (i + 1) (upd H4 D (.lst (acc ++ [y]))) else Pv (i + 1) H3) (hd : ∀ H, Pv n H → Qd H) : LcG J g tt te vs σ D H1 Qd := by
  refine ⟨fun i m H => m = n - i ∧ i ≤ n ∧ Pv i H, ⟨n, by simp, Nat.zero_le _, h0⟩, ?_⟩
  rintro i m H ⟨rfl, hi, p⟩
  by_cases hlt : i < n
  · exact .inr ⟨hg i H hlt p, Pv (i + 1), fun H' p' => ⟨n - (i + 1), by omega, rfl, hlt, p'⟩, fun x H' y => hs i x H H' hlt p y⟩
  · have e : i = n := by omega
    subst e
    exact .inl ⟨he H p, hd H p⟩
section
variable {K : PySem.W.Frag} {a : Addr} {xs : List V}
theorem for_enum0 {g : TG} {tb : TS} {D : Ends} {σ : St} {H : Hp} (Pv : Nat → St → Hp → Prop) (h0 : Pv 0 σ H) (hl : ∀ i σ H, i ≤ xs.length → Pv i σ H → SqL K H a xs)
    (hs : ∀ i x T σ H, xs[i]? = some x → Pv i σ H → H T = none → g (.ref T) σ (upd H T (.tup [.int (i : Nat), x])) fun σ2 H2 => tb { D with nx := Pv (i + 1), ct := Pv (i + 1), bk := D.nx } σ2 H2) (hd : ∀ σ H, Pv xs.length σ H → D.nx σ H) : ForG (Ite K a) g tb D σ H := by
  refine for_it xs.length Pv h0 (fun i σ H hi p => ⟨xs, xs[i], hl i σ H (Nat.le_of_lt hi) p, by simp [hi]⟩) (fun σ H p => ⟨xs, hl _ σ H (Nat.le_refl _) p, Nat.le_refl _⟩) (fun i x σ H H' hi p y => ?_) hd
  obtain ⟨T, z, rfl, hT, rfl, hz⟩ := y
  exact hs i z T σ H (hz xs (hl i σ H (Nat.le_of_lt hi) p)) p hT
theorem lc_enum0 {g : TG} {tt : TT} {te : TE} {vs : List Nat} {σ : St} {H1 : Hp} {D : Addr} {Qd : Hp → Prop} (Pv : Nat → Hp → Prop) (h0 : Pv 0 (upd H1 D (.lst []))) (hl : ∀ i H, i ≤ xs.length → Pv i H → SqL K H a xs)
    (hs : ∀ i x T H, xs[i]? = some x → Pv i H → H T = none → g (.ref T) (wipe σ vs) (upd H T (.tup [.int (i : Nat), x])) fun σ2 H2 => wipe σ2 vs = wipe σ vs ∧ tt σ2 H2 fun b H3 =>
      if b = true then te σ2 H3 fun y H4 => ∃ acc, H4 D = some (.lst acc) ∧ acc.length < sizeLine ∧ Pv (i + 1) (upd H4 D (.lst (acc ++ [y]))) else Pv (i + 1) H3) (hd : ∀ H, Pv xs.length H → Qd H) : LcG (Ite K a) g tt te vs σ D H1 Qd := by
  refine lc_it xs.length Pv h0 (fun i H hi p => ⟨xs, xs[i], hl i H (Nat.le_of_lt hi) p, by simp [hi]⟩) (fun H p => ⟨xs, hl _ H (Nat.le_refl _) p, Nat.le_refl _⟩) (fun i x H H' hi p y => ?_) hd
  obtain ⟨T, z, rfl, hT, rfl, hz⟩ := y
  exact hs i z T H (hz xs (hl i H (Nat.le_of_lt hi) p)) p hT
end
theorem Same.upd {H H' : Hp} {a : Addr} {o : HO} (s : Same H H') (h : H a = none) : Same H (upd H' a o) := fun b u e => by
  rw [upd_ne (ne_of_none e h)]
  exact s b u e
theorem Same.new {H : Hp} {a : Addr} {o : HO} (h : H a = none) : Same H (L2.upd H a o) := (Same.refl H).upd h
theorem map_int_get {ns : List Int} {i : Nat} {x : V} (h : (ns.map V.int)[i]? = some x) : ∃ n, ns[i]? = some n ∧ x = .int n := by
  rw [List.getElem?_map] at h
  cases e : ns[i]? with
  | none =>
    rw [e] at h
    cases h
  | some z =>
    rw [e] at h
    exact ⟨z, rfl, (Option.some.inj h).symm⟩
end L2

set_option Elab.async false
set_option linter.all false
set_option maxRecDepth 100000
set_option maxHeartbeats 4000000
namespace L2
open PySem PySem.Spec PyProof.Rows
def rListOf (K : PySem.W.Frag) : List V → Hp → VK → Prop := fun xs H Q => ∃ p ys, xs = [.ref p] ∧ (SqL K H p ys ∨ SqT K H p ys) ∧ ∀ l, H l = none → Q (.ref l) (upd H l (.lst ys))
def rLen (K : PySem.W.Frag) : List V → Hp → VK → Prop := fun xs H Q => ∃ p ys, xs = [.ref p] ∧ (SqL K H p ys ∨ SqT K H p ys) ∧ Q (.int ys.length) H
section
variable {X : Cx} (K : PySem.W.Frag)
theorem cr_isiK (h : X.K = K := by rfl) : CallR X (.builtin "isinstance") (rIsi K) := h ▸ cr_isi
theorem call_list_ofK (h : X.K = K := by rfl) : CallR X (.type "list") (rListOf K) := by
  subst h
  exact call_list_of
theorem call_len_seqK (h : X.K = K := by rfl) : CallR X (.builtin "len") (rLen K) := by
  subst h
  exact call_len_seq
theorem cr_sumK (hc : X.calm = true) (h : X.K = K := by rfl) : CallR X (.builtin "sum") (rSum K) := h ▸ cr_sum hc
theorem ix_listK (h : X.K = K := by rfl) : IxR X (rIxL K) := h ▸ ix_list
theorem ix_tupK (h : X.K = K := by rfl) : IxR X (rIxT K) := h ▸ ix_tup
theorem sl_listK (h : X.K = K := by rfl) : SlR X (rSlL K) := h ▸ sl_list
theorem op_eqDK (hu : X.A.units + 64 < cLine) (h : X.K = K := by rfl) : OpR X (compareOp .Eq) (rEqD K) := h ▸ op_eqD hu
theorem op_neDK (hu : X.A.units + 64 < cLine) (h : X.K = K := by rfl) : OpR X (compareOp .NotEq) (rNeD K) := h ▸ op_neD hu
theorem pi_listK {tg l : Expr} {tl : TE} (hl : PE X l tl) (h : X.K = K := by rfl) : PI X tg l (iList K tl) := h ▸ pi_list hl
theorem pi_enumK {e : Expr} {ta : TA} {p pos tpos : Pos} {elts : List Expr} {kk : Nat} (hg : Gl X "enumerate") (hm : X.mg "enumerate" = none) (ha : PA X [e] ta) (hs : starEach [e] X.env = [(false, eval e X.env)] := by rfl) (h : X.K = K := by rfl) :
    PI X (.Tuple elts kk tpos) (.Call (.Name "enumerate" p) [e] [] pos) (iEnum K ta) := h ▸ pi_enum hg hm ha hs
theorem pg_tupK {es : List Expr} {k : Nat} {t : TGs} {n : Nat} {pos : Pos} (hc : X.calm = true) (hp : PGs X es t) (hn : (assignEach es X.env).length = n := by rfl) (hst : (assignEach es X.env).findIdx? (·.1) = none := by rfl) (h : X.K = K := by rfl) :
    PG X (.Tuple es k pos) (gTup K n t) := h ▸ pg_tup hc hp hn hst
theorem pe_fldK {e : Expr} {ta : TE} {f : Str} {pos : Pos} (he : PE X e ta) (hb : attributeBase e f X.env (eval e X.env) = eval e X.env) (h : X.K = K := by rfl) : PE X (.Attribute e f pos) (tFld K ta f) := h ▸ pe_fld he hb
end
end L2
namespace L2
theorem yesT {σ : St} {H : Hp} {A B : Bool → Hp → Prop} (h : A true H) : tYes σ H (fun b H3 => if b = true then A b H3 else B b H3) := by
  show (if true = true then A true H else B true H)
  rw [if_pos rfl]
  exact h
end L2
namespace L2
open PySem PySem.Spec PyProof.Rows
section
variable {X : Cx} (K : PySem.W.Frag) {o e : Expr} {es : List Expr} {to : TE} {t : TA} {name : Str} {apos cpos : Pos} {T id : String} {r : V → List V → Hp → VK → Prop}
theorem pe_bmK (pa : PlainAttrs T) (slot : Slot T name id) (hty : typeOf (.builtin id) = pure (.type "method_descriptor")) (hm : MtR X id r) (ho : PE X o to) (ha : PA X (e :: es) t)
    (hbase : attributeBase o name X.env (eval o X.env) = eval o X.env := by rfl)
    (hfew : ((backTo cpos (starEach (e :: es) X.env)).all (fun x => !x.1) && (backToKw cpos (keywordEach [] X.env)).all (fun x => x.1.isSome)
      && decide ((e :: es).length + ([] : List Keyword).length + (if ([] : List Keyword).isEmpty then 0 else 1) < 30)) = true := by rfl)
    (hline : (apos.endLine == cpos.line) = true := by rfl) (hs : starEach (e :: es) X.env = (false, eval e X.env) :: starEach es X.env := by rfl) (hplain : (backTo cpos (starEach es X.env)).any (·.1) = false := by rfl) (h : X.K = K := by rfl) :
    PE X (.Call (.Attribute o name apos) (e :: es) [] cpos) (tBM K T r to t) := h ▸ pe_bm pa slot hty hm ho ha hbase hfew hline hs hplain
end
end L2

set_option Elab.async false
set_option linter.all false
namespace L2
open PySem PySem.Spec PyProof.Rows
end L2

set_option Elab.async false
set_option linter.all false
set_option maxRecDepth 100000
set_option maxHeartbeats 4000000
namespace L2
open PySem PySem.Spec PyProof.Rows PySem.W
theorem list_iterable {prog : Program} {w : World} {A : Around} {E : Value → Shared → Prop} {s : Shared} {l : Addr} {items : Array Value} {Q : Bool → Shared → Prop} (hl : s.heap.IsList l items) (q : Q false s) : wpAny (model prog w) A (notIterableAtAll (.ref l)) Q E s := by
  unfold notIterableAtAll
  exact wpAny_bind (wpAny_specialOf (T := "list") hl.typeIs F.slot_list_iter.lookup (wpAny_pure q))
theorem unpack_star {prog : Program} {w : World} {A : Around} {E : Value → Shared → Prop} {s : Shared} {l : Addr} {x : Value} {its : List Value} {Q : List Value → Shared → Prop} (hh : A.handled = none) (hl : s.heap.IsList l (x :: its).toArray) (hz : its.length + 1 ≤ sizeLine)
    (q : ∀ (h' : Heap) (tk : Nat), (∀ b o, s.heap.get? b = some o → h'.get? b = some o) →
      Q [x, .ref h'.objs.size] { s with heap := h'.push { cls := .type "list", data := .seq its.toArray }, toks := tk }) :
    wpAny (model prog w) A (unpackItems (.ref l) 2 (some 1)) Q E s := by
  have hlt : l < s.heap.objs.size := by
    obtain ⟨o, e, _⟩ := hl
    exact Heap.lt_size e
  unfold unpackItems
  refine wpAny_bind (list_iterable hl ?_)
  refine wpAny_bind (wpAny_holding (wpAny_pyIter_list hl ?_))
  have kp : ∀ b o, s.heap.get? b = some o → (s.heap.push { cls := Value.type "list_iterator", data := Data.fields #[Value.ref l, Value.int 0 0] }).get? b = some o := fun b o e => Heap.get?_push_of_some _ e
  have hne : l ≠ s.heap.objs.size := Nat.ne_of_lt hlt
  have hl1 : (s.heap.push { cls := Value.type "list_iterator", data := Data.fields #[Value.ref l, Value.int 0 0] }).IsList l (x :: its).toArray := by
    obtain ⟨o, e, r⟩ := hl
    exact ⟨o, kp _ _ e, r⟩
  have hi1 : (s.heap.push { cls := Value.type "list_iterator", data := Data.fields #[Value.ref l, Value.int 0 0] }).IsListIter s.heap.objs.size l 0 := ⟨_, Heap.get?_push_size _ rfl, rfl, rfl⟩
  refine wpAny_bind (wpAny_holding (kun_draw hne 1 0 _ _ hi1 hl1 (by simp) fun h2 hi2 sb2 => ?_))
  have hl2 : h2.IsList l (x :: its).toArray := by
    obtain ⟨o, e, r⟩ := hl1
    exact ⟨o, by rw [sb2.2 l hne]; exact e, r⟩
  have hsz2 : h2.objs.size = s.heap.objs.size + 1 := by rw [sb2.1, Heap.size_push]
  rw [if_neg (by simp)]
  show wpAny _ A (do
    let rest ← holding _ (collect _)
    _) _ _ _
  refine wpAny_bind (wpAny_holding (kun_collect (T := "list_iterator") (k := 1) (ax := l) (.inr (.inr (.inl rfl))) (Walks.list (A := A.in1) hh s.heap.objs.size l hne (x :: its).toArray) (fun i u ⟨⟨o, e, c, _⟩, _⟩ => ⟨o, e, c⟩) (by simp) ⟨hi2, hl2⟩ (by show _ < h2.objs.size; rw [hsz2]; exact Nat.lt_succ_self _) (by show _ < h2.objs.size; rw [hsz2]; exact Nat.lt_succ_of_lt hlt) (fun h3 tk k3 => ?_) (by simpa using hz)))
  have k13 : ∀ b o, s.heap.get? b = some o → h3.get? b = some o := fun b o e => k3 b o (Nat.ne_of_lt (Heap.lt_size e)) (by
    show h2.get? b = some o
    rw [sb2.2 b (Nat.ne_of_lt (Heap.lt_size e))]
    exact kp b o e)
  rw [if_neg (by simp)]
  refine wpAny_bind (wpAny_newList ?_ (by simp; omega))
  refine wpAny_pure ?_
  have e := q h3 tk k13
  simpa using e
def gStar (K : PySem.W.Frag) (t : TGs) : TG := fun v σ H Q => ∃ a x xs, v = .ref a ∧ SqL K H a (x :: xs) ∧ ∀ p, H p = none → t [x, .ref p] σ (upd H p (.lst xs)) Q
theorem pg_star {X : Cx} {e1 e2 : Expr} {k : Nat} {t : TGs} {pos p2 : Pos} (hc : X.calm = true) (h : PGs X [e1, e2] t)
    (h1 : assignEach [e1, .Starred e2 p2] X.env = [(false, assign e1 X.env), (true, assign e2 X.env)] := by rfl)
    (h2 : (assignEach [e1, e2] X.env).map (·.2) = [assign e1 X.env, assign e2 X.env] := by rfl) : PG X (.Tuple [e1, .Starred e2 p2] k pos) (gStar X.K t) := by
  intro pins s σ H v u Q I r hw
  obtain ⟨a, x, xs, e0, hq, hw⟩ := hw
  subst e0
  cases r
  obtain ⟨its, rv, pl, hz⟩ := I.list hq
  cases rv with
  | cons rx rxs =>
    rename_i ux its
    have hlen := rxs.length
    rw [arm_assign_Tuple]
    refine wpAny_bind (wpAny_standAt ?_)
    unfold unpack
    rw [h1]
    refine wpAny_bind (wpAny_holding ?_)
    show wpAny _ _ (unpackItems _ 2 (some 1)) _ _ _
    refine unpack_star (I.ok.hd hc) pl.isList (by rw [List.length_cons] at hz; omega) fun h' tk kp => ?_
    have I1 : Inv X pins σ H { s with heap := h', toks := tk } := I.kept (t' := tk) kp
    have I2 : Inv X pins σ (upd H h'.objs.size (.lst xs)) { s with heap := h'.push { cls := .type "list", data := .seq its.toArray }, toks := tk } :=
      I1.laid (t' := tk) (fun b o e => Heap.get?_push_of_some _ e) (Nat.le_refl _) (show ObjOk X.prog X.w _ _ _ (.lst xs) from ⟨by rw [List.length_cons] at hz; omega, its, 0, rxs, Heap.get?_push_size _ rfl⟩)
    have e := h pins _ σ _ _ [ux, .ref h'.objs.size] Q I2 (.cons rx (.cons (show RelV (.ref _) (.ref _) from rfl) .nil)) (hw _ (I1.hok.fresh (Nat.le_refl _)))
    rw [h2] at e
    exact e
def rInsert : V → List V → Hp → VK → Prop := fun x vs H Q => ∃ l xs i y, x = .ref l ∧ vs = [.int i, y] ∧ H l = some (.lst xs) ∧ 0 ≤ i ∧ i ≤ xs.length ∧ xs.length < sizeLine ∧ Q .non (upd H l (.lst (xs.take i.toNat ++ y :: xs.drop i.toNat)))
theorem mt_insert {X : Cx} : MtM X "list.insert" rInsert := by
  intro pins s σ H x vs v us Q I rx rv h
  obtain ⟨l, xs, i, y, rfl, rfl, hH, h1, h2, h3, q⟩ := h
  cases rx
  cases rv with
  | cons ri rv =>
    obtain ⟨u, rfl, ru⟩ := vals1 rv
    obtain ⟨t, rfl⟩ := ri
    obtain ⟨z, its, n, r, hl, e⟩ := I.lstM hH
    have hsl : sizeLine < 2 ^ 63 := by decide
    refine call_meets F.slot_list_insert ⟨_, e, rfl⟩ F.entry_list_insert (F.args_list_insert_3 _ _ _)
      (AutoListH.list_insert_list_int_val_1 l its.toArray n i t u (by rw [fitsIndex_both (by omega) (by omega)]; decide) (by rw [List.size_toArray]; omega)) ⟨e, ?_⟩
    refine ⟨.non, _, I.lset (its' := its.take i.toNat ++ u :: its.drop i.toNat) hH e ?_ ?_ ?_, rfl, q⟩
    · show ((its.toArray.extract 0 (if i < 0 then (i + ↑its.toArray.size).toNat else min i.toNat its.toArray.size)).push u ++ its.toArray.extract (if i < 0 then (i + ↑its.toArray.size).toNat else min i.toNat its.toArray.size)) = _
      rw [if_neg (by omega), List.size_toArray, Nat.min_eq_left (by omega)]
      simp [List.extract_eq_drop_take]
      rw [List.take_of_length_le (by rw [List.length_drop]; omega)]
    · exact (r.take _).append (.cons ru (r.drop _))
    · rw [List.length_append, List.length_cons, List.length_take, List.length_drop]
      omega
theorem setOk_new {P : Program} {w : World} {H : Hp} {h : Heap} {a : Addr} {led : Bool} (e : h.get? a = some { cls := .type "set", data := .set #[] 0 (SetTable.fresh 0 0 led) }) : ObjOk P w H h a (.set (fun _ => false) 0) := by
  obtain ⟨x, es, ep, t, hd, h1, h2, h3, h4⟩ := intSetOf_fresh led P w
  cases hd
  exact ⟨_, _, _, _, e, x, rfl, h1, h2, by decide, h4, h3⟩
theorem call_set0 {X : Cx} : CallR X (.type "set") (fun xs H Q => xs = [] ∧ ∀ p, H p = none → Q (.ref p) (upd H p (.set (fun _ => false) 0))) := by
  intro pins s σ H xs us Q I r h
  obtain ⟨rfl, q⟩ := h
  cases r
  refine call_set_0 fun led => ?_
  exact ⟨.ref s.heap.objs.size, _, I.laid (t' := s.toks) (fun b o e => Heap.get?_push_of_some _ e) (Nat.le_refl _) (setOk_new (Heap.get?_push_size _ rfl)), rfl, q _ (I.hok.fresh (Nat.le_refl _))⟩
def rSAdd : V → List V → Hp → VK → Prop := fun x vs H Q => ∃ a i S n, x = .ref a ∧ vs = [.int i] ∧ H a = some (.set S n) ∧ n + 1 < scanBound ∧ Q .non (upd H a (.set (fun k => S k || decide (k = i)) (if S i = true then n else n + 1)))
theorem mt_add {X : Cx} : MtM X "set.add" rSAdd := by
  intro pins s σ H x vs v us Q I rx rv h
  obtain ⟨a, i, S, n, rfl, rfl, hH, hn, q⟩ := h
  cases rx
  obtain ⟨u, rfl, ru⟩ := vals1 rv
  obtain ⟨t, rfl⟩ := ru
  have hs : s.heap.SetOf (intKind X.prog X.w) a S n := I.hok a _ hH
  refine call_set_add (knd := intKind X.prog X.w) (k := i) (by show Value.isInt i (.int i t) = true; simp [Value.isInt]) rfl hs hn fun h' sb so => ?_
  have so' := so
  obtain ⟨o, _, _, _, e, _⟩ := so'
  exact ⟨.non, _, I.write (x := a) (e := a) (t' := s.toks + 1) (by rw [hH]; exact trivial) (.inl rfl) (fun b u hb hu => by rw [sb.2 b hb]; exact hu) ⟨_, e⟩ (show ObjOk X.prog X.w _ h' a (.set _ _) from so), rfl, q⟩
def rInS (neg : Bool) : R2 := fun x y H Q => ∃ a i S n, x = .int i ∧ y = .ref a ∧ H a = some (.set S n) ∧ Q (.bl (S i ^^ neg)) H
theorem op_in_set {X : Cx} : OpR X (compareOp .In) (rInS false) := by
  intro pins s σ H x y v u Q I rx ry h
  obtain ⟨a, i, S, n, rfl, rfl, hH, q⟩ := h
  cases ry
  obtain ⟨t, rfl⟩ := rx
  have hs : s.heap.SetOf (intKind X.prog X.w) a S n := I.hok a _ hH
  rw [Bool.xor_false] at q
  exact wpAny_inSet_of (knd := intKind X.prog X.w) (k := i) (by show Value.isInt i (.int i t) = true; simp [Value.isInt]) rfl hs ⟨.bl _, H, I.tok _, rfl, q⟩
theorem pe_notV {X : Cx} {a : Expr} {pos : Pos} {ta : TE} (ha : PE X a ta) : PE X (.UnaryOp .Not a pos) (fun σ H Q => ta σ H fun x H1 => ∃ k, TruV X.K x H1 k ∧ Q (.bl (!k)) H1) := by
  intro pins s σ H Q I h
  refine UnaryOp_ (thn (ha pins s σ H _ I h) fun v s1 ⟨x, H1, I1, r1, q1⟩ => ?_)
  obtain ⟨k, hk, q1⟩ := q1
  exact not_of (thn (tru_ok pins s1 σ H1 x v (fun c H => Q (.bl (!c)) H) I1 r1 ⟨k, hk, q1⟩) fun c s2 ⟨H2, I2, q2⟩ => ⟨.bl (!c), H2, I2, rfl, q2⟩)
end L2

set_option Elab.async false
set_option linter.all false
set_option maxRecDepth 100000
set_option maxHeartbeats 4000000
namespace L2
open PySem PySem.Spec PyProof.Rows PySem.W
theorem split_dlen : splitId "dict.__len__" = some ("dict", "__len__") := by kernel_rfl
theorem sub_dict : isSubtype (.type "dict") (.type "dict") = pure true := by kernel_rfl
theorem hint_dict {prog : Program} {w : World} {A : Around} {E : Value → Shared → Prop} {s : Shared} {e : Addr} {Q : Bool → Shared → Prop} (hT : s.TypeIs (.ref e) "dict") (h : Q false s) : wpAny (model prog w) A (Builtin.List.listLengthHint (.ref e)) Q E s := by
  unfold Builtin.List.listLengthHint
  refine wpAny_bind (wpAny_specialOf hT F.slot_dict_len.lookup ?_)
  simp only [split_dlen]
  have hs := sub_dict
  unfold isInstance
  wp_walk using wpAny_typeOf hT
  exact h
section
variable {X : Cx} {pins : List (Addr × Obj)} {σ : St} {H : Hp} {A : Around} {R : Result → Shared → Prop} {S d it : Addr} {kvs : List (Key × V)} {res : Value} {o : Obj} {es : Array DictEntry} {ep : Nat}
theorem lk_loop (hh : A.handled = none) (hSi : S ≠ it) (hd : H d = some (.frz o (.dK kvs))) (hod : o.data = .dict es ep) (hz : kvs.length < sizeLine) (hpi : ∀ p ∈ pins, p.1 ≠ it) (hpS : ∀ p ∈ pins, p.1 ≠ S)
    (hR : ∀ s' acc c, Inv X (pins ++ [(S, seqObj "list" acc c)]) σ H s' → Vals (kvs.map fun p => kV p.1) acc.toList → R (.ok (.ret res)) s') :
    ∀ (m i : Nat) (s : Shared) (acc : Array Value) (c : Nat), i + m = kvs.length → Inv X (pins ++ [(S, seqObj "list" acc c)]) σ H s → s.heap.IsKeyIter it d i kvs.length ep → Vals ((kvs.take i).map fun p => kV p.1) acc.toList →
      FpOk X [] H it → FpOk X [] H S → codeAny (model X.prog X.w) A (.builtin "list.extend.loop" ⟨[.ref S, .ref it, res], []⟩) R s := by
  intro m
  induction m with
  | zero =>
    intro i s acc c him I hit hv fi fS
    have hi : i = kvs.length := by omega
    obtain ⟨hs, hgd, hx, es', ep', vs, hdt, hsz, kv, hm⟩ := I.frzK hd
    obtain ⟨rfl, rfl⟩ := dict_ep hod hdt
    refine codeAny_builtin F.entry_extend_loop ?_
    rw [Around.under_plainId F.plain_extend_loop _]
    show wpAny _ A.in1 (pyNext (.ref it) >>= _) _ _ s
    refine wpAny_bind (next_key_end hh hit hgd hdt hsz (by omega) fun h' eb => ?_)
    have fi' : FpOk X (pins ++ [(S, seqObj "list" acc c)]) H it := fi.repin fun p hp => by
      rcases List.mem_append.mp hp with hp | hp
      · exact hpi p hp
      · obtain rfl := List.mem_singleton.mp hp
        exact hSi
    obtain ⟨f0, f1, f2, f3, f4, f5⟩ := fi'
    have I2 : Inv X (pins ++ [(S, seqObj "list" acc c)]) σ H { s with heap := h' } := I.turned (t' := s.toks) (fun b o hb q => eb b o hb q) f0 f1 f3 f4 f5
    rw [hi, List.take_length] at hv
    exact wpAny_pure (hR _ acc c I2 hv)
  | succ m ih =>
    intro i s acc c him I hit hv fi fS
    have hi : i < kvs.length := by omega
    obtain ⟨hs, hgd, hx, es', ep', vs, hdt, hsz, kv, hm⟩ := I.frzK hd
    obtain ⟨rfl, rfl⟩ := dict_ep hod hdt
    obtain ⟨⟨k, v⟩, hkv⟩ : ∃ p, kvs[i]? = some p := ⟨kvs[i], List.getElem?_eq_getElem hi⟩
    obtain ⟨u, hu, ru⟩ := kv_get kv hkv
    have hl : kvs.length = vs.length := Paired.length kv
    refine codeAny_builtin F.entry_extend_loop ?_
    rw [Around.under_plainId F.plain_extend_loop _]
    show wpAny _ A.in1 (pyNext (.ref it) >>= _) _ _ s
    have fi' : FpOk X (pins ++ [(S, seqObj "list" acc c)]) H it := fi.repin fun p hp => by
      rcases List.mem_append.mp hp with hp | hp
      · exact hpi p hp
      · obtain rfl := List.mem_singleton.mp hp
        exact hSi
    obtain ⟨f0, f1, f2, f3, f4, f5⟩ := fi'
    refine wpAny_bind (wpAny_pyNext_dict_item (by rw [← hl]; exact hit) hm hu fun key h' hkey st' sb => ?_)
    have I1 : Inv X (pins ++ [(S, seqObj "list" acc c)]) σ H { s with heap := h' } := I.turned (t' := s.toks) (fun b ob hb e => (sb.2 b hb).trans e) f0 f1 f3 f4 f5
    have gS := (I1.pin (S, seqObj "list" acc c) (by simp)).1
    have hacc : acc.size = i := by
      have e9 : ((kvs.take i).map fun p => kV p.1).length = acc.toList.length := hv.length
      simp only [List.length_map, Array.length_toList, List.length_take] at e9
      omega
    show wpAny _ A.in1 (updateSeq S (·.push key) >>= _) _ _ _
    refine wpAny_bind (wpAny_updateSeq gS rfl ?_ (by rw [hacc]; omega) (by show (acc.push _).size ≤ sizeLine + 1; rw [Array.size_push, hacc]; omega))
    have u1 := Heap.SameBut.update h' S (Obj.mapSeq (·.push key))
    obtain ⟨c2, hc2⟩ : ∃ c2, (h'.update S (Obj.mapSeq (·.push key))).get? S = some (seqObj "list" (acc.push key) c2) := ⟨_, get?_update_seq gS (·.push key)⟩
    have I2 : Inv X (pins ++ [(S, seqObj "list" (acc.push key) c2)]) σ H { s with heap := h'.update S (Obj.mapSeq (·.push key)) } :=
      I1.chpin (s := { s with heap := h' }) (t' := s.toks) fS u1 fun p hp => by
        rcases List.mem_append.mp hp with hp | hp
        · exact .inl ⟨List.mem_append_left _ hp, hpS p hp⟩
        · obtain rfl := List.mem_singleton.mp hp
          exact .inr ⟨rfl, hc2, fun v z => nomatch z⟩
    refine wpAny_pure ⟨plainId_quiet F.plain_extend_loop _, ih (i + 1) _ (acc.push key) c2 (by omega) I2 ?_ ?_ fi fS⟩
    · rw [hl]
      exact st'.at fun o q => (u1.2 it (Ne.symm hSi)).trans q
    · have e1 : (acc.push key).toList = acc.toList ++ [key] := by simp
      rw [e1, List.take_succ, hkv, List.map_append]
      exact hv.append (.cons (relV_key (show keyIs k key = true from hkey)) .nil)
end
def rListK : List V → Hp → VK → Prop := fun xs H Q => ∃ (d : Addr) (kvs : List (Key × V)), xs = [.ref d] ∧ H d = some (.dK kvs) ∧ kvs.length < sizeLine ∧ ∀ l, H l = none → Q (.ref l) (upd H l (.lst (kvs.map fun p => kV p.1)))
theorem call_listK {X : Cx} (hc : X.calm = true) : CallR X (.type "list") rListK := by
  intro pins s σ H0 xs us Q I0 r h
  obtain ⟨d, kvs, rfl, hd0, hz, q⟩ := h
  obtain ⟨u, rfl, ru⟩ := vals1 r
  cases ru
  have mu : Mut (some (HO.dK kvs)) := trivial
  have nofz := I0.nofrz hd0 mu
  obtain ⟨o, I⟩ := I0.lock hd0 mu
  have hd : (upd H0 d (.frz o (.dK kvs))) d = some (.frz o (.dK kvs)) := upd_same
  generalize hH : upd H0 d (.frz o (.dK kvs)) = H at I hd
  obtain ⟨hs, hgd, hx, es, ep, vs, hdt, hsz, kv, hm⟩ := I.frzK hd
  refine callType_codes (Q₁ := fun obj s₁ => obj = .ref s.heap.objs.size ∧ s₁ = { s with heap := s.heap.push { cls := .type "list", data := .seq #[] } }) PySem.F.called_list (PySem.F.typeCall_list_1 _) PySem.F.entry_list_init
    (code_list_new _ ⟨rfl, rfl⟩) fun obj s₁ h₁ => ?_
  obtain ⟨rfl, rfl⟩ := h₁
  generalize hSd : s.heap.objs.size = S
  have hSlt : ∀ {b o}, s.heap.get? b = some o → b ≠ S := fun {b o} q => by rw [← hSd]; exact Nat.ne_of_lt (Heap.lt_size q)
  have hSdd : S ≠ d := fun z => hSlt hgd z.symm
  have hS0 : (s.heap.push { cls := .type "list", data := .seq #[] }).get? S = some { cls := .type "list", data := .seq #[] } := by rw [← hSd]; exact Heap.get?_push_size _ rfl
  have fS : FpOk X pins H S := I.fpOk (Nat.le_of_eq hSd) (I.hok.fresh (Nat.le_of_eq hSd))
  have hpS : ∀ p ∈ pins, p.1 ≠ S := fun p hp => fS.2.2.2.2.2 p (List.mem_append_right _ hp)
  have I1 : Inv X (pins ++ [(S, seqObj "list" #[] 0)]) σ H { s with heap := s.heap.push { cls := .type "list", data := .seq #[] } } := I.newpin (t' := s.toks) (fun b o q => Heap.get?_push_of_some _ q) fun p hp => by
    rcases List.mem_append.mp hp with hp | hp
    · exact .inl hp
    · obtain rfl := List.mem_singleton.mp hp
      exact .inr ⟨Nat.le_of_eq hSd, hS0, fun v z => nomatch z⟩
  refine ⟨⟨_, hS0, rfl⟩, PySem.F.args_list_init_2 _ _, ?_⟩
  show wpAny _ _ (do let old ← Builtin.List.listItems (.ref S); Builtin.List.listUpdate (.ref S) (fun _ => #[]); letGo old.toList.reverse; Builtin.List.listExtendWith (.ref S) (.ref d) .none) _ _ _
  refine wpAny_bind (listItems_at (s := { s with heap := s.heap.push { cls := .type "list", data := .seq #[] } }) hS0 rfl ?_)
  refine wpAny_bind (listUpdate_at (s := { s with heap := s.heap.push { cls := .type "list", data := .seq #[] } }) hS0 rfl ?_ (Nat.zero_le _) (Nat.zero_le _))
  have u1 := Heap.SameBut.update (s.heap.push { cls := .type "list", data := .seq #[] }) S (Obj.mapSeq fun _ => (#[] : Array Value))
  obtain ⟨c1, hc1⟩ : ∃ c1, ((s.heap.push { cls := .type "list", data := .seq #[] }).update S (Obj.mapSeq fun _ => (#[] : Array Value))).get? S = some (seqObj "list" #[] c1) := ⟨_, get?_update_seq hS0 fun _ => #[]⟩
  refine wpAny_bind (wpAny_letGo ?_)
  have I2 : Inv X (pins ++ [(S, seqObj "list" #[] c1)]) σ H { s with heap := (s.heap.push { cls := .type "list", data := .seq #[] }).update S (Obj.mapSeq fun _ => (#[] : Array Value)) } := I1.chpin (s := { s with heap := s.heap.push { cls := .type "list", data := .seq #[] } }) (t' := s.toks) (fS.repin fun p hp => absurd hp (by simp)) u1 fun p hp => by
    rcases List.mem_append.mp hp with hp | hp
    · exact .inl ⟨List.mem_append_left _ hp, hpS p hp⟩
    · obtain rfl := List.mem_singleton.mp hp
      exact .inr ⟨rfl, hc1, fun v z => nomatch z⟩
  generalize (s.heap.push { cls := .type "list", data := .seq #[] }).update S (Obj.mapSeq fun _ => (#[] : Array Value)) = h2 at I2 hc1
  obtain ⟨hs2, hgd2, hx2, _⟩ := I2.frzK hd
  have hT2 : ({ s with heap := h2 } : Shared).TypeIs (.ref d) "dict" := ⟨_, hgd2, hx2.1⟩
  unfold Builtin.List.listExtendWith
  refine wpAny_bind (wpAny_typeOf (T := "dict") hT2 ?_)
  have h1 : Builtin.List.listSameRef (.ref S) (.ref d) = false := by simp [Builtin.List.listSameRef, hSdd]
  have h3 : (Value.type "dict" == Value.type "list") = false := by decide
  have h4 : (Value.type "dict" == Value.type "tuple") = false := by decide
  simp only [h1, h3, h4, Bool.or_false, Bool.false_eq_true, if_false]
  refine wpAny_bind (iter_keys (s := { s with heap := h2 }) hs2 hgd2 hx2 hdt ?_)
  have hTl : ({ s with heap := h2.push { cls := .type "dict_keyiterator", data := .fields #[.ref d, .int 0 0, .int es.size 0, .int ep 0] } } : Shared).TypeIs (.ref d) "dict" := ⟨_, Heap.get?_push_of_some _ hgd2, hx2.1⟩
  refine wpAny_bind (wpAny_holding (hint_dict hTl ?_))
  have hit : (h2.push { cls := .type "dict_keyiterator", data := .fields #[.ref d, .int 0 0, .int es.size 0, .int ep 0] }).IsKeyIter h2.objs.size d 0 kvs.length ep := ⟨_, Heap.get?_push_size _ rfl, rfl, by rw [hsz]; rfl⟩
  have fi : FpOk X (pins ++ [(S, seqObj "list" #[] c1)]) H h2.objs.size := I2.fpOk (Nat.le_refl _) (I2.hok.fresh (Nat.le_refl _))
  have hSi : S ≠ h2.objs.size := Nat.ne_of_lt (Heap.lt_size hc1)
  have hpi : ∀ p ∈ pins, p.1 ≠ h2.objs.size := fun p hp => fi.2.2.2.2.2 p (List.mem_append_right _ (List.mem_append_left _ hp))
  have I3 : Inv X (pins ++ [(S, seqObj "list" #[] c1)]) σ H { s with heap := h2.push { cls := .type "dict_keyiterator", data := .fields #[.ref d, .int 0 0, .int es.size 0, .int ep 0] } } := I2.kept (t' := s.toks) fun b o q => Heap.get?_push_of_some _ q
  refine wpAny_ite_split (fun _ => ?_) (fun hab => absurd (by decide) hab)
  refine wpAny_bind (wpAny_rule ?_)
  refine wpAny_bind ?_
  generalize h2.push { cls := .type "dict_keyiterator", data := .fields #[.ref d, .int 0 0, .int es.size 0, .int ep 0] } = h3 at I3 hit
  have hc2 := (I3.pin (S, seqObj "list" #[] c1) (by simp)).1
  show wpAny _ _ (updateSeq S (·.push .none) >>= fun _ => updateSeq S (·.pop)) _ _ _
  refine wpAny_bind (wpAny_updateSeq (s := { s with heap := h3 }) hc2 rfl ?_)
  have u3 := Heap.SameBut.update h3 S (Obj.mapSeq (·.push Value.none))
  obtain ⟨c3, hc3⟩ : ∃ c3, (h3.update S (Obj.mapSeq (·.push Value.none))).get? S = some (seqObj "list" (#[].push Value.none) c3) := ⟨_, get?_update_seq hc2 (·.push Value.none)⟩
  refine wpAny_updateSeq (s := { s with heap := h3.update S (Obj.mapSeq (·.push Value.none)) }) (hz := by seq_fits) hc3 rfl ?_
  have u4 := Heap.SameBut.update (h3.update S (Obj.mapSeq (·.push Value.none))) S (Obj.mapSeq (·.pop))
  obtain ⟨c4, hc4⟩ : ∃ c4, ((h3.update S (Obj.mapSeq (·.push Value.none))).update S (Obj.mapSeq (·.pop))).get? S = some (seqObj "list" #[] c4) := ⟨_, get?_update_seq hc3 (·.pop)⟩
  have u34 : Heap.SameBut S h3 ((h3.update S (Obj.mapSeq (·.push Value.none))).update S (Obj.mapSeq (·.pop))) := ⟨u4.1.trans u3.1, fun b hb => (u4.2 b hb).trans (u3.2 b hb)⟩
  have I4 : Inv X (pins ++ [(S, seqObj "list" #[] c4)]) σ H { s with heap := (h3.update S (Obj.mapSeq (·.push Value.none))).update S (Obj.mapSeq (·.pop)) } := I3.chpin (s := { s with heap := h3 }) (t' := s.toks) (fS.repin fun p hp => absurd hp (by simp)) u34 fun p hp => by
    rcases List.mem_append.mp hp with hp | hp
    · exact .inl ⟨List.mem_append_left _ hp, hpS p hp⟩
    · obtain rfl := List.mem_singleton.mp hp
      exact .inr ⟨rfl, hc4, fun v z => nomatch z⟩
  have hit4 : ((h3.update S (Obj.mapSeq (·.push Value.none))).update S (Obj.mapSeq (·.pop))).IsKeyIter h2.objs.size d 0 kvs.length ep := hit.at fun o q => (u34.2 _ (Ne.symm hSi)).trans q
  refine wpAny_pure ⟨plainId_quiet F.plain_extend_loop _, ?_⟩
  refine lk_loop (A := X.A.in1) (X := X) (H := H) (d := d) (kvs := kvs) (pins := pins) (σ := σ) (I.ok.hd hc) hSi hd hdt hz hpi hpS (fun s' acc c I' hv => ?_) kvs.length 0 _ #[] c4 (by omega) I4 hit4 .nil (fi.repin fun p hp => absurd hp (by simp)) (fS.repin fun p hp => absurd hp (by simp))
  have g := (I'.pin (S, seqObj "list" acc c) (by simp)).1
  have I6 : Inv X pins σ H s' := I'.unpinned
  have I7 : Inv X pins σ (upd H S (.lst (kvs.map fun p => kV p.1))) s' := I6.adopt fS ⟨by rw [List.length_map]; exact Nat.le_of_lt hz, acc.toList, c, hv, by simpa using g⟩
  have e9 : (upd H S (.lst (kvs.map fun p => kV p.1))) d = some (.frz o (.dK kvs)) := by rw [upd_ne (Ne.symm hSdd)]; exact hd
  have I8 := I7.unlock e9 nofz
  have hHS : H0 S = none := by
    have := fS.1
    rw [← hH, upd_ne hSdd] at this
    exact this
  have e10 : upd (upd H S (.lst (kvs.map fun p => kV p.1))) d (.dK kvs) = upd H0 S (.lst (kvs.map fun p => kV p.1)) := by
    rw [← hH]
    funext b
    by_cases hb : b = d
    · rw [hb, upd_same, upd_ne (Ne.symm hSdd), hd0]
    · rw [upd_ne hb]
      by_cases hb2 : b = S
      · rw [hb2, upd_same, upd_same]
      · rw [upd_ne hb2, upd_ne hb2, upd_ne hb]
  rw [e10] at I8
  exact ⟨rfl, ⟨.ref S, _, I8, rfl, q S hHS⟩⟩
end L2

set_option Elab.async false
set_option linter.all false
set_option maxRecDepth 100000
set_option maxHeartbeats 4000000
namespace L2
open PySem PySem.Spec PyProof.Rows PySem.W
def gFld (K : PySem.W.Frag) (ta : TE) (f : Str) : TG := fun v σ H Q => ta σ H fun x H1 => ∃ a C dx fs, x = .ref a ∧ H1 a = some (.ins C dx fs) ∧ Cls K C ∧ NoAttr K C f ∧ fs.length < 1000 ∧ Q σ (upd H1 a (.ins C dx (putF f v fs)))
theorem pg_fld {X : Cx} {o : Expr} {f : Str} {pos : Pos} {ta : TE} (ha : PE X o ta) : PG X (.Attribute o f pos) (gFld X.K ta f) := by
  intro pins s σ H v u Q I r h
  rw [arm_assign_Attribute]
  refine wpAny_bind (wpAny_holding (thn (ha pins s σ H _ I h) fun ov s1 ⟨x, H1, I1, rx, a, C, dx, fs, ex, ea, c, n, l, q⟩ => ?_))
  subst ex
  cases rx
  refine wpAny_bind (wpAny_standAt (wpAny_bind (wpAny_holding (setattr_ok I1 ea c n l r fun s' I' => ?_))))
  exact wpAny_release ⟨σ, _, I', q⟩
theorem op_isB {X : Cx} : OpR X (compareOp .Is) (fun x y H Q => ∃ b c, x = .bl b ∧ y = .bl c ∧ Q (.bl (b == c)) H) := by
  intro pins s σ H x y v u Q I rx ry h
  obtain ⟨b, c, rfl, rfl, q⟩ := h
  cases rx
  cases ry
  exact is_bool (fin_bl I q rfl)
section
variable {X : Cx}
theorem call_listKK (K : PySem.W.Frag) (hc : X.calm = true) : CallR X (.type "list") rListK := call_listK hc
theorem op_in_seqK (K : PySem.W.Frag) (h : X.K = K := by rfl) : OpR X (compareOp .In) (rIn K false) := by subst h; exact op_in_seq
theorem op_notIn_seqK (K : PySem.W.Frag) (h : X.K = K := by rfl) : OpR X (compareOp .NotIn) (rIn K true) := by subst h; exact op_notIn_seq
theorem cr_sortedK (K : PySem.W.Frag) (h : X.K = K := by rfl) : CallR X (.builtin "sorted") (rSorted K) := by subst h; exact cr_sorted
theorem cr_allK (K : PySem.W.Frag) (hc : X.calm = true) (h : X.K = K := by rfl) : CallR X (.builtin "all") (rAll K) := by subst h; exact cr_all hc
theorem pg_starK (K : PySem.W.Frag) {e1 e2 : Expr} {k : Nat} {t : TGs} {pos p2 : Pos} (hc : X.calm = true) (h : PGs X [e1, e2] t) (h1 : assignEach [e1, .Starred e2 p2] X.env = [(false, assign e1 X.env), (true, assign e2 X.env)] := by rfl)
    (h2 : (assignEach [e1, e2] X.env).map (·.2) = [assign e1 X.env, assign e2 X.env] := by rfl) (hK : X.K = K := by rfl) : PG X (.Tuple [e1, .Starred e2 p2] k pos) (gStar K t) := by subst hK; exact pg_star hc h h1 h2
theorem pg_fldK (K : PySem.W.Frag) {o : Expr} {f : Str} {pos : Pos} {ta : TE} (ha : PE X o ta) (hK : X.K = K := by rfl) : PG X (.Attribute o f pos) (gFld K ta f) := by subst hK; exact pg_fld ha
end
end L2
namespace L2
open PySem
theorem Room.unit1 {k : Nat} {A : Around} (r : Room k A) : A.units + 1 < cLine := by
  have := r.un
  omega
end L2

set_option Elab.async false
set_option linter.all false
set_option maxRecDepth 100000
set_option maxHeartbeats 4000000
namespace L2
open PySem PySem.Spec PyProof.Rows PySem.W
def tPar3 (i j l : Nat) (ta : TA) : TS := fun D σ H => ta σ H fun vs H1 => ∃ v w u, vs = [v, w, u] ∧ D.nx (((σ.set i (some v)).set j (some w)).set l (some u)) H1
theorem ps_par3 {X : Cx} {pos : Pos} {i j l : Nat} {x y z : Str} {a b c : Expr} {ta : TA} {px py pz pt : Pos} {kt k2 pt2} (hc : X.calm = true) (hN : X.N.Nodup) (hi : X.N[i]? = some x) (hj : X.N[j]? = some y) (hl : X.N[l]? = some z) (hij : i ≠ j) (hil : i ≠ l) (hjl : j ≠ l)
    (hx : X.env.scope.names.lookup x = some .local) (hy : X.env.scope.names.lookup y = some .local) (hz : X.env.scope.names.lookup z = some .local) (ha : PA X [a, b, c] ta)
    (hw : swappedStores [.Tuple [.Name x px, .Name y py, .Name z pz] kt pt] (.Tuple [a, b, c] k2 pt2) X.env = pure (some [x, y, z]))
    (hs : swapsWithSole [.Tuple [.Name x px, .Name y py, .Name z pz] kt pt] (.Tuple [a, b, c] k2 pt2) pos.line X.env = pure false := by rfl) :
    PS X (.Assign [.Tuple [.Name x px, .Name y py, .Name z pz] kt pt] (.Tuple [a, b, c] k2 pt2) pos) (tPar3 i j l ta) := by
  intro pins s σ H D I h
  rw [exec_Assign_arm]
  refine wpAny_bind (wpAny_standAt ?_)
  rw [hs]
  refine wpAny_bind (wpAny_pure ?_)
  rw [if_neg (by decide)]
  refine wpAny_bind (Tuple_ (thn (ha _ pins s σ H _ I h) fun us s1 ⟨vs, H1, I1, r1, q1⟩ => ?_))
  obtain ⟨v, w, o, e1, q1⟩ := q1
  subst e1
  obtain ⟨u1, u2, u3, rfl, rv, rw', ro⟩ : ∃ u1 u2 u3, us = [u1, u2, u3] ∧ RelV v u1 ∧ RelV w u2 ∧ RelV o u3 := by
    cases r1 with
    | cons p q =>
      cases q with
      | cons p' q' =>
        cases q' with
        | cons p'' q'' =>
          cases q''
          exact ⟨_, _, _, rfl, p, p', p''⟩
  refine wpAny_newObj_type ?_ (by show 3 ≤ sizeLine; decide)
  have I2 : Inv X pins σ H1 { s1 with heap := s1.heap.push { cls := .type "tuple", data := .seq [u1, u2, u3].toArray } } := I1.kept (t' := s1.toks) fun b o e => Heap.get?_push_of_some _ e
  rw [hw]
  refine wpAny_bind (wpAny_pure ?_)
  show wpAny (model X.prog X.w) X.A (do rule "assign.swapped-stores"; let items ← unpackItems (.ref s1.heap.objs.size) 3 none; assignInOrder [fun v => bindName X.env z v, fun v => bindName X.env y v, fun v => bindName X.env x v] items.reverse; pure Flow.next) _ _ _
  refine wpAny_bind (wpAny_rule (wpAny_bind (unpackItems_tuple (items := #[u1, u2, u3]) (I.ok.hd hc) (IsTup.new s1.heap _) fun h' hx' => ?_)))
  have I3 := I2.kept (h' := h') (t' := s1.toks) fun b o e => hx' b o (Nat.ne_of_lt (Heap.lt_size e)) e
  show wpAny _ _ (assignInOrder [fun v => bindName X.env z v, fun v => bindName X.env y v, fun v => bindName X.env x v] [u3, u2, u1] >>= fun _ => pure Flow.next) _ _ _
  refine wpAny_bind (assignInOrder_cons (wpAny_bindName (store_ok I3 hN hl (.inl hz) ro (fun s2 I4 => ?_) (.inr hz))))
  refine assignInOrder_cons (wpAny_bindName (store_ok I4 hN hj (.inl hy) rw' (fun s3 I5 => ?_) (.inr hy)))
  refine assignInOrder_cons (wpAny_bindName (store_ok I5 hN hi (.inl hx) rv (fun s4 I6 => assignInOrder_nil (wpAny_pure ?_)) (.inr hx)))
  rw [List.set_comm _ _ (Ne.symm hij), List.set_comm _ _ (Ne.symm hil), List.set_comm _ _ (Ne.symm hjl)] at I6
  exact ⟨_, H1, I6, q1⟩
end L2

set_option Elab.async false
set_option linter.all false
set_option maxRecDepth 100000
set_option maxHeartbeats 4000000
namespace Toy
open PySem L2
def top (i : Nat) : Stmt := PySem.Challenge.pw_callchain_k10_whole_phones.main.body.getD i (.Pass ⟨0, 0, 0, 0⟩)
abbrev s_is_number : Stmt := top 7
abbrev s_is_person : Stmt := top 8
abbrev s_is_orders : Stmt := top 9
abbrev s_nobody_is_called_twice : Stmt := top 10
abbrev s_all_are_come_to : Stmt := top 11
abbrev s_is_absent : Stmt := top 12
abbrev s_copied : Stmt := top 13
abbrev s_take_orders : Stmt := top 14
abbrev s_take_absent : Stmt := top 15
abbrev s_take_person : Stmt := top 16
abbrev s_first_rows : Stmt := top 17
abbrev s_callers : Stmt := top 18
abbrev s_next_round : Stmt := top 19
abbrev s_law_number : Stmt := top 23
abbrev s_law_ups : Stmt := top 24
abbrev s_law_orders : Stmt := top 25
abbrev s_law_turn : Stmt := top 26
abbrev s_law_told : Stmt := top 27
abbrev s_law_two_right : Stmt := top 28
abbrev s_law : Stmt := top 29
abbrev s_Phones_init : Stmt := inClass (top 21) 0
abbrev s_Phones_pass_round : Stmt := inClass (top 21) 1
abbrev s_Phones_gone : Stmt := inClass (top 21) 2
abbrev s_Phones_knowing : Stmt := inClass (top 21) 3
abbrev s_Phones_row : Stmt := inClass (top 21) 4
abbrev s_Phones_is_done : Stmt := inClass (top 21) 5
structure Adr where
  f_is_number : Addr
  d_is_number : FuncData
  f_is_person : Addr
  d_is_person : FuncData
  f_is_orders : Addr
  d_is_orders : FuncData
  f_nobody_is_called_twice : Addr
  d_nobody_is_called_twice : FuncData
  f_all_are_come_to : Addr
  d_all_are_come_to : FuncData
  f_is_absent : Addr
  d_is_absent : FuncData
  f_copied : Addr
  d_copied : FuncData
  f_take_orders : Addr
  d_take_orders : FuncData
  f_take_absent : Addr
  d_take_absent : FuncData
  f_take_person : Addr
  d_take_person : FuncData
  f_first_rows : Addr
  d_first_rows : FuncData
  f_callers : Addr
  d_callers : FuncData
  f_next_round : Addr
  d_next_round : FuncData
  f_law_number : Addr
  d_law_number : FuncData
  f_law_ups : Addr
  d_law_ups : FuncData
  f_law_orders : Addr
  d_law_orders : FuncData
  f_law_turn : Addr
  d_law_turn : FuncData
  f_law_told : Addr
  d_law_told : FuncData
  f_law_two_right : Addr
  d_law_two_right : FuncData
  f_law : Addr
  d_law : FuncData
  f_Phones_init : Addr
  d_Phones_init : FuncData
  f_Phones_pass_round : Addr
  d_Phones_pass_round : FuncData
  f_Phones_gone : Addr
  d_Phones_gone : FuncData
  f_Phones_knowing : Addr
  d_Phones_knowing : FuncData
  f_Phones_row : Addr
  d_Phones_row : FuncData
  f_Phones_is_done : Addr
  d_Phones_is_done : FuncData
  C_CallError : Addr
  C_BadOrders : Addr
  C_BadAbsent : Addr
  C_BadPerson : Addr
  C_Phones : Addr
  t_MOST_PEOPLE : Tok
structure Txt (K : PySem.W.Frag) (mg : Str → Option Value) (A : Adr) : Prop where
  n_all : mg "all" = none
  n_bool : mg "bool" = none
  n_enumerate : mg "enumerate" = none
  n_int : mg "int" = none
  n_isinstance : mg "isinstance" = none
  n_len : mg "len" = none
  n_list : mg "list" = none
  n_min : mg "min" = none
  n_range : mg "range" = none
  n_set : mg "set" = none
  n_sorted : mg "sorted" = none
  n_sum : mg "sum" = none
  g_MOST_PEOPLE : mg "MOST_PEOPLE" = some (.int 40 A.t_MOST_PEOPLE)
  f_is_number : Fun K "is_number" "is_number" s_is_number A.f_is_number A.d_is_number
  b_is_number : Binds K A.d_is_number ["thing"] []
  m_is_number : mg "is_number" = some (.ref A.f_is_number)
  k_is_number : PySem.W.keepIn K (.ref A.f_is_number) = true
  f_is_person : Fun K "is_person" "is_person" s_is_person A.f_is_person A.d_is_person
  b_is_person : Binds K A.d_is_person ["thing", "people"] []
  m_is_person : mg "is_person" = some (.ref A.f_is_person)
  k_is_person : PySem.W.keepIn K (.ref A.f_is_person) = true
  f_is_orders : Fun K "is_orders" "is_orders" s_is_orders A.f_is_orders A.d_is_orders
  b_is_orders : Binds K A.d_is_orders ["orders"] []
  m_is_orders : mg "is_orders" = some (.ref A.f_is_orders)
  k_is_orders : PySem.W.keepIn K (.ref A.f_is_orders) = true
  f_nobody_is_called_twice : Fun K "nobody_is_called_twice" "nobody_is_called_twice" s_nobody_is_called_twice A.f_nobody_is_called_twice A.d_nobody_is_called_twice
  b_nobody_is_called_twice : Binds K A.d_nobody_is_called_twice ["orders"] []
  m_nobody_is_called_twice : mg "nobody_is_called_twice" = some (.ref A.f_nobody_is_called_twice)
  k_nobody_is_called_twice : PySem.W.keepIn K (.ref A.f_nobody_is_called_twice) = true
  f_all_are_come_to : Fun K "all_are_come_to" "all_are_come_to" s_all_are_come_to A.f_all_are_come_to A.d_all_are_come_to
  b_all_are_come_to : Binds K A.d_all_are_come_to ["orders"] []
  m_all_are_come_to : mg "all_are_come_to" = some (.ref A.f_all_are_come_to)
  k_all_are_come_to : PySem.W.keepIn K (.ref A.f_all_are_come_to) = true
  f_is_absent : Fun K "is_absent" "is_absent" s_is_absent A.f_is_absent A.d_is_absent
  b_is_absent : Binds K A.d_is_absent ["absent", "people"] []
  m_is_absent : mg "is_absent" = some (.ref A.f_is_absent)
  k_is_absent : PySem.W.keepIn K (.ref A.f_is_absent) = true
  f_copied : Fun K "copied" "copied" s_copied A.f_copied A.d_copied
  b_copied : Binds K A.d_copied ["thing"] []
  m_copied : mg "copied" = some (.ref A.f_copied)
  k_copied : PySem.W.keepIn K (.ref A.f_copied) = true
  f_take_orders : Fun K "take_orders" "take_orders" s_take_orders A.f_take_orders A.d_take_orders
  b_take_orders : Binds K A.d_take_orders ["orders"] []
  m_take_orders : mg "take_orders" = some (.ref A.f_take_orders)
  k_take_orders : PySem.W.keepIn K (.ref A.f_take_orders) = true
  f_take_absent : Fun K "take_absent" "take_absent" s_take_absent A.f_take_absent A.d_take_absent
  b_take_absent : Binds K A.d_take_absent ["absent", "people"] []
  m_take_absent : mg "take_absent" = some (.ref A.f_take_absent)
  k_take_absent : PySem.W.keepIn K (.ref A.f_take_absent) = true
  f_take_person : Fun K "take_person" "take_person" s_take_person A.f_take_person A.d_take_person
  b_take_person : Binds K A.d_take_person ["person", "people"] []
  m_take_person : mg "take_person" = some (.ref A.f_take_person)
  k_take_person : PySem.W.keepIn K (.ref A.f_take_person) = true
  f_first_rows : Fun K "first_rows" "first_rows" s_first_rows A.f_first_rows A.d_first_rows
  b_first_rows : Binds K A.d_first_rows ["orders"] []
  m_first_rows : mg "first_rows" = some (.ref A.f_first_rows)
  k_first_rows : PySem.W.keepIn K (.ref A.f_first_rows) = true
  f_callers : Fun K "callers" "callers" s_callers A.f_callers A.d_callers
  b_callers : Binds K A.d_callers ["rows"] []
  m_callers : mg "callers" = some (.ref A.f_callers)
  k_callers : PySem.W.keepIn K (.ref A.f_callers) = true
  f_next_round : Fun K "next_round" "next_round" s_next_round A.f_next_round A.d_next_round
  b_next_round : Binds K A.d_next_round ["orders", "rows", "absent"] []
  m_next_round : mg "next_round" = some (.ref A.f_next_round)
  k_next_round : PySem.W.keepIn K (.ref A.f_next_round) = true
  f_law_number : Fun K "_law_number" "_law_number" s_law_number A.f_law_number A.d_law_number
  b_law_number : Binds K A.d_law_number ["_law_cell", "_law_at", "_law_whole"] []
  m_law_number : mg "_law_number" = some (.ref A.f_law_number)
  k_law_number : PySem.W.keepIn K (.ref A.f_law_number) = true
  f_law_ups : Fun K "_law_ups" "_law_ups" s_law_ups A.f_law_ups A.d_law_ups
  b_law_ups : Binds K A.d_law_ups ["_law_script", "_law_by", "_law_most"] []
  m_law_ups : mg "_law_ups" = some (.ref A.f_law_ups)
  k_law_ups : PySem.W.keepIn K (.ref A.f_law_ups) = true
  f_law_orders : Fun K "_law_orders" "_law_orders" s_law_orders A.f_law_orders A.d_law_orders
  b_law_orders : Binds K A.d_law_orders ["_law_script", "_law_by", "_law_most"] []
  m_law_orders : mg "_law_orders" = some (.ref A.f_law_orders)
  k_law_orders : PySem.W.keepIn K (.ref A.f_law_orders) = true
  f_law_turn : Fun K "_law_turn" "_law_turn" s_law_turn A.f_law_turn A.d_law_turn
  b_law_turn : Binds K A.d_law_turn ["_law_orders_here", "_law_rows", "_law_absent"] []
  m_law_turn : mg "_law_turn" = some (.ref A.f_law_turn)
  k_law_turn : PySem.W.keepIn K (.ref A.f_law_turn) = true
  f_law_told : Fun K "_law_told" "_law_told" s_law_told A.f_law_told A.d_law_told
  b_law_told : Binds K A.d_law_told ["_law_phones", "_law_rows", "_law_people", "_law_gone"] []
  m_law_told : mg "_law_told" = some (.ref A.f_law_told)
  k_law_told : PySem.W.keepIn K (.ref A.f_law_told) = true
  f_law_two_right : Fun K "_law_two_right" "_law_two_right" s_law_two_right A.f_law_two_right A.d_law_two_right
  b_law_two_right : Binds K A.d_law_two_right [] []
  m_law_two_right : mg "_law_two_right" = some (.ref A.f_law_two_right)
  k_law_two_right : PySem.W.keepIn K (.ref A.f_law_two_right) = true
  f_law : Fun K "law" "law" s_law A.f_law A.d_law
  b_law : Binds K A.d_law ["_law_script"] []
  m_law : mg "law" = some (.ref A.f_law)
  k_law : PySem.W.keepIn K (.ref A.f_law) = true
  f_Phones_init : Fun K "__init__" "Phones.__init__" s_Phones_init A.f_Phones_init A.d_Phones_init
  b_Phones_init : Binds K A.d_Phones_init ["self", "orders"] []
  f_Phones_pass_round : Fun K "pass_round" "Phones.pass_round" s_Phones_pass_round A.f_Phones_pass_round A.d_Phones_pass_round
  b_Phones_pass_round : Binds K A.d_Phones_pass_round ["self", "absent"] []
  mt_Phones_pass_round : Meth K A.C_Phones "pass_round" A.f_Phones_pass_round
  f_Phones_gone : Fun K "gone" "Phones.gone" s_Phones_gone A.f_Phones_gone A.d_Phones_gone
  b_Phones_gone : Binds K A.d_Phones_gone ["self"] []
  mt_Phones_gone : Meth K A.C_Phones "gone" A.f_Phones_gone
  f_Phones_knowing : Fun K "knowing" "Phones.knowing" s_Phones_knowing A.f_Phones_knowing A.d_Phones_knowing
  b_Phones_knowing : Binds K A.d_Phones_knowing ["self"] []
  mt_Phones_knowing : Meth K A.C_Phones "knowing" A.f_Phones_knowing
  f_Phones_row : Fun K "row" "Phones.row" s_Phones_row A.f_Phones_row A.d_Phones_row
  b_Phones_row : Binds K A.d_Phones_row ["self", "person"] []
  mt_Phones_row : Meth K A.C_Phones "row" A.f_Phones_row
  f_Phones_is_done : Fun K "is_done" "Phones.is_done" s_Phones_is_done A.f_Phones_is_done A.d_Phones_is_done
  b_Phones_is_done : Binds K A.d_Phones_is_done ["self"] []
  mt_Phones_is_done : Meth K A.C_Phones "is_done" A.f_Phones_is_done
  cl_Phones : Cls K A.C_Phones
  k_Phones : Mk K A.C_Phones A.f_Phones_init
  c_Phones : mg "Phones" = some (.ref A.C_Phones)
  na_Phones_orders : NoAttr K A.C_Phones "orders"
  na_Phones_rows : NoAttr K A.C_Phones "rows"
  na_Phones_turns : NoAttr K A.C_Phones "turns"
end Toy

set_option Elab.async false
set_option linter.all false
set_option maxRecDepth 100000
set_option maxHeartbeats 4000000
namespace Toy
open PySem L2
theorem kit_int {K : PySem.W.Frag} : PySem.W.kitOne K (.type "int") (.type "int") = some true := by kernel_rfl
theorem kit_int_bool {K : PySem.W.Frag} : PySem.W.kitOne K (.type "int") (.type "bool") = some false := by kernel_rfl
theorem kit_list {K : PySem.W.Frag} : PySem.W.kitOne K (.type "list") (.type "list") = some true := by kernel_rfl
theorem kit_none_list {K : PySem.W.Frag} : PySem.W.kitOne K (.type "NoneType") (.type "list") = some false := by kernel_rfl
theorem kit_int_list {K : PySem.W.Frag} : PySem.W.kitOne K (.type "int") (.type "list") = some false := by kernel_rfl
section
variable {P : Program} {w : World} {K : PySem.W.Frag} {mg : Str → Option Value} {base : Heap} {A : Adr}
def spNum : Sp := fun vs H Q _ => ∃ i, vs = [.int i] ∧ Q (.bl true) H
theorem sc_is_number : FnScope ["thing"] ["thing"] (defScope s_is_number) := ⟨rfl, rfl, rfl, by decide +kernel, rfl, by decide +kernel, by decide +kernel⟩
theorem ok_is_number (T : Txt K mg A) : FnOk P w K mg base CX0 1 A.f_is_number A.d_is_number ["thing"] spNum := by
  refine T.f_is_number.ok sc_is_number (fun vs H Q E h => ?_) (fun cdv A outer s H vs Q E hr h => ?_)
  · obtain ⟨i, rfl, _⟩ := h
    rfl
  · obtain ⟨i, rfl, k⟩ := h
    refine ⟨_, (pss_one (ps_ret (pe_and (pe_callB (cr_isiK K) (by rfl) T.n_isinstance (by decide +kernel) (@pa_cons _ _ _ _ _ (pv 0) (@pa_cons _ _ _ _ _ (pe_bltn (v := .ty "int") (by rfl) T.n_int (by decide +kernel) rfl) pa_nil (by rfl)) (by rfl))) (pe_one (pe_not (pe_callB (cr_isiK K) (by rfl) T.n_isinstance (by decide +kernel) (@pa_cons _ _ _ _ _ (pv 0) (@pa_cons _ _ _ _ _ (pe_bltn (v := .ty "bool") (by rfl) T.n_bool (by decide +kernel) rfl) pa_nil (by rfl)) (by rfl)))))))), ?_⟩
    refine ⟨_, rfl, .int i, .ty "int", _, true, rfl, .int i, (fun u hu => ?_), true, rfl, ?_⟩
    · cases hu
      exact kit_int
    · refine iteT ⟨_, rfl, .int i, .ty "bool", _, false, rfl, .int i, (fun u hu => ?_), false, rfl, ?_⟩
      · cases hu
        exact kit_int_bool
      · exact k
def spPer : Sp := fun vs H Q _ => ∃ i n, vs = [.int i, .int n] ∧ Q (.bl (decide (0 ≤ i ∧ i < n))) H
theorem sc_is_person : FnScope ["thing", "people"] ["thing", "people"] (defScope s_is_person) := ⟨rfl, rfl, rfl, by decide +kernel, rfl, by decide +kernel, by decide +kernel⟩
theorem ok_is_person (T : Txt K mg A) : FnOk P w K mg base CX0 2 A.f_is_person A.d_is_person ["thing", "people"] spPer := by
  have G_is_number := ok_is_number (P := P) (w := w) (base := base) T
  refine T.f_is_person.ok sc_is_person (fun vs H Q E h => ?_) (fun cdv A outer s H vs Q E hr h => ?_)
  · obtain ⟨i, n, rfl, _⟩ := h
    rfl
  · obtain ⟨i, n, rfl, k⟩ := h
    refine ⟨_, (pss_one (ps_ret (pe_and (pe_call G_is_number (hr.mono (by decide)) (by rfl) T.m_is_number T.k_is_number T.b_is_number .nil pass0 (@pa_cons _ _ _ _ _ (pv 0) pa_nil (by rfl))) (pe_one (pe_chain op_le op_lt pe_int (pv 0) (pv 1)))))), ?_⟩
    refine ⟨_, rfl, i, rfl, true, rfl, iteT ?_⟩
    refine ⟨_, rfl, 0, i, rfl, rfl, _, rfl, ?_⟩
    refine ite2 (fun h0 => ?_) (fun h0 => ?_)
    · refine ⟨_, rfl, i, n, rfl, rfl, ?_⟩
      have h0 : 0 ≤ i := of_decide_eq_true h0
      have e : decide (0 ≤ i ∧ i < n) = decide (i < n) := by simp [h0]
      rw [e] at k
      exact k
    · have h0 : ¬ 0 ≤ i := fun z => h0 (decide_eq_true z)
      have e : decide (0 ≤ i ∧ i < n) = false := by simp [h0]
      rw [e] at k
      exact k
theorem kitL {K : PySem.W.Frag} {u : Value} (h : RelV (.ty "list") u) : PySem.W.kitOne K (.type "list") u = some true := by
  cases h
  exact kit_list
theorem kitIL {K : PySem.W.Frag} {u : Value} (h : RelV (.ty "list") u) : PySem.W.kitOne K (.type "int") u = some false := by
  cases h
  exact kit_int_list
theorem kitNL {K : PySem.W.Frag} {u : Value} (h : RelV (.ty "list") u) : PySem.W.kitOne K (.type "NoneType") u = some false := by
  cases h
  exact kit_none_list
def GoodUps (us : List Int) : Prop := us.length ≤ 39 ∧ ∀ (j : Nat) (u : Int), us[j]? = some u → 0 ≤ u ∧ u ≤ j
def Abs (as : List Int) (n : Int) : Prop := as.Pairwise (· < ·) ∧ ∀ a ∈ as, 0 < a ∧ a < n
theorem abs_next {as : List Int} {n : Int} (h : Abs as n) {i : Nat} {x y : Int} (hx : as[i]? = some x) (hy : as[i + 1]? = some y) : x < y := by
  obtain ⟨h1, e1⟩ := List.getElem?_eq_some_iff.mp hx
  obtain ⟨h2, e2⟩ := List.getElem?_eq_some_iff.mp hy
  have := List.pairwise_iff_getElem.mp h.1 i (i + 1) h1 h2 (Nat.lt_succ_self i)
  rw [e1, e2] at this
  exact this
def spAbs : Sp := fun vs H Q _ => ∃ (a : Addr) (as : List Int) (n : Int), vs = [.ref a, .int n] ∧ H a = some (.lst (as.map V.int)) ∧ Abs as n ∧ ∀ H', Same H H' → Q (.bl true) H'
theorem sc_is_absent : FnScope ["absent", "people", "before", "person"] ["absent", "people"] (defScope s_is_absent) := ⟨rfl, rfl, rfl, by decide +kernel, rfl, by decide +kernel, by decide +kernel⟩
theorem ok_is_absent (T : Txt K mg A) : FnOk P w K mg base CX0 3 A.f_is_absent A.d_is_absent ["absent", "people"] spAbs := by
  have G_is_person := ok_is_person (P := P) (w := w) (base := base) T
  refine T.f_is_absent.ok sc_is_absent (fun vs H Q E h => ?_) (fun cdv A outer s H vs Q E hr h => ?_)
  · obtain ⟨a, as, n, rfl, _⟩ := h
    rfl
  · obtain ⟨a, as, n, rfl, hH, hA, k⟩ := h
    refine ⟨_, (pss_cons (ps_if (pt_not (pt_val (pe_callB (cr_isiK K) (by rfl) T.n_isinstance (by decide +kernel) (@pa_cons _ _ _ _ _ (pv 0) (@pa_cons _ _ _ _ _ (pe_bltn (v := .ty "list") (by rfl) T.n_list (by decide +kernel) rfl) pa_nil (by rfl)) (by rfl))))) (pss_one (ps_ret pe_bl)) pss_nil)
      (pss_cons (ps_set (i := 2) sc_is_absent.nd rfl (Or.inl rfl) pe_int)
      (pss_cons (ps_for PassesOwn.never rfl (pi_listK K (pv 0)) (pg_name (i := 3) sc_is_absent.nd rfl (Or.inl rfl)) (pss_cons (ps_if (PW.pt (pw_or (pt_not (pt_val (pe_call G_is_person (hr.mono (by decide)) (by rfl) T.m_is_person T.k_is_person T.b_is_person .nil pass0 (@pa_cons _ _ _ _ _ (pv 3) (@pa_cons _ _ _ _ _ (pv 1) pa_nil (by rfl)) (by rfl))))) (pw_or1 (pt_cmpR op_le (pv 3) (pv 2) (nomark _))))) (pss_one (ps_ret pe_bl)) pss_nil)
      (pss_one (ps_set (i := 2) sc_is_absent.nd rfl (Or.inl rfl) (pv 3)))))
      (pss_one (ps_ret pe_bl))))), ?_⟩
    refine ⟨_, rfl, .ref a, .ty "list", _, true, rfl, .lst hH, (fun u hu => kitL hu), true, rfl, iteF ?_⟩
    refine ⟨_, rfl, a, rfl, ⟨_, SqL.of hH⟩, for_list (K := K) (a := a) (xs := as.map V.int)
      (fun i σ H2 => ∃ (b : Int) (x : Option V), σ = [some (.ref a), some (.int n), some (.int b), x] ∧ Same H H2 ∧ ∀ x, as[i]? = some x → b < x)
      ⟨0, none, rfl, Same.refl H, fun x hx => (hA.2 x (List.mem_of_getElem? hx)).1⟩ (fun i σ H2 _ ⟨_, _, _, s2, _⟩ => SqL.of (s2 _ _ hH)) ?_ ?_⟩
    · rintro i x σ H2 hi ⟨b, x0, rfl, s2, hb⟩
      obtain ⟨p, hp, rfl⟩ := map_int_get hi
      refine ⟨_, rfl, _, rfl, p, n, rfl, _, rfl, ?_⟩
      have q := hA.2 p (List.mem_of_getElem? hp)
      have hd : decide (0 ≤ p ∧ p < n) = true := decide_eq_true ⟨by omega, q.2⟩
      rw [hd]
      refine iteF ⟨_, rfl, _, rfl, _, _, rfl, rfl, _, rfl, ?_⟩
      have hlt := hb p hp
      rw [decide_eq_false (by omega)]
      exact iteF ⟨_, rfl, p, _, rfl, s2, fun y hy => abs_next hA hp hy⟩
    · rintro σ H2 ⟨b, x0, rfl, s2, hb⟩
      exact k H2 s2
def spTakeA : Sp := fun vs H Q _ => ∃ (a : Addr) (as : List Int) (n : Int), vs = [.ref a, .int n] ∧ H a = some (.lst (as.map V.int)) ∧ Abs as n ∧ ∀ b H', Same H H' → H b = none → H' b = some (.lst (as.map V.int)) → Q (.ref b) H'
theorem sc_take_absent : FnScope ["absent", "people"] ["absent", "people"] (defScope s_take_absent) := ⟨rfl, rfl, rfl, by decide +kernel, rfl, by decide +kernel, by decide +kernel⟩
theorem ok_take_absent (T : Txt K mg A) : FnOk P w K mg base CX0 4 A.f_take_absent A.d_take_absent ["absent", "people"] spTakeA := by
  have G_is_absent := ok_is_absent (P := P) (w := w) (base := base) T
  refine T.f_take_absent.ok sc_take_absent (fun vs H Q E h => ?_) (fun cdv A outer s H vs Q E hr h => ?_)
  · obtain ⟨a, as, n, rfl, _⟩ := h
    rfl
  · obtain ⟨a, as, n, rfl, hH, hA, k⟩ := h
    refine ⟨_, (pss_cons (ps_if (pt_not (pt_val (pe_call G_is_absent (hr.mono (by decide)) (by rfl) T.m_is_absent T.k_is_absent T.b_is_absent .nil pass0 (@pa_cons _ _ _ _ _ (pv 0) (@pa_cons _ _ _ _ _ (pv 1) pa_nil (by rfl)) (by rfl))))) (pss_one ps_never) pss_nil)
      (pss_one (ps_ret (pe_callTy (call_list_ofK K) (by rfl) T.n_list (by decide +kernel) (@pa_cons _ _ _ _ _ (pv 0) pa_nil (by rfl)))))), ?_⟩
    refine ⟨_, rfl, _, rfl, a, as, n, rfl, hH, hA, fun H1 s1 => ⟨true, rfl, iteF ?_⟩⟩
    refine ⟨_, rfl, a, _, rfl, .inl (SqL.of (s1 _ _ hH)), fun l hl => ?_⟩
    exact k l _ (s1.upd (s1.free hl)) (s1.free hl) upd_same
def spTakeP : Sp := fun vs H Q _ => ∃ p n : Int, vs = [.int p, .int n] ∧ 0 ≤ p ∧ p < n ∧ Q (.int p) H
theorem sc_take_person : FnScope ["person", "people"] ["person", "people"] (defScope s_take_person) := ⟨rfl, rfl, rfl, by decide +kernel, rfl, by decide +kernel, by decide +kernel⟩
theorem ok_take_person (T : Txt K mg A) : FnOk P w K mg base CX0 3 A.f_take_person A.d_take_person ["person", "people"] spTakeP := by
  have G_is_person := ok_is_person (P := P) (w := w) (base := base) T
  refine T.f_take_person.ok sc_take_person (fun vs H Q E h => ?_) (fun cdv A outer s H vs Q E hr h => ?_)
  · obtain ⟨p, n, rfl, _⟩ := h
    rfl
  · obtain ⟨p, n, rfl, h0, h1, k⟩ := h
    refine ⟨_, (pss_cons (ps_if (pt_not (pt_val (pe_call G_is_person (hr.mono (by decide)) (by rfl) T.m_is_person T.k_is_person T.b_is_person .nil pass0 (@pa_cons _ _ _ _ _ (pv 0) (@pa_cons _ _ _ _ _ (pv 1) pa_nil (by rfl)) (by rfl))))) (pss_one ps_never) pss_nil)
      (pss_one (ps_ret (pv 0)))), ?_⟩
    refine ⟨_, rfl, _, rfl, p, n, rfl, _, rfl, ?_⟩
    rw [decide_eq_true ⟨h0, h1⟩]
    exact iteF ⟨_, rfl, k⟩
def spCopyI : Sp := fun vs H Q _ => ∃ (a : Addr) (ns : List Int), vs = [.ref a] ∧ H a = some (.lst (ns.map V.int)) ∧ ns.length < 1000 ∧ ∀ b H', Same H H' → H b = none → H' b = some (.lst (ns.map V.int)) → Q (.ref b) H'
theorem sc_copied : FnScope ["thing", "part"] ["thing"] (defScope s_copied) := ⟨rfl, rfl, rfl, by decide +kernel, rfl, by decide +kernel, by decide +kernel⟩
theorem snoc_take {ns : List Int} {i : Nat} {n : Int} (h : ns[i]? = some n) : (ns.take i).map V.int ++ [V.int n] = (ns.take (i + 1)).map V.int := by
  rw [List.take_add_one, h, List.map_append]
  rfl
theorem ok_copiedI (T : Txt K mg A) : FnOk P w K mg base CX0 1 A.f_copied A.d_copied ["thing"] spCopyI := by
  refine T.f_copied.ok sc_copied (fun vs H Q E h => ?_) (fun cdv A outer s H vs Q E hr h => ?_)
  · obtain ⟨a, us, rfl, _⟩ := h
    rfl
  · obtain ⟨a, ns, rfl, hH, hl, k⟩ := h
    refine ⟨_, (pss_cons (ps_if (pt_not (pt_val (pe_callB (cr_isiK K) (by rfl) T.n_isinstance (by decide +kernel) (@pa_cons _ _ _ _ _ (pv 0) (@pa_cons _ _ _ _ _ (pe_bltn (v := .ty "list") (by rfl) T.n_list (by decide +kernel) rfl) pa_nil (by rfl)) (by rfl))))) (pss_one (ps_ret (pv 0))) pss_nil)
      (pss_one (ps_ret (pe_lc (own := [("part", 1)]) rfl sc_copied.nd (pi_listK K (pv 0)) (blkOk_by (own := [("part", 1)]) (by kernel_rfl)) (fun _ _ _ _ _ => (pg_name (i := 1) sc_copied.nd rfl (Or.inl rfl))) (fun _ _ _ _ _ => pts_nil) (fun _ _ _ _ _ => (pe_ifExp (pt_val (pe_callB (cr_isiK K) (by rfl) T.n_isinstance (by decide +kernel) (@pa_cons _ _ _ _ _ (pv 1) (@pa_cons _ _ _ _ _ (pe_bltn (v := .ty "list") (by rfl) T.n_list (by decide +kernel) rfl) pa_nil (by rfl)) (by rfl)))) (pe_callTy (call_list_ofK K) (by rfl) T.n_list (by decide +kernel) (@pa_cons _ _ _ _ _ (pv 1) pa_nil (by rfl))) (pv 1))))))), ?_⟩
    refine ⟨_, rfl, .ref a, .ty "list", _, true, rfl, .lst hH, (fun u hu => kitL hu), true, rfl, iteF ?_⟩
    refine ⟨_, rfl, a, rfl, ⟨_, SqL.of hH⟩, fun D hD => ?_⟩
    refine lc_list (K := K) (a := a) (xs := ns.map V.int) (fun i H2 => Same H H2 ∧ H2 D = some (.lst ((ns.take i).map V.int))) ⟨Same.new hD, by rw [upd_same]; rfl⟩ (fun i H2 _ ⟨s2, _⟩ => SqL.of (s2 _ _ hH)) ?_ ?_
    · rintro i x H2 hi ⟨s2, hd⟩
      obtain ⟨n, hn, rfl⟩ := map_int_get hi
      refine ⟨rfl, yesT ?_⟩
      refine ⟨_, rfl, .int n, .ty "list", _, false, rfl, .int n, (fun u hu => kitIL hu), false, rfl, iteF ?_⟩
      refine ⟨_, rfl, _, hd, ?_, s2.upd hD, ?_⟩
      · rw [List.length_map, List.length_take]
        exact small1000 (by omega)
      · rw [upd_same, snoc_take hn]
    · rintro H2 ⟨s2, hd⟩
      rw [List.length_map, List.take_length] at hd
      exact k D H2 s2 hD hd
theorem take_snoc {α : Type} {xs : List α} {i : Nat} {x : α} (h : xs[i]? = some x) : xs.take (i + 1) = xs.take i ++ [x] := by
  rw [List.take_add_one, h]
  rfl
def RowV (H : Hp) (v : V) : Option (List Int) → Prop
  | none => v = .non
  | some l => ∃ r, v = .ref r ∧ H r = some (.lst (l.map V.int))
structure RL (H : Hp) (vs : List V) (rows : List (Option (List Int))) : Prop where
  len : vs.length = rows.length
  at' : ∀ (p : Nat) (v : V) (row : Option (List Int)), vs[p]? = some v → rows[p]? = some row → RowV H v row
theorem RowV.mono {H H' : Hp} {v : V} {row : Option (List Int)} (h : RowV H v row) (s : Same H H') : RowV H' v row := by
  cases row with
  | none => exact h
  | some l => exact let ⟨r, e, q⟩ := h; ⟨r, e, s _ _ q⟩
theorem RL.mono {H H' : Hp} {vs : List V} {rows : List (Option (List Int))} (h : RL H vs rows) (s : Same H H') : RL H' vs rows := ⟨h.len, fun p v row a b => (h.at' p v row a b).mono s⟩
theorem RL.nil {H : Hp} : RL H [] [] := ⟨rfl, fun p v row h _ => by simp at h⟩
theorem RL.snoc {H : Hp} {vs : List V} {rows : List (Option (List Int))} {v : V} {row : Option (List Int)} (h : RL H vs rows) (hv : RowV H v row) : RL H (vs ++ [v]) (rows ++ [row]) := by
  refine ⟨by rw [List.length_append, List.length_append, h.len]; rfl, fun p x r hp hr => ?_⟩
  by_cases hpi : p < vs.length
  · rw [List.getElem?_append_left hpi] at hp
    rw [List.getElem?_append_left (by rw [← h.len]; exact hpi)] at hr
    exact h.at' p x r hp hr
  · rw [List.getElem?_append_right (by omega)] at hp
    rw [List.getElem?_append_right (by rw [← h.len]; omega), ← h.len] at hr
    have e0 : p - vs.length = 0 := by
      have := (List.getElem?_eq_some_iff.mp hp).1
      simp at this
      omega
    rw [e0] at hp hr
    have e1 : v = x := by simpa using hp
    have e2 : row = r := by simpa using hr
    subst e1 e2
    exact hv
theorem RL.get {H : Hp} {vs : List V} {rows : List (Option (List Int))} (h : RL H vs rows) {p : Nat} {v : V} (hv : vs[p]? = some v) : ∃ row, rows[p]? = some row ∧ RowV H v row := by
  have hl := (List.getElem?_eq_some_iff.mp hv).1
  have e : rows[p]? = some (rows[p]'(by rw [← h.len]; exact hl)) := List.getElem?_eq_getElem _
  exact ⟨_, e, h.at' p v _ hv e⟩
theorem RL.set {H : Hp} {vs : List V} {rows : List (Option (List Int))} {v : V} {row : Option (List Int)} (h : RL H vs rows) (hv : RowV H v row) (j : Nat) : RL H (vs.set j v) (rows.set j row) := by
  refine ⟨by rw [List.length_set, List.length_set, h.len], fun p x r hp hr => ?_⟩
  by_cases hj : j = p
  · subst hj
    have hl : j < vs.length := by
      have := (List.getElem?_eq_some_iff.mp hp).1
      rwa [List.length_set] at this
    rw [List.getElem?_set_self hl] at hp
    rw [List.getElem?_set_self (by rw [← h.len]; exact hl)] at hr
    cases hp
    cases hr
    exact hv
  · rw [List.getElem?_set_ne hj] at hp hr
    exact h.at' p x r hp hr
def spCopyR : Sp := fun vs H Q _ => ∃ (a : Addr) (xs : List V) (rows : List (Option (List Int))), vs = [.ref a] ∧ H a = some (.lst xs) ∧ RL H xs rows ∧ rows.length < 1000 ∧ ∀ b xs' H', Same H H' → H b = none → H' b = some (.lst xs') → RL H' xs' rows → (∀ r, V.ref r ∈ xs' → H r = none ∧ r ≠ b) → Q (.ref b) H'
theorem ok_copiedR (T : Txt K mg A) : FnOk P w K mg base CX0 1 A.f_copied A.d_copied ["thing"] spCopyR := by
  refine T.f_copied.ok sc_copied (fun vs H Q E h => ?_) (fun cdv A outer s H vs Q E hr h => ?_)
  · obtain ⟨a, xs, rows, rfl, _⟩ := h
    rfl
  · obtain ⟨a, xs, rows, rfl, hH, hR, hl, k⟩ := h
    refine ⟨_, (pss_cons (ps_if (pt_not (pt_val (pe_callB (cr_isiK K) (by rfl) T.n_isinstance (by decide +kernel) (@pa_cons _ _ _ _ _ (pv 0) (@pa_cons _ _ _ _ _ (pe_bltn (v := .ty "list") (by rfl) T.n_list (by decide +kernel) rfl) pa_nil (by rfl)) (by rfl))))) (pss_one (ps_ret (pv 0))) pss_nil)
      (pss_one (ps_ret (pe_lc (own := [("part", 1)]) rfl sc_copied.nd (pi_listK K (pv 0)) (blkOk_by (own := [("part", 1)]) (by kernel_rfl)) (fun _ _ _ _ _ => (pg_name (i := 1) sc_copied.nd rfl (Or.inl rfl))) (fun _ _ _ _ _ => pts_nil) (fun _ _ _ _ _ => (pe_ifExp (pt_val (pe_callB (cr_isiK K) (by rfl) T.n_isinstance (by decide +kernel) (@pa_cons _ _ _ _ _ (pv 1) (@pa_cons _ _ _ _ _ (pe_bltn (v := .ty "list") (by rfl) T.n_list (by decide +kernel) rfl) pa_nil (by rfl)) (by rfl)))) (pe_callTy (call_list_ofK K) (by rfl) T.n_list (by decide +kernel) (@pa_cons _ _ _ _ _ (pv 1) pa_nil (by rfl))) (pv 1))))))), ?_⟩
    refine ⟨_, rfl, .ref a, .ty "list", _, true, rfl, .lst hH, (fun u hu => kitL hu), true, rfl, iteF ?_⟩
    refine ⟨_, rfl, a, rfl, ⟨_, SqL.of hH⟩, fun D hD => ?_⟩
    refine lc_list (K := K) (a := a) (xs := xs) (fun i H2 => Same H H2 ∧ ∃ ys : List V, ys.length = i ∧ H2 D = some (.lst ys) ∧ RL H2 ys (rows.take i) ∧ ∀ r, V.ref r ∈ ys → H r = none ∧ r ≠ D) ⟨Same.new hD, [], rfl, upd_same, by simpa using RL.nil, by simp⟩ (fun i H2 _ ⟨s2, _⟩ => SqL.of (s2 _ _ hH)) ?_ ?_
    · rintro i x H2 hi ⟨s2, ys, hyl, hd, hR2, hn⟩
      obtain ⟨row, hrow, hv⟩ := hR.get hi
      have hil := (List.getElem?_eq_some_iff.mp hrow).1
      have hsz : ys.length < sizeLine := small1000 (by omega)
      refine ⟨rfl, yesT ?_⟩
      cases row with
      | none =>
        have hv : x = .non := hv
        subst hv
        refine ⟨_, rfl, .non, .ty "list", _, false, rfl, .non, (fun u hu => kitNL hu), false, rfl, iteF ?_⟩
        refine ⟨_, rfl, _, hd, hsz, s2.upd hD, ys ++ [.non], by rw [List.length_append, hyl]; rfl, upd_same, ?_, fun r hr' => ?_⟩
        · rw [take_snoc hrow]
          refine RL.snoc ⟨hR2.len, fun p v row hp hr => ?_⟩ rfl
          have q := hR2.at' p v row hp hr
          cases row with
          | none => exact q
          | some l =>
            obtain ⟨r, e, q⟩ := q
            exact ⟨r, e, by rw [upd_ne (hn r (by rw [← e]; exact List.mem_of_getElem? hp)).2]; exact q⟩
        · rcases List.mem_append.mp hr' with h1 | h1
          · exact hn r h1
          · exact absurd (List.mem_singleton.mp h1) (by simp)
      | some l =>
        obtain ⟨r, rfl, hr⟩ := hv
        refine ⟨_, rfl, .ref r, .ty "list", _, true, rfl, .lst (s2 _ _ hr), (fun u hu => kitL hu), true, rfl, iteT ?_⟩
        refine ⟨_, rfl, r, _, rfl, .inl (SqL.of (s2 _ _ hr)), fun q hq => ?_⟩
        have hqH : H q = none := s2.free hq
        have nqD : D ≠ q := ne_of_none hd hq
        refine ⟨ys, by rw [upd_ne nqD]; exact hd, hsz, (s2.upd hqH).upd hD, ys ++ [.ref q], by rw [List.length_append, hyl]; rfl, upd_same, ?_, fun r' hr' => ?_⟩
        · rw [take_snoc hrow]
          refine RL.snoc ⟨hR2.len, fun p v row hp hr => ?_⟩ ⟨q, rfl, by rw [upd_ne (Ne.symm nqD), upd_same]⟩
          have z := hR2.at' p v row hp hr
          cases row with
          | none => exact z
          | some l =>
            obtain ⟨r, e, z⟩ := z
            exact ⟨r, e, by rw [upd_ne (hn r (by rw [← e]; exact List.mem_of_getElem? hp)).2, upd_ne (ne_of_none z hq)]; exact z⟩
        · rcases List.mem_append.mp hr' with h1 | h1
          · exact hn r' h1
          · have e : r' = q := by
              have := List.mem_singleton.mp h1
              injection this
            subst e
            exact ⟨hqH, Ne.symm nqD⟩
    · rintro H2 ⟨s2, ys, hyl, hd, hR2, hn⟩
      rw [hR.len, List.take_length] at hR2
      exact k D ys H2 s2 hD hd hR2 hn
def spCopyN : Sp := fun vs H Q _ => vs = [.non] ∧ Q .non H
theorem ok_copiedN (T : Txt K mg A) : FnOk P w K mg base CX0 1 A.f_copied A.d_copied ["thing"] spCopyN := by
  refine T.f_copied.ok sc_copied (fun vs H Q E h => ?_) (fun cdv A outer s H vs Q E hr h => ?_)
  · obtain ⟨rfl, _⟩ := h
    rfl
  · obtain ⟨rfl, k⟩ := h
    refine ⟨_, (pss_cons (ps_if (pt_not (pt_val (pe_callB (cr_isiK K) (by rfl) T.n_isinstance (by decide +kernel) (@pa_cons _ _ _ _ _ (pv 0) (@pa_cons _ _ _ _ _ (pe_bltn (v := .ty "list") (by rfl) T.n_list (by decide +kernel) rfl) pa_nil (by rfl)) (by rfl))))) (pss_one (ps_ret (pv 0))) pss_nil)
      (pss_one (ps_ret (pe_lc (own := [("part", 1)]) rfl sc_copied.nd (pi_listK K (pv 0)) (blkOk_by (own := [("part", 1)]) (by kernel_rfl)) (fun _ _ _ _ _ => (pg_name (i := 1) sc_copied.nd rfl (Or.inl rfl))) (fun _ _ _ _ _ => pts_nil) (fun _ _ _ _ _ => (pe_ifExp (pt_val (pe_callB (cr_isiK K) (by rfl) T.n_isinstance (by decide +kernel) (@pa_cons _ _ _ _ _ (pv 1) (@pa_cons _ _ _ _ _ (pe_bltn (v := .ty "list") (by rfl) T.n_list (by decide +kernel) rfl) pa_nil (by rfl)) (by rfl)))) (pe_callTy (call_list_ofK K) (by rfl) T.n_list (by decide +kernel) (@pa_cons _ _ _ _ _ (pv 1) pa_nil (by rfl))) (pv 1))))))), ?_⟩
    refine ⟨_, rfl, .non, .ty "list", _, false, rfl, .non, (fun u hu => kitNL hu), false, rfl, iteT ?_⟩
    exact ⟨_, rfl, k⟩
end
end Toy

set_option Elab.async false
set_option linter.all false
set_option maxRecDepth 100000
set_option maxHeartbeats 4000000
namespace Toy
open PySem L2
theorem nodup_sub {α : Type} [DecidableEq α] : ∀ {l₁ l₂ : List α}, l₁.Nodup → (∀ x ∈ l₁, x ∈ l₂) → l₁.length ≤ l₂.length
  | [], _, _, _ => Nat.zero_le _
  | a :: r, l₂, h, hs => by
    obtain ⟨h1, h2⟩ := List.nodup_cons.mp h
    have ha := hs a List.mem_cons_self
    have ih := nodup_sub (l₂ := l₂.erase a) h2 fun x hx => (List.mem_erase_of_ne (fun (z : x = a) => h1 (by rw [← z]; exact hx))).mpr (hs x (List.mem_cons_of_mem _ hx))
    rw [List.length_erase_of_mem ha] at ih
    have := List.length_pos_of_mem ha
    rw [List.length_cons]
    omega
theorem nodup_len {l : List Int} {n : Nat} (h : l.Nodup) (hx : ∀ x ∈ l, 0 ≤ x ∧ x < n) : l.length ≤ n := by
  have := nodup_sub (l₂ := (List.range n).map fun k : Nat => (k : Int)) h fun x hx' => List.mem_map.mpr ⟨x.toNat, List.mem_range.mpr (by have := hx x hx'; omega), by have := hx x hx'; omega⟩
  simpa using this
structure GoodO (os : List (List Int)) : Prop where
  n1 : 1 ≤ os.length
  n40 : os.length ≤ 40
  inR : ∀ x ∈ os.flatten, 0 < x ∧ x < os.length
  nd : os.flatten.Nodup
  reach : ∀ S : Int → Prop, S 0 → (∀ (p : Nat) (row : List Int), os[p]? = some row → S p → ∀ x ∈ row, S x) → ∀ x : Int, 0 ≤ x → x < os.length → S x
def ch (os : List (List Int)) (x : Int) : List Int := os.getD x.toNat []
theorem ch_get {os : List (List Int)} {x : Int} (h0 : 0 ≤ x) (h1 : x < os.length) : os[x.toNat]? = some (ch os x) := by
  unfold ch
  rw [List.getD_eq_getElem?_getD, List.getElem?_eq_getElem (by omega)]
  rfl
theorem flat_mem {os : List (List Int)} {p : Nat} {row : List Int} {x : Int} (hp : os[p]? = some row) (hx : x ∈ row) : x ∈ os.flatten := List.mem_flatten.mpr ⟨row, List.mem_of_getElem? hp, hx⟩
theorem GoodO.row {os : List (List Int)} (g : GoodO os) {p : Nat} {row : List Int} (hp : os[p]? = some row) : row.Nodup ∧ ∀ x ∈ row, 0 < x ∧ x < os.length := by
  obtain ⟨h1, _⟩ := List.pairwise_flatten.mp g.nd
  exact ⟨h1 row (List.mem_of_getElem? hp), fun x hx => g.inR x (flat_mem hp hx)⟩
theorem GoodO.one {os : List (List Int)} (g : GoodO os) {p q : Nat} {row row' : List Int} {x : Int} (hp : os[p]? = some row) (hq : os[q]? = some row') (hx : x ∈ row) (hx' : x ∈ row') : p = q := by
  obtain ⟨_, h2⟩ := List.pairwise_flatten.mp g.nd
  obtain ⟨lp, ep⟩ := List.getElem?_eq_some_iff.mp hp
  obtain ⟨lq, eq⟩ := List.getElem?_eq_some_iff.mp hq
  rcases Nat.lt_trichotomy p q with h | h | h
  · have := List.pairwise_iff_getElem.mp h2 p q lp lq h x (by rw [ep]; exact hx) x (by rw [eq]; exact hx')
    exact absurd rfl this
  · exact h
  · have := List.pairwise_iff_getElem.mp h2 q p lq lp h x (by rw [eq]; exact hx') x (by rw [ep]; exact hx)
    exact absurd rfl this
structure Bfs (os : List (List Int)) (R : List Int) (at' : Nat) : Prop where
  le : at' ≤ R.length
  eq : R = 0 :: (R.take at').flatMap (ch os)
  nd : R.Nodup
  inR : ∀ x ∈ R, 0 ≤ x ∧ x < os.length
theorem Bfs.start {os : List (List Int)} (g : GoodO os) : Bfs os [0] 0 :=
  ⟨Nat.zero_le _, rfl, by simp, fun x hx => by
    have := g.n1
    rw [List.mem_singleton.mp hx]
    omega⟩
theorem Bfs.step {os : List (List Int)} {R : List Int} {i : Nat} {p : Int} (g : GoodO os) (h : Bfs os R i) (hp : R[i]? = some p) : Bfs os (R ++ ch os p) (i + 1) := by
  have hi := (List.getElem?_eq_some_iff.mp hp).1
  have hpm : p ∈ R := List.mem_of_getElem? hp
  obtain ⟨p0, p1⟩ := h.inR p hpm
  have hrow := ch_get p0 p1
  obtain ⟨cn, cr⟩ := g.row hrow
  refine ⟨by rw [List.length_append]; omega, ?_, ?_, ?_⟩
  · rw [List.take_append_of_le_length (by omega), take_snoc hp, List.flatMap_append]
    conv => lhs; rw [h.eq]
    simp
  · refine List.nodup_append.mpr ⟨h.nd, cn, fun x hx y hy z => ?_⟩
    subst z
    have hx0 := (cr x hy).1
    rw [h.eq] at hx
    rcases List.mem_cons.mp hx with rfl | hx
    · omega
    · obtain ⟨q, hq, hxq⟩ := List.mem_flatMap.mp hx
      obtain ⟨q0, q1⟩ := h.inR q (List.mem_of_mem_take hq)
      have e := g.one hrow (ch_get q0 q1) hy hxq
      have epq : p = q := by omega
      subst epq
      obtain ⟨j, hj, ej⟩ := List.mem_iff_getElem.mp hq
      rw [List.length_take] at hj
      rw [List.getElem_take] at ej
      have e2 : R[i] = p := (List.getElem?_eq_some_iff.mp hp).2
      exact List.pairwise_iff_getElem.mp h.nd j i (by omega) hi (by omega) (by rw [e2, ej])
  · intro x hx
    rcases List.mem_append.mp hx with hx | hx
    · exact h.inR x hx
    · have := cr x hx
      exact ⟨by omega, this.2⟩
theorem Bfs.last {os : List (List Int)} {R : List Int} (g : GoodO os) (h : Bfs os R R.length) : R.length = os.length := by
  have e := h.eq
  rw [List.take_length] at e
  have all : ∀ x : Int, 0 ≤ x → x < os.length → x ∈ R := g.reach (· ∈ R) (by rw [e]; exact List.mem_cons_self) fun p row hp hpR x hx => by
    rw [e]
    refine List.mem_cons_of_mem _ (List.mem_flatMap.mpr ⟨p, hpR, ?_⟩)
    have hl := (List.getElem?_eq_some_iff.mp hp).1
    have q := ch_get (os := os) (x := p) (by omega) (by omega)
    rw [Int.toNat_natCast, hp] at q
    cases q
    exact hx
  have h1 := nodup_len h.nd h.inR
  have h2 := nodup_sub (l₁ := (List.range os.length).map fun k : Nat => (k : Int)) (l₂ := R) (by
    refine List.Pairwise.map _ (fun a b hab z => hab (by omega)) List.nodup_range) fun x hx => by
      obtain ⟨k, hk, rfl⟩ := List.mem_map.mp hx
      have := List.mem_range.mp hk
      exact all k (by omega) (by omega)
  rw [List.length_map, List.length_range] at h2
  omega
end Toy

set_option Elab.async false
set_option linter.all false
set_option maxRecDepth 100000
set_option maxHeartbeats 4000000
namespace Toy
open PySem L2
abbrev OL (H : Hp) (vs : List V) (os : List (List Int)) : Prop := RL H vs (os.map some)
theorem OL.get {H : Hp} {vs : List V} {os : List (List Int)} (h : OL H vs os) {p : Nat} {v : V} (hv : vs[p]? = some v) : ∃ r l, v = .ref r ∧ os[p]? = some l ∧ H r = some (.lst (l.map V.int)) := by
  obtain ⟨row, hr, q⟩ := RL.get h hv
  rw [List.getElem?_map] at hr
  obtain ⟨l, hl, rfl⟩ := Option.map_eq_some_iff.mp hr
  obtain ⟨r, e, q⟩ := q
  exact ⟨r, l, e, hl, q⟩
theorem OL.at {H : Hp} {vs : List V} {os : List (List Int)} (h : OL H vs os) {p : Nat} {l : List Int} (hl : os[p]? = some l) : ∃ r, vs[p]? = some (.ref r) ∧ H r = some (.lst (l.map V.int)) := by
  have hp := (List.getElem?_eq_some_iff.mp hl).1
  have e : vs[p]? = some (vs[p]'(by rw [h.len, List.length_map]; exact hp)) := List.getElem?_eq_getElem _
  obtain ⟨r, l', e', hl', q⟩ := OL.get h e
  rw [hl] at hl'
  cases hl'
  exact ⟨r, by rw [e, e'], q⟩
def atLen (σ : St) : Nat := match σ with
  | [_, _, some (.int i)] => i.toNat
  | _ => 0
section
variable {P : Program} {w : World} {K : PySem.W.Frag} {mg : Str → Option Value} {base : Heap} {A : Adr}
def spOrd : Sp := fun vs H Q _ => ∃ (a : Addr) (xs : List V) (os : List (List Int)), vs = [.ref a] ∧ H a = some (.lst xs) ∧ OL H xs os ∧ GoodO os ∧ ∀ H', Same H H' → Q (.bl true) H'
theorem sc_nobody_is_called_twice : FnScope ["orders", "called", "row", "person"] ["orders"] (defScope s_nobody_is_called_twice) := ⟨rfl, rfl, rfl, by decide +kernel, rfl, by decide +kernel, by decide +kernel⟩
theorem ok_nobody_is_called_twice (T : Txt K mg A) : FnOk P w K mg base CX0 3 A.f_nobody_is_called_twice A.d_nobody_is_called_twice ["orders"] spOrd := by
  have G_is_person := ok_is_person (P := P) (w := w) (base := base) T
  refine T.f_nobody_is_called_twice.ok sc_nobody_is_called_twice (fun vs H Q E h => ?_) (fun cdv A' outer s H vs Q E hr h => ?_)
  · obtain ⟨a, xs, os, rfl, _⟩ := h
    rfl
  · obtain ⟨a, xs, os, rfl, hH, hO, g, k⟩ := h
    have hxl : xs.length = os.length := by rw [hO.len, List.length_map]
    have hfl : os.flatten.length ≤ 40 := Nat.le_trans (nodup_len (n := os.length) g.nd fun x hx => by have := g.inR x hx; omega) g.n40
    refine ⟨_, (pss_cons (ps_set (i := 1) sc_nobody_is_called_twice.nd rfl (Or.inl rfl) (pe_callTy0 call_set0 (by rfl) T.n_set (by decide +kernel)))
      (pss_cons (ps_for PassesOwn.never rfl (pi_listK K (pv 0)) (pg_name (i := 2) sc_nobody_is_called_twice.nd rfl (Or.inl rfl)) (pss_cons (ps_if (pt_not (pt_val (pe_callB (cr_isiK K) (by rfl) T.n_isinstance (by decide +kernel) (@pa_cons _ _ _ _ _ (pv 2) (@pa_cons _ _ _ _ _ (pe_bltn (v := .ty "list") (by rfl) T.n_list (by decide +kernel) rfl) pa_nil (by rfl)) (by rfl))))) (pss_one (ps_ret pe_bl)) pss_nil)
      (pss_one (ps_for PassesOwn.never rfl (pi_listK K (pv 2)) (pg_name (i := 3) sc_nobody_is_called_twice.nd rfl (Or.inl rfl)) (pss_cons (ps_if (PW.pt (pw_or (pt_not (pt_val (pe_call G_is_person (hr.mono (by decide)) (by rfl) T.m_is_person T.k_is_person T.b_is_person .nil pass0 (@pa_cons _ _ _ _ _ (pv 3) (@pa_cons _ _ _ _ _ (pe_callB (call_len_seqK K) (by rfl) T.n_len PySem.boot_len (@pa_cons _ _ _ _ _ (pv 0) pa_nil (by rfl))) pa_nil (by rfl)) (by rfl))))) (pw_or (pt_cmpR op_eq (pv 3) pe_int (nomark _)) (pw_or1 (pt_cmpR op_in_set (pv 3) (pv 1) (by with_unfolding_all rfl)))))) (pss_one (ps_ret pe_bl)) pss_nil)
      (pss_one (ps_expr (pe_bmK K PySem.F.plainAttrs_set PySem.F.slot_set_add PySem.F.type_set_add mt_add (pv 1) (@pa_cons _ _ _ _ _ (pv 3) pa_nil (by rfl))))))))))
      (pss_one (ps_ret pe_bl)))), ?_⟩
    refine ⟨rfl, fun c hc => ?_⟩
    have s0 : Same H (upd H c (.set (fun _ => false) 0)) := Same.new hc
    refine ⟨_, rfl, a, rfl, ⟨_, SqL.of (s0 _ _ hH)⟩, for_list (K := K) (a := a) (xs := xs)
      (fun i σ H2 => ∃ (x y : Option V), σ = [some (.ref a), some (.ref c), x, y] ∧ Same H H2 ∧ H2 c = some (.set (fun k => decide (k ∈ (os.take i).flatten)) (os.take i).flatten.length))
      ⟨none, none, rfl, s0, by rw [upd_same]; simp⟩ (fun i σ H2 _ ⟨_, _, _, s2, _⟩ => SqL.of (s2 _ _ hH)) ?_ ?_⟩
    · rintro i x σ H2 hi ⟨x0, y0, rfl, s2, hS⟩
      obtain ⟨r, l, rfl, hl, hr0⟩ := OL.get hO hi
      refine ⟨_, rfl, .ref r, .ty "list", _, true, rfl, .lst (s2 _ _ hr0), (fun u hu => kitL hu), true, rfl, iteF ?_⟩
      refine ⟨_, rfl, r, rfl, ⟨_, SqL.of (s2 _ _ hr0)⟩, for_list (K := K) (a := r) (xs := l.map V.int)
        (fun j σ H3 => ∃ (y : Option V), σ = [some (.ref a), some (.ref c), some (.ref r), y] ∧ Same H H3 ∧ H3 c = some (.set (fun k => decide (k ∈ (os.take i).flatten ++ l.take j)) ((os.take i).flatten ++ l.take j).length))
        ⟨_, rfl, s2, by rw [hS]; simp⟩ (fun j σ H3 _ ⟨_, _, s3, _⟩ => SqL.of (s3 _ _ hr0)) ?_ ?_⟩
      · rintro j x σ H3 hj ⟨y1, rfl, s3, hS3⟩
        obtain ⟨p, hp, rfl⟩ := map_int_get hj
        have hpl : p ∈ l := List.mem_of_getElem? hp
        obtain ⟨q0, q1⟩ := (g.row hl).2 p hpl
        refine ⟨_, rfl, _, rfl, a, xs, rfl, .inl (SqL.of (s3 _ _ hH)), p, xs.length, rfl, _, rfl, ?_⟩
        rw [decide_eq_true ⟨by omega, by omega⟩]
        refine iteF ⟨_, rfl, rfl, _, rfl, ?_⟩
        rw [decide_eq_false (fun z => by injection z with z; omega)]
        have nin : p ∉ (os.take i).flatten ++ l.take j := by
          intro hm
          rcases List.mem_append.mp hm with hm | hm
          · obtain ⟨row, hrow, hpr⟩ := List.mem_flatten.mp hm
            obtain ⟨q, hq, eq⟩ := List.mem_iff_getElem.mp hrow
            rw [List.length_take] at hq
            rw [List.getElem_take] at eq
            have := g.one (p := q) (row := row) (by rw [List.getElem?_eq_getElem (by omega), eq]) hl hpr hpl
            omega
          · obtain ⟨q, hq, eq⟩ := List.mem_iff_getElem.mp hm
            rw [List.length_take] at hq
            rw [List.getElem_take] at eq
            obtain ⟨hjl, ej⟩ := List.getElem?_eq_some_iff.mp hp
            exact List.pairwise_iff_getElem.mp (g.row hl).1 q j (by omega) hjl (by omega) (by rw [eq, ej])
        refine iteF ⟨_, rfl, _, rfl, c, p, _, _, rfl, rfl, hS3, _, rfl, ?_⟩
        rw [decide_eq_false nin]
        have hle : ((os.take i).flatten ++ l.take j).length ≤ 200 := by
          have a1 : (os.take i).flatten.length ≤ os.flatten.length := by
            conv => rhs; rw [← List.take_append_drop i os, List.flatten_append]
            rw [List.length_append]
            omega
          have a2 : l.length ≤ 40 := Nat.le_trans (nodup_len (n := os.length) (g.row hl).1 fun x hx => by have := (g.row hl).2 x hx; omega) g.n40
          rw [List.length_append, List.length_take]
          omega
        refine iteF ⟨_, rfl, .inr (.inr (.inr ⟨rfl, _, _, hS3⟩)), _, rfl, c, p, _, _, rfl, rfl, hS3, Nat.lt_of_le_of_lt (Nat.succ_le_succ hle) (by decide), _, rfl, s3.upd hc, ?_⟩
        rw [upd_same, take_snoc hp, ← List.append_assoc]
        rw [if_neg (by rw [decide_eq_false nin]; simp)]
        have e1 : (fun k => decide (k ∈ (os.take i).flatten ++ l.take j) || decide (k = p)) = fun k => decide (k ∈ (os.take i).flatten ++ l.take j ++ [p]) := by
          funext k
          rw [Bool.eq_iff_iff]
          simp [or_assoc]
        rw [e1]
        simp [Nat.add_assoc]
      · rintro σ H3 ⟨y1, rfl, s3, hS3⟩
        rw [List.length_map, List.take_length] at hS3
        refine ⟨_, _, rfl, s3, ?_⟩
        rw [hS3, take_snoc hl, List.flatten_append]
        simp
    · rintro σ H2 ⟨x0, y0, rfl, s2, hS⟩
      exact k H2 s2
theorem sc_all_are_come_to : FnScope ["orders", "reached", "at"] ["orders"] (defScope s_all_are_come_to) := ⟨rfl, rfl, rfl, by decide +kernel, rfl, by decide +kernel, by decide +kernel⟩
theorem ok_all_are_come_to (T : Txt K mg A) : FnOk P w K mg base CX0 1 A.f_all_are_come_to A.d_all_are_come_to ["orders"] spOrd := by
  refine T.f_all_are_come_to.ok sc_all_are_come_to (fun vs H Q E h => ?_) (fun cdv A' outer s H vs Q E hr h => ?_)
  · obtain ⟨a, xs, os, rfl, _⟩ := h
    rfl
  · obtain ⟨a, xs, os, rfl, hH, hO, g, k⟩ := h
    have hxl : xs.length = os.length := by rw [hO.len, List.length_map]
    refine ⟨_, (pss_cons (ps_set (i := 1) sc_all_are_come_to.nd rfl (Or.inl rfl) (@pe_lst _ _ _ _ (@pa_cons _ _ _ _ _ pe_int pa_nil (by rfl))))
      (pss_cons (ps_set (i := 2) sc_all_are_come_to.nd rfl (Or.inl rfl) pe_int)
      (pss_cons (ps_while PassesOwn.never (pt_cmpR op_lt (pv 2) (pe_callB (call_len_seqK K) (by rfl) T.n_len PySem.boot_len (@pa_cons _ _ _ _ _ (pv 1) pa_nil (by rfl))) (nomark _)) (pss_cons (ps_expr (pe_bmK K PySem.F.plainAttrs_list PySem.F.slot_list_extend PySem.F.type_list_extend mt_extend (pv 1) (@pa_cons _ _ _ _ _ (pe_ix (ix_listK K) (pv 0) (pe_ix (ix_listK K) (pv 1) (pv 2) (fun _ _ => rfl)) (fun _ _ => rfl)) pa_nil (by rfl))))
      (pss_one (ps_aug (i := 2) sc_all_are_come_to.nd rfl (Or.inl rfl) pe_int ip_add))))
      (pss_one (ps_ret (pe_cmpR op_eq (pe_callB (call_len_seqK K) (by rfl) T.n_len PySem.boot_len (@pa_cons _ _ _ _ _ (pv 1) pa_nil (by rfl))) (pe_callB (call_len_seqK K) (by rfl) T.n_len PySem.boot_len (@pa_cons _ _ _ _ _ (pv 0) pa_nil (by rfl))) (nomark _))))))), ?_⟩
    refine ⟨(by show 1 ≤ sizeLine; decide), fun r hr0 => ?_⟩
    have s0 : Same H (upd H r (.lst [.int 0])) := Same.new hr0
    refine while_by (fun σ H2 => ∃ (R : List Int) (i : Nat), σ = [some (.ref a), some (.ref r), some (.int (i : Int))] ∧ Same H H2 ∧ H2 r = some (.lst (R.map V.int)) ∧ Bfs os R i)
      (fun σ _ => 41 - atLen σ) ⟨[0], 0, rfl, s0, upd_same, Bfs.start g⟩ ?_ ?_
    · rintro σ H2 ⟨R, i, rfl, s2, hR, hB⟩
      have hRl : R.length ≤ 40 := Nat.le_trans (nodup_len hB.nd hB.inR) g.n40
      refine ⟨_, rfl, _, rfl, r, _, rfl, .inl (SqL.of hR), _, _, rfl, rfl, _, rfl, ?_⟩
      rw [List.length_map]
      refine ite2 (fun hlt => ?_) (fun hlt => ?_)
      · have hlt : i < R.length := by
          have := of_decide_eq_true hlt
          omega
        obtain ⟨p, hp⟩ : ∃ p, R[i]? = some p := ⟨_, List.getElem?_eq_getElem hlt⟩
        obtain ⟨p0, p1⟩ := hB.inR p (List.mem_of_getElem? hp)
        obtain ⟨r1, hr1, hr1H⟩ := OL.at hO (ch_get p0 p1)
        have hB2 := hB.step g hp
        have hl2 : (R ++ ch os p).length ≤ 40 := Nat.le_trans (nodup_len hB2.nd hB2.inR) g.n40
        refine ⟨_, rfl, .inl ⟨rfl, _, SqL.of hR⟩, ?_⟩
        refine ⟨_, rfl, _, rfl, _, rfl, r, _, _, _, rfl, rfl, SqL.of hR, at_of (j := i) rfl (by rw [List.getElem?_map, hp]; rfl), a, _, p, _, rfl, rfl, SqL.of (s2 _ _ hH), at_of (j := p.toNat) (by omega) hr1, ?_⟩
        refine ⟨r, r1, _, _, rfl, rfl, hR, s2 _ _ hr1H, ?_, ?_⟩
        · rw [List.length_map, List.length_map]
          rw [List.length_append] at hl2
          exact Nat.le_of_lt (small1000 (by omega))
        · refine ⟨_, rfl, _, _, rfl, rfl, ⟨R ++ ch os p, i + 1, rfl, s2.upd hr0, ?_, hB2⟩, ?_⟩
          · rw [upd_same, List.map_append]
          · show 41 - atLen [_, _, some (.int ((i : Int) + 1))] < 41 - atLen [_, _, some (.int (i : Int))]
            unfold atLen
            show 41 - ((i : Int) + 1).toNat < 41 - ((i : Int)).toNat
            omega
      · have hge : ¬ i < R.length := fun z => hlt (decide_eq_true (by omega))
        have hi : i = R.length := by
          have := hB.le
          omega
        subst hi
        have hl := hB.last g
        refine ⟨_, rfl, r, _, rfl, .inl (SqL.of hR), _, rfl, a, _, rfl, .inl (SqL.of (s2 _ _ hH)), rfl, ?_⟩
        rw [List.length_map, hl, hxl, decide_eq_true rfl]
        exact k H2 s2
    · intro σ H3 Q1 Q2 hq hc
      obtain ⟨v1, e1, v2, e3, p2, y2, e4, h4, i1, j1, e5, e6, b1, e7, q1⟩ := hc
      exact ⟨v1, e1, v2, e3, p2, y2, e4, h4, i1, j1, e5, e6, b1, e7, hq _ _ q1⟩
theorem sc_is_orders : FnScope ["orders"] ["orders"] (defScope s_is_orders) := ⟨rfl, rfl, rfl, by decide +kernel, rfl, by decide +kernel, by decide +kernel⟩
theorem ok_is_orders (T : Txt K mg A) : FnOk P w K mg base CX0 4 A.f_is_orders A.d_is_orders ["orders"] spOrd := by
  have G_nobody_is_called_twice := ok_nobody_is_called_twice (P := P) (w := w) (base := base) T
  have G_all_are_come_to := ok_all_are_come_to (P := P) (w := w) (base := base) T
  refine T.f_is_orders.ok sc_is_orders (fun vs H Q E h => ?_) (fun cdv A' outer s H vs Q E hr h => ?_)
  · obtain ⟨a, xs, os, rfl, _⟩ := h
    rfl
  · obtain ⟨a, xs, os, rfl, hH, hO, g, k⟩ := h
    have hxl : xs.length = os.length := by rw [hO.len, List.length_map]
    have n1 := g.n1
    have n40 := g.n40
    refine ⟨_, (pss_cons (ps_if (PW.pt (pw_or (pt_not (pt_val (pe_callB (cr_isiK K) (by rfl) T.n_isinstance (by decide +kernel) (@pa_cons _ _ _ _ _ (pv 0) (@pa_cons _ _ _ _ _ (pe_bltn (v := .ty "list") (by rfl) T.n_list (by decide +kernel) rfl) pa_nil (by rfl)) (by rfl))))) (pw_or1 (pt_not (pt_chain op_le op_le pe_int (pe_callB (call_len_seqK K) (by rfl) T.n_len PySem.boot_len (@pa_cons _ _ _ _ _ (pv 0) pa_nil (by rfl))) (pe_glob (v := .int 40) (by rfl) T.g_MOST_PEOPLE ⟨_, rfl⟩)))))) (pss_one (ps_ret pe_bl)) pss_nil)
      (pss_one (ps_ret (pe_and (pe_call G_nobody_is_called_twice (hr.mono (by decide)) (by rfl) T.m_nobody_is_called_twice T.k_nobody_is_called_twice T.b_nobody_is_called_twice .nil pass0 (@pa_cons _ _ _ _ _ (pv 0) pa_nil (by rfl))) (pe_one (pe_call G_all_are_come_to (hr.mono (by decide)) (by rfl) T.m_all_are_come_to T.k_all_are_come_to T.b_all_are_come_to .nil pass0 (@pa_cons _ _ _ _ _ (pv 0) pa_nil (by rfl)))))))), ?_⟩
    refine ⟨_, rfl, .ref a, .ty "list", _, true, rfl, .lst hH, (fun u hu => kitL hu), true, rfl, iteF ?_⟩
    refine ⟨_, rfl, a, xs, rfl, .inl (SqL.of hH), _, _, rfl, rfl, _, rfl, ?_⟩
    rw [decide_eq_true (by omega)]
    refine iteT ⟨_, _, rfl, rfl, _, rfl, ?_⟩
    rw [decide_eq_true (by omega)]
    refine iteF ⟨_, rfl, a, xs, os, rfl, hH, hO, g, fun H1 s1 => ⟨true, rfl, iteT ?_⟩⟩
    exact ⟨_, rfl, a, xs, os, rfl, s1 _ _ hH, RL.mono hO s1, g, fun H2 s2 => k H2 (s1.trans s2)⟩
def spTakeO : Sp := fun vs H Q _ => ∃ (a : Addr) (xs : List V) (os : List (List Int)), vs = [.ref a] ∧ H a = some (.lst xs) ∧ OL H xs os ∧ GoodO os ∧ ∀ b xs' H', Same H H' → H b = none → H' b = some (.lst xs') → OL H' xs' os → (∀ r, V.ref r ∈ xs' → H r = none ∧ r ≠ b) → Q (.ref b) H'
theorem sc_take_orders : FnScope ["orders"] ["orders"] (defScope s_take_orders) := ⟨rfl, rfl, rfl, by decide +kernel, rfl, by decide +kernel, by decide +kernel⟩
theorem ok_take_orders (T : Txt K mg A) : FnOk P w K mg base CX0 5 A.f_take_orders A.d_take_orders ["orders"] spTakeO := by
  have G_is_orders := ok_is_orders (P := P) (w := w) (base := base) T
  have G_copied := ok_copiedR (P := P) (w := w) (base := base) T
  refine T.f_take_orders.ok sc_take_orders (fun vs H Q E h => ?_) (fun cdv A' outer s H vs Q E hr h => ?_)
  · obtain ⟨a, xs, os, rfl, _⟩ := h
    rfl
  · obtain ⟨a, xs, os, rfl, hH, hO, g, k⟩ := h
    have n40 := g.n40
    refine ⟨_, (pss_cons (ps_if (pt_not (pt_val (pe_call G_is_orders (hr.mono (by decide)) (by rfl) T.m_is_orders T.k_is_orders T.b_is_orders .nil pass0 (@pa_cons _ _ _ _ _ (pv 0) pa_nil (by rfl))))) (pss_one ps_never) pss_nil)
      (pss_one (ps_ret (pe_call G_copied (hr.mono (by decide)) (by rfl) T.m_copied T.k_copied T.b_copied .nil pass0 (@pa_cons _ _ _ _ _ (pv 0) pa_nil (by rfl)))))), ?_⟩
    refine ⟨_, rfl, a, xs, os, rfl, hH, hO, g, fun H1 s1 => ⟨true, rfl, iteF ?_⟩⟩
    exact ⟨_, rfl, a, xs, os.map some, rfl, s1 _ _ hH, RL.mono hO s1, by rw [List.length_map]; omega, fun b xs' H2 s2 hb hb2 hR hn => k b xs' H2 (s1.trans s2) (s1.free hb) hb2 hR fun r hr => ⟨s1.free (hn r hr).1, (hn r hr).2⟩⟩
def firstM (os : List (List Int)) : List (Option (List Int)) := some (ch os 0) :: List.replicate (os.length - 1) none
def spFirst : Sp := fun vs H Q _ => ∃ (a : Addr) (xs : List V) (os : List (List Int)), vs = [.ref a] ∧ H a = some (.lst xs) ∧ OL H xs os ∧ GoodO os ∧ ∀ b xs' H', Same H H' → H b = none → H' b = some (.lst xs') → RL H' xs' (firstM os) → (∀ r, V.ref r ∈ xs' → H r = none) → Q (.ref b) H'
theorem sc_first_rows : FnScope ["orders", "row"] ["orders"] (defScope s_first_rows) := ⟨rfl, rfl, rfl, by decide +kernel, rfl, by decide +kernel, by decide +kernel⟩
theorem rl_nones {H : Hp} : ∀ n, RL H (List.replicate n .non) (List.replicate n none)
  | n => ⟨by simp, fun p v row hp hr => by
    have h1 := List.eq_of_mem_replicate (List.mem_of_getElem? hp)
    have h2 := List.eq_of_mem_replicate (List.mem_of_getElem? hr)
    subst h1 h2
    exact rfl⟩
theorem RL.cons {H : Hp} {vs : List V} {rows : List (Option (List Int))} {v : V} {row : Option (List Int)} (h : RL H vs rows) (hv : RowV H v row) : RL H (v :: vs) (row :: rows) :=
  ⟨by rw [List.length_cons, List.length_cons, h.len], fun p x r hp hr => by
    cases p with
    | zero =>
      cases hp
      cases hr
      exact hv
    | succ p => exact h.at' p x r hp hr⟩
theorem cut_tail {xs : List V} (h : 1 ≤ xs.length) : cutV xs (some 1) none = xs.drop 1 := by
  unfold cutV
  have e : (1 : Int) = ((1 : Nat) : Int) := rfl
  rw [e, HT.sIx_none, HT.sIx_nat, Nat.min_eq_left h, List.take_of_length_le (by simp)]
theorem ok_first_rows (T : Txt K mg A) : FnOk P w K mg base CX0 1 A.f_first_rows A.d_first_rows ["orders"] spFirst := by
  refine T.f_first_rows.ok sc_first_rows (fun vs H Q E h => ?_) (fun cdv A' outer s H vs Q E hr h => ?_)
  · obtain ⟨a, xs, os, rfl, _⟩ := h
    rfl
  · obtain ⟨a, xs, os, rfl, hH, hO, g, k⟩ := h
    have n1 := g.n1
    have n40 := g.n40
    have hxl : xs.length = os.length := by rw [hO.len, List.length_map]
    obtain ⟨r0, hr0, hr0H⟩ := OL.at hO (ch_get (os := os) (x := 0) (by omega) (by omega))
    refine ⟨_, (pss_one (ps_ret (pe_op op_cat (@pe_lst _ _ _ _ (@pa_cons _ _ _ _ _ (pe_callTy (call_list_ofK K) (by rfl) T.n_list (by decide +kernel) (@pa_cons _ _ _ _ _ (pe_ix (ix_listK K) (pv 0) pe_int (fun _ _ => rfl)) pa_nil (by rfl))) pa_nil (by rfl))) (pe_lc (own := [("row", 1)]) rfl sc_first_rows.nd (pi_listK K (pe_slice (sl_listK K) (pv 0) (po_some pe_int) po_none)) (blkOk_by (own := [("row", 1)]) (by kernel_rfl)) (fun _ _ _ _ _ => (pg_name (i := 1) sc_first_rows.nd rfl (Or.inl rfl))) (fun _ _ _ _ _ => pts_nil) (fun _ _ _ _ _ => pe_non))))), ?_⟩
    refine ⟨_, rfl, a, _, _, _, rfl, rfl, SqL.of hH, at_of (j := 0) rfl hr0, r0, _, rfl, .inl (SqL.of hr0H), fun q hq => ⟨(by show 1 ≤ sizeLine; decide), fun p1 hp1 => ?_⟩⟩
    have s1 : Same H (upd (upd H q (.lst ((ch os 0).map V.int))) p1 (.lst [.ref q])) := by
      have a1 : Same H (upd H q (.lst ((ch os 0).map V.int))) := Same.new hq
      exact a1.upd (a1.free hp1)
    have nqp : q ≠ p1 := fun z => by
      rw [← z, upd_same] at hp1
      cases hp1
    refine ⟨_, rfl, _, rfl, a, xs, rfl, SqL.of (s1 _ _ hH), fun p2 hp2 => ?_⟩
    rw [cut_tail (by omega)]
    generalize hHe : upd (upd (upd H q (.lst ((ch os 0).map V.int))) p1 (.lst [.ref q])) p2 (.lst (xs.drop 1)) = H1
    have s2 : Same H H1 := by rw [← hHe]; exact s1.upd (s1.free hp2)
    have hp1' : H1 p1 = some (.lst [.ref q]) := by
      rw [← hHe, upd_ne (ne_of_none upd_same hp2), upd_same]
    have hq1 : H1 q = some (.lst ((ch os 0).map V.int)) := by
      rw [← hHe, upd_ne (ne_of_none (by rw [upd_ne nqp, upd_same]) hp2), upd_ne nqp, upd_same]
    have hp2' : H1 p2 = some (.lst (xs.drop 1)) := by rw [← hHe, upd_same]
    refine ⟨p2, rfl, ⟨_, SqL.of hp2'⟩, fun D hD => ?_⟩
    refine lc_list (K := K) (a := p2) (xs := xs.drop 1) (fun i H2 => Same H1 H2 ∧ H2 D = some (.lst (List.replicate i .non))) ⟨Same.new hD, by rw [upd_same]; rfl⟩ (fun i H2 _ ⟨s3, _⟩ => SqL.of (s3 _ _ hp2')) ?_ ?_
    · rintro i x H2 hi ⟨s3, hd⟩
      have hil := (List.getElem?_eq_some_iff.mp hi).1
      rw [List.length_drop] at hil
      refine ⟨rfl, yesT ⟨_, hd, ?_, s3.upd hD, ?_⟩⟩
      · rw [List.length_replicate]
        exact small1000 (by omega)
      · rw [upd_same, List.replicate_succ']
    · rintro H2 ⟨s3, hd⟩
      rw [List.length_drop, hxl] at hd
      refine ⟨p1, D, _, _, rfl, rfl, s3 _ _ hp1', hd, ?_, fun b hb => ?_⟩
      · rw [List.length_replicate]
        exact Nat.le_of_lt (small1000 (by show 1 + (os.length - 1) ≤ 1000; omega))
      · have s4 : Same H2 (upd H2 b (.lst ([.ref q] ++ List.replicate (os.length - 1) .non))) := Same.new hb
        exact k b _ _ ((s2.trans s3).trans s4) (s2.free (s3.free hb)) upd_same (RL.cons (rl_nones _) ⟨q, rfl, s4 _ _ (s3 _ _ hq1)⟩) fun r hr' => by
          rcases List.mem_cons.mp hr' with e | e
          · injection e with e
            rw [e]
            exact hq
          · exact absurd (List.eq_of_mem_replicate e) (by simp)
def idxs (f : Option (List Int) → Bool) (rows : List (Option (List Int))) : List Int := (rows.zipIdx.filter fun q => f q.1).map fun q => (q.2 : Int)
theorem idxs_snoc (f : Option (List Int) → Bool) (rows : List (Option (List Int))) (row : Option (List Int)) : idxs f (rows ++ [row]) = idxs f rows ++ (if f row = true then [(rows.length : Int)] else []) := by
  unfold idxs
  rw [List.zipIdx_append, List.filter_append, List.map_append]
  congr 1
  by_cases h : f row = true <;> simp [h]
theorem idxs_len (f : Option (List Int) → Bool) (rows : List (Option (List Int))) : (idxs f rows).length ≤ rows.length := by
  unfold idxs
  rw [List.length_map]
  exact Nat.le_trans (List.length_filter_le _ _) (by simp)
theorem idxs_mem {f : Option (List Int) → Bool} {rows : List (Option (List Int))} {x : Int} : x ∈ idxs f rows ↔ ∃ (p : Nat) (row : Option (List Int)), x = p ∧ rows[p]? = some row ∧ f row = true := by
  unfold idxs
  constructor
  · intro h
    obtain ⟨⟨row, p⟩, hq, rfl⟩ := List.mem_map.mp h
    obtain ⟨h1, h2⟩ := List.mem_filter.mp hq
    exact ⟨p, row, rfl, by simpa [List.mem_zipIdx_iff_getElem?] using h1, h2⟩
  · rintro ⟨p, row, rfl, h1, h2⟩
    exact List.mem_map.mpr ⟨(row, p), List.mem_filter.mpr ⟨by simpa [List.mem_zipIdx_iff_getElem?] using h1, h2⟩, rfl⟩
def hasC : Option (List Int) → Bool
  | some (_ :: _) => true
  | _ => false
def spCallers : Sp := fun vs H Q _ => ∃ (a : Addr) (xs : List V) (rows : List (Option (List Int))), vs = [.ref a] ∧ H a = some (.lst xs) ∧ RL H xs rows ∧ rows.length ≤ 100 ∧ ∀ b H', Same H H' → H b = none → H' b = some (.lst ((idxs hasC rows).map V.int)) → Q (.ref b) H'
theorem sc_callers : FnScope ["rows", "person", "row"] ["rows"] (defScope s_callers) := ⟨rfl, rfl, rfl, by decide +kernel, rfl, by decide +kernel, by decide +kernel⟩
theorem ok_callers (T : Txt K mg A) : FnOk P w K mg base CX0 1 A.f_callers A.d_callers ["rows"] spCallers := by
  refine T.f_callers.ok sc_callers (fun vs H Q E h => ?_) (fun cdv A' outer s H vs Q E hr h => ?_)
  · obtain ⟨a, xs, rows, rfl, _⟩ := h
    rfl
  · obtain ⟨a, xs, rows, rfl, hH, hR, hl, k⟩ := h
    refine ⟨_, (pss_one (ps_ret (pe_lc (own := [("person", 1), ("row", 2)]) rfl sc_callers.nd (pi_enumK K (by rfl) T.n_enumerate (@pa_cons _ _ _ _ _ (pv 0) pa_nil (by rfl))) (blkOk_by (own := [("person", 1), ("row", 2)]) (by kernel_rfl)) (fun _ _ _ _ _ => (pg_tupK K (n := 2) (by rfl) (pgs_cons (pg_name (i := 1) sc_callers.nd rfl (Or.inl rfl)) (pgs_cons (pg_name (i := 2) sc_callers.nd rfl (Or.inl rfl)) pgs_nil)))) (fun _ _ _ _ _ => (pts_one (PW.pt (pw_and (pt_cmpR op_notN (pv 2) pe_non (nomark _)) (pw_and1 (pt_cmpR op_gt (pe_callB (call_len_seqK K) (by rfl) T.n_len PySem.boot_len (@pa_cons _ _ _ _ _ (pv 2) pa_nil (by rfl))) pe_int (nomark _))))))) (fun _ _ _ _ _ => (pv 1))))), ?_⟩
    refine ⟨_, rfl, a, xs, rfl, SqL.of hH, fun D hD => ?_⟩
    refine lc_enum0 (K := K) (a := a) (xs := xs) (fun j H3 => Same H H3 ∧ H3 D = some (.lst ((idxs hasC (rows.take j)).map V.int))) ⟨Same.new hD, by rw [upd_same]; rfl⟩ (fun j H3 _ ⟨s3, _⟩ => SqL.of (s3 _ _ hH)) ?_ ?_
    · rintro j x t H3 hj ⟨s3, hd⟩ ht
      obtain ⟨row, hrow, hv⟩ := hR.get hj
      have hjl := (List.getElem?_eq_some_iff.mp hrow).1
      have htk : (rows.take j).length = j := by rw [List.length_take]; omega
      have s4 : Same H3 (upd H3 t (.tup [.int (j : Nat), x])) := Same.new ht
      have hd4 := s4 _ _ hd
      have hs3 : Same H (upd H3 t (.tup [.int (j : Nat), x])) := s3.trans s4
      have key : idxs hasC (rows.take (j + 1)) = idxs hasC (rows.take j) ++ (if hasC row = true then [(j : Int)] else []) := by
        rw [take_snoc hrow, idxs_snoc, htk]
      refine ⟨t, _, rfl, SqT.of upd_same, rfl, _, _, rfl, _, _, rfl, rfl, rfl, ?_⟩
      refine ⟨_, rfl, rfl, _, rfl, ?_⟩
      cases row with
      | none =>
        have hv : x = .non := hv
        subst hv
        refine ⟨hs3, ?_⟩
        rw [key]
        simpa [hasC] using hd4
      | some l =>
        obtain ⟨r, rfl, hr'⟩ := hv
        have hr4 := hs3 _ _ hr'
        refine ⟨_, rfl, r, _, rfl, .inl (SqL.of hr4), _, _, rfl, rfl, _, rfl, ?_⟩
        rw [List.length_map]
        cases l with
        | nil =>
          refine ⟨hs3, ?_⟩
          rw [key]
          simpa [hasC] using hd4
        | cons y l =>
          refine ite2 (fun _ => ?_) (fun h => absurd (decide_eq_true (by rw [List.length_cons]; omega)) h)
          refine ⟨_, rfl, _, hd4, ?_, hs3.upd hD, ?_⟩
          · rw [List.length_map]
            have := idxs_len hasC (rows.take j)
            exact small1000 (by omega)
          · rw [upd_same, key]
            simp [hasC]
    · rintro H3 ⟨s3, hd⟩
      rw [hR.len, List.take_length] at hd
      exact k D H3 s3 hD hd
end
end Toy

set_option Elab.async false
set_option linter.all false
set_option maxRecDepth 100000
set_option maxHeartbeats 4000000
namespace Toy
open PySem L2
theorem inV_ints (c : Int) : ∀ as : List Int, inV (.int c) (as.map V.int) = decide (c ∈ as)
  | [] => by simp [inV]
  | a :: r => by
    have ih := inV_ints c r
    unfold inV at ih ⊢
    rw [List.map_cons, List.any_cons, ih]
    by_cases h : a = c
    · subst h
      simp [eqV]
    · have h' : ¬ c = a := fun z => h z.symm
      simp [eqV, h, h']
theorem flat_ints : ∀ as : List Int, (as.map V.int).all flatV = true
  | [] => rfl
  | a :: r => by
    rw [List.map_cons, List.all_cons, flat_ints r]
    rfl
structure CL (H : Hp) (cs : List Addr) (calls : List (Int × Int × Bool)) : Prop where
  len : cs.length = calls.length
  at' : ∀ (p : Nat) (t : Addr) (c : Int × Int × Bool), cs[p]? = some t → calls[p]? = some c → H t = some (.tup [.int c.1, .int c.2.1, .bl c.2.2])
theorem CL.mono {H H' : Hp} {cs : List Addr} {calls : List (Int × Int × Bool)} (h : CL H cs calls) (s : Same H H') : CL H' cs calls := ⟨h.len, fun p t c a b => s _ _ (h.at' p t c a b)⟩
theorem CL.upd {H : Hp} {cs : List Addr} {calls : List (Int × Int × Bool)} {a : Addr} {o : HO} (h : CL H cs calls) (n : a ∉ cs) : CL (L2.upd H a o) cs calls :=
  ⟨h.len, fun p t c hp hc => by rw [upd_ne (fun z => n (by rw [← z]; exact List.mem_of_getElem? hp))]; exact h.at' p t c hp hc⟩
theorem CL.nil {H : Hp} : CL H [] [] := ⟨rfl, fun p t c h _ => by simp at h⟩
theorem CL.snoc {H : Hp} {cs : List Addr} {calls : List (Int × Int × Bool)} {t : Addr} {c : Int × Int × Bool} (h : CL H cs calls) (ht : H t = some (.tup [.int c.1, .int c.2.1, .bl c.2.2])) : CL H (cs ++ [t]) (calls ++ [c]) := by
  refine ⟨by rw [List.length_append, List.length_append, h.len]; rfl, fun p x r hp hr => ?_⟩
  by_cases hpi : p < cs.length
  · rw [List.getElem?_append_left hpi] at hp
    rw [List.getElem?_append_left (by rw [← h.len]; exact hpi)] at hr
    exact h.at' p x r hp hr
  · rw [List.getElem?_append_right (by omega)] at hp
    rw [List.getElem?_append_right (by rw [← h.len]; omega), ← h.len] at hr
    have e0 : p - cs.length = 0 := by
      have := (List.getElem?_eq_some_iff.mp hp).1
      simp at this
      omega
    rw [e0] at hp hr
    have e1 : t = x := by simpa using hp
    have e2 : c = r := by simpa using hr
    subst e1 e2
    exact ht
theorem RL.upd {H : Hp} {vs : List V} {rows : List (Option (List Int))} {a : Addr} {o : HO} (h : RL H vs rows) (n : V.ref a ∉ vs) : RL (L2.upd H a o) vs rows :=
  ⟨h.len, fun p v row hp hr => by
    have q := h.at' p v row hp hr
    cases row with
    | none => exact q
    | some l =>
      obtain ⟨r, e, q⟩ := q
      exact ⟨r, e, by rw [upd_ne (fun z => n (by rw [← z, ← e]; exact List.mem_of_getElem? hp))]; exact q⟩⟩
theorem RL.notin {H : Hp} {vs : List V} {rows : List (Option (List Int))} {a : Addr} (h : RL H vs rows) (ha : H a = none) : V.ref a ∉ vs := fun hm => by
  obtain ⟨p, hp⟩ := List.getElem?_of_mem hm
  obtain ⟨row, hr, q⟩ := h.get hp
  cases row with
  | none => cases q
  | some l =>
    obtain ⟨r, e, q⟩ := q
    injection e with e
    rw [← e, ha] at q
    cases q
def stepP (os : List (List Int)) (rows : List (Option (List Int))) (as : List Int) (st : List (Int × Int × Bool) × List (Option (List Int))) (c : Int) : List (Int × Int × Bool) × List (Option (List Int)) :=
  if c ∈ as then st else match rows.getD c.toNat none with
  | some (x :: rest) => if x ∈ as then (st.1 ++ [(c, x, false)], st.2.set c.toNat (some (ch os x ++ rest))) else (st.1 ++ [(c, x, true)], (st.2.set c.toNat (some rest)).set x.toNat (some (ch os x)))
  | _ => st
def nextM (os : List (List Int)) (rows : List (Option (List Int))) (as : List Int) : List (Int × Int × Bool) × List (Option (List Int)) := (idxs hasC rows).foldl (stepP os rows as) ([], rows)
structure RowsIn (os : List (List Int)) (rows : List (Option (List Int))) : Prop where
  len : rows.length = os.length
  row : ∀ (p : Nat) (l : List Int), rows[p]? = some (some l) → l.length ≤ 40 ∧ ∀ x ∈ l, 0 ≤ x ∧ x < os.length
theorem stepP_len {os : List (List Int)} {rows : List (Option (List Int))} {as : List Int} {st : List (Int × Int × Bool) × List (Option (List Int))} {c : Int} : (stepP os rows as st c).2.length = st.2.length ∧ (stepP os rows as st c).1.length ≤ st.1.length + 1 := by
  unfold stepP
  split
  · exact ⟨rfl, Nat.le_succ _⟩
  · split
    · split
      · simp
      · simp
    · exact ⟨rfl, Nat.le_succ _⟩
theorem foldP_len {os : List (List Int)} {rows : List (Option (List Int))} {as : List Int} : ∀ (cs : List Int) (st : List (Int × Int × Bool) × List (Option (List Int))), (cs.foldl (stepP os rows as) st).2.length = st.2.length ∧ (cs.foldl (stepP os rows as) st).1.length ≤ st.1.length + cs.length
  | [], st => ⟨rfl, Nat.le_refl _⟩
  | c :: r, st => by
    have h1 := stepP_len (os := os) (rows := rows) (as := as) (st := st) (c := c)
    have ih := foldP_len (os := os) (rows := rows) (as := as) r (stepP os rows as st c)
    rw [List.foldl_cons, List.length_cons]
    omega
theorem ixN_of {n j : Nat} (h : j < n) : ixN n (j : Int) = some j := by
  unfold ixN
  rw [if_pos (by omega)]
  simp [h]
theorem app_call {K : PySem.W.Frag} {D : Ends} {σ : St} {H : Hp} {c : Addr} {cs : List Addr} {p y : Int} {bl : Bool} (h3 : σ[3]? = some (some (.ref c))) (h5 : σ[5]? = some (some (.int p))) (h6 : σ[6]? = some (some (.bl bl))) (h7 : σ[7]? = some (some (.int y)))
    (hc : H c = some (.lst (cs.map V.ref))) (hl : cs.length < 1000) (q : ∀ t, H t = none → D.nx σ (L2.upd (L2.upd H t (.tup [.int p, .int y, .bl bl])) c (.lst ((cs ++ [t]).map V.ref)))) :
    tDrop (tBM K "list" rAppend (tVar 3) (tCons (tTup (tCons (tVar 5) (tCons (tVar 7) (tCons (tVar 6) tNil)))) tNil)) D σ H := by
  refine ⟨_, h3, .inl ⟨rfl, _, SqL.of hc⟩, _, h5, _, h7, _, h6, (by show 3 ≤ sizeLine; decide), fun t ht => ⟨c, _, _, rfl, rfl, (by rw [upd_ne (ne_of_none hc ht)]; exact hc), ?_, ?_⟩⟩
  · rw [List.length_map]
    exact small1000 (by omega)
  · have := q t ht
    rw [List.map_append] at this
    exact this
section
variable {P : Program} {w : World} {K : PySem.W.Frag} {mg : Str → Option Value} {base : Heap} {A : Adr}
def spNext : Sp := fun vs H Q _ => ∃ (o rr ab : Addr) (xs ys : List V) (os : List (List Int)) (rows : List (Option (List Int))) (as : List Int), vs = [.ref o, .ref rr, .ref ab] ∧ H o = some (.lst xs) ∧ OL H xs os ∧ GoodO os ∧ H rr = some (.lst ys) ∧ RL H ys rows ∧ RowsIn os rows ∧ H ab = some (.lst (as.map V.int)) ∧
  ∀ (t c b : Addr) (cs : List Addr) (zs : List V) (H' : Hp), Same H H' → H c = none → H b = none → H' t = some (.tup [.ref c, .ref b]) → H' c = some (.lst (cs.map V.ref)) → CL H' cs (nextM os rows as).1 → H' b = some (.lst zs) → RL H' zs (nextM os rows as).2 → c ≠ b → c ∉ cs → V.ref c ∉ zs → (∀ r, V.ref r ∈ zs → H r = none) → Q (.ref t) H'
theorem sc_next_round : FnScope ["orders", "rows", "absent", "calls", "behind", "caller", "there", "called", "rest"] ["orders", "rows", "absent"] (defScope s_next_round) := ⟨rfl, rfl, rfl, by decide +kernel, rfl, by decide +kernel, by decide +kernel⟩
theorem ok_next_round (T : Txt K mg A) : FnOk P w K mg base CX0 2 A.f_next_round A.d_next_round ["orders", "rows", "absent"] spNext := by
  have G_copied := ok_copiedR (P := P) (w := w) (base := base) T
  have G_callers := ok_callers (P := P) (w := w) (base := base) T
  refine T.f_next_round.ok sc_next_round (fun vs H Q E h => ?_) (fun cdv A' outer s H vs Q E hr h => ?_)
  · obtain ⟨o, rr, ab, xs, ys, os, rows, as, rfl, _⟩ := h
    rfl
  · obtain ⟨o, rr, ab, xs, ys, os, rows, as, rfl, ho, hO, g, hrr, hR, hin, hab, k⟩ := h
    have n40 := g.n40
    have hrl := hin.len
    refine ⟨_, (pss_cons (ps_set (i := 3) sc_next_round.nd rfl (Or.inl rfl) (@pe_lst _ _ _ _ pa_nil))
      (pss_cons (ps_set (i := 4) sc_next_round.nd rfl (Or.inl rfl) (pe_call G_copied (hr.mono (by decide)) (by rfl) T.m_copied T.k_copied T.b_copied .nil pass0 (@pa_cons _ _ _ _ _ (pv 1) pa_nil (by rfl))))
      (pss_cons (ps_for PassesOwn.never rfl (pi_listK K (pe_call G_callers (hr.mono (by decide)) (by rfl) T.m_callers T.k_callers T.b_callers .nil pass0 (@pa_cons _ _ _ _ _ (pv 1) pa_nil (by rfl)))) (pg_name (i := 5) sc_next_round.nd rfl (Or.inl rfl)) (pss_cons (ps_if (pt_cmpR (op_in_seqK K) (pv 5) (pv 2) (by with_unfolding_all rfl)) (pss_one ps_continue) pss_nil)
      (pss_cons (ps_asg (pe_ix (ix_listK K) (pv 1) (pv 5) (fun _ _ => rfl)) (pg_starK K (by rfl) (pgs_cons (pg_name (i := 7) sc_next_round.nd rfl (Or.inl rfl)) (pgs_cons (pg_name (i := 8) sc_next_round.nd rfl (Or.inl rfl)) pgs_nil))))
      (pss_cons (ps_set (i := 6) sc_next_round.nd rfl (Or.inl rfl) (pe_cmpR (op_notIn_seqK K) (pv 7) (pv 2) (by with_unfolding_all rfl)))
      (pss_cons (ps_if (pt_val (pv 6)) (pss_cons (ps_asg (pv 8) (pg_sub (pv 4) (pv 5) set_list))
      (pss_one (ps_asg (pe_callTy (call_list_ofK K) (by rfl) T.n_list (by decide +kernel) (@pa_cons _ _ _ _ _ (pe_ix (ix_listK K) (pv 0) (pv 7) (fun _ _ => rfl)) pa_nil (by rfl))) (pg_sub (pv 4) (pv 7) set_list)))) (pss_one (ps_asg (pe_op op_cat (pe_ix (ix_listK K) (pv 0) (pv 7) (fun _ _ => rfl)) (pv 8)) (pg_sub (pv 4) (pv 5) set_list))))
      (pss_one (ps_expr (pe_bmK K PySem.F.plainAttrs_list PySem.F.slot_list_append PySem.F.type_list_append mt_append (pv 3) (@pa_cons _ _ _ _ _ (@pe_tup _ _ _ _ _ (@pa_cons _ _ _ _ _ (pv 5) (@pa_cons _ _ _ _ _ (pv 7) (@pa_cons _ _ _ _ _ (pv 6) pa_nil (by rfl)) (by rfl)) (by rfl))) pa_nil (by rfl))))))))))
      (pss_one (ps_ret (@pe_tup _ _ _ _ _ (@pa_cons _ _ _ _ _ (pv 3) (@pa_cons _ _ _ _ _ (pv 4) pa_nil (by rfl)) (by rfl)))))))), ?_⟩
    refine ⟨Nat.zero_le _, fun c hc => ?_⟩
    have s0 : Same H (upd H c (.lst [])) := Same.new hc
    refine ⟨_, rfl, rr, ys, rows, rfl, s0 _ _ hrr, hR.mono s0, by omega, fun b zs H1 s1 hb0 hb hZ hzn => ?_⟩
    have hc1 : H1 c = some (.lst []) := s1 _ _ upd_same
    have s01 := s0.trans s1
    have nbc : c ≠ b := fun z => by
      rw [← z, upd_same] at hb0
      cases hb0
    have hbH : H b = none := s0.free hb0
    refine ⟨_, rfl, rr, ys, rows, rfl, s01 _ _ hrr, hR.mono s01, by omega, fun cl H2 s2 hcl0 hcl => ?_⟩
    have s02 := s01.trans s2
    have hclH : H cl = none := s01.free hcl0
    have ncl : c ≠ cl := ne_of_none hc1 hcl0
    have nbl : b ≠ cl := ne_of_none hb hcl0
    generalize hcsd : idxs hasC rows = callers at hcl
    refine ⟨cl, rfl, ⟨_, SqL.of hcl⟩, for_list (K := K) (a := cl) (xs := callers.map V.int)
      (fun i σ H3 => ∃ (cs : List Addr) (zs : List V) (x5 x6 x7 x8 : Option V), σ = [some (.ref o), some (.ref rr), some (.ref ab), some (.ref c), some (.ref b), x5, x6, x7, x8] ∧ Same H H3 ∧ H3 cl = some (.lst (callers.map V.int)) ∧ H3 c = some (.lst (cs.map V.ref)) ∧ CL H3 cs ((callers.take i).foldl (stepP os rows as) ([], rows)).1 ∧ H3 b = some (.lst zs) ∧ RL H3 zs ((callers.take i).foldl (stepP os rows as) ([], rows)).2 ∧ c ∉ cs ∧ b ∉ cs ∧ V.ref c ∉ zs ∧ V.ref b ∉ zs ∧ ∀ r, V.ref r ∈ zs → H r = none)
      ⟨[], zs, _, _, _, _, rfl, s02, hcl, s2 _ _ hc1, CL.nil, s2 _ _ hb, hZ.mono s2, by simp, by simp, fun h1 => ?_, fun h1 => ?_, fun r hr' => s0.free (hzn r hr').1⟩ (fun i σ H3 _ ⟨_, _, _, _, _, _, _, _, q, _⟩ => SqL.of q) ?_ ?_⟩
    · have := (hzn c h1).1
      rw [upd_same] at this
      cases this
    · exact (hzn b h1).2 rfl
    · rintro i x σ H3 hi ⟨cs, zs, x5, x6, x7, x8, rfl, s3, hcl3, hc3, hC3, hb3, hZ3, n1, n2, n3, n4, n5⟩
      obtain ⟨p, hp, rfl⟩ := map_int_get hi
      have hpm : p ∈ idxs hasC rows := by rw [hcsd]; exact List.mem_of_getElem? hp
      obtain ⟨pn, row, rfl, hrow, hhas⟩ := idxs_mem.mp hpm
      obtain ⟨y, rest, rfl⟩ : ∃ y rest, row = some (y :: rest) := by
        cases row with
        | none => cases hhas
        | some l =>
          cases l with
          | nil => cases hhas
          | cons y l => exact ⟨y, l, rfl⟩
      obtain ⟨hl40, hyin⟩ := hin.row pn _ hrow
      obtain ⟨y0, y1⟩ := hyin y List.mem_cons_self
      have hpl := (List.getElem?_eq_some_iff.mp hrow).1
      generalize hst : (callers.take i).foldl (stepP os rows as) ([], rows) = st at hC3 hZ3
      have hst1 : (callers.take (i + 1)).foldl (stepP os rows as) ([], rows) = stepP os rows as st pn := by
        rw [take_snoc hp, List.foldl_append, hst]
        rfl
      have hlen := foldP_len (os := os) (rows := rows) (as := as) (callers.take i) ([], rows)
      rw [hst, List.length_take] at hlen
      have hcll : callers.length ≤ rows.length := by rw [← hcsd]; exact idxs_len _ _
      have hrd : rows.getD ((pn : Int)).toNat none = some (y :: rest) := by
        rw [Int.toNat_natCast, List.getD_eq_getElem?_getD, hrow]
        rfl
      rw [hst1]
      refine ⟨_, rfl, _, rfl, ab, as.map V.int, rfl, .inl (SqL.of (s3 _ _ hab)), rfl, flat_ints as, _, rfl, ?_⟩
      rw [if_neg (by simp), inV_ints]
      refine ite2 (fun ha => ?_) (fun ha => ?_)
      · have ha := of_decide_eq_true ha
        have e : stepP os rows as st pn = st := by
          unfold stepP
          rw [if_pos ha]
        rw [e]
        exact ⟨cs, zs, _, _, _, _, rfl, s3, hcl3, hc3, hC3, hb3, hZ3, n1, n2, n3, n4, n5⟩
      · have ha : ¬ (pn : Int) ∈ as := fun z => ha (decide_eq_true z)
        have hysl : pn < ys.length := by rw [hR.len]; exact hpl
        obtain ⟨v, hv⟩ : ∃ v, ys[pn]? = some v := ⟨_, List.getElem?_eq_getElem hysl⟩
        obtain ⟨r1, rfl, hr1⟩ := hR.at' pn v _ hv hrow
        refine ⟨_, rfl, _, rfl, rr, _, _, _, rfl, rfl, SqL.of (s3 _ _ hrr), at_of (j := pn) rfl hv, ?_⟩
        refine ⟨r1, .int y, rest.map V.int, rfl, SqL.of (s3 _ _ hr1), fun p1 hp1 => ⟨_, _, rfl, _, _, rfl, rfl, ?_⟩⟩
        have np1 : ∀ {d u}, H3 d = some u → d ≠ p1 := fun {d u} z => ne_of_none z hp1
        have s4 : Same H (upd H3 p1 (.lst (rest.map V.int))) := s3.upd (s3.free hp1)
        have m4 : Same H3 (upd H3 p1 (.lst (rest.map V.int))) := Same.new hp1
        have hrest : (upd H3 p1 (.lst (rest.map V.int))) p1 = some (.lst (rest.map V.int)) := upd_same
        have hb4 := m4 _ _ hb3
        have hc4 := m4 _ _ hc3
        have hcl4 := m4 _ _ hcl3
        have hC4 := hC3.mono m4
        have hZ4 := hZ3.mono m4
        have npc : c ≠ p1 := np1 hc3
        have npb : b ≠ p1 := np1 hb3
        have npl : cl ≠ p1 := np1 hcl3
        generalize upd H3 p1 (.lst (rest.map V.int)) = H4 at s4 m4 hrest hb4 hc4 hcl4 hC4 hZ4
        have hzl : zs.length = rows.length := by rw [hZ4.len, hlen.1]
        have hcsl : cs.length < 1000 := by
          rw [hC4.len]
          have := hlen.2
          simp only [List.length_nil] at this
          omega
        obtain ⟨r2, hr2, hr2H⟩ := OL.at hO (ch_get y0 y1)
        have hlch : (ch os y).length ≤ 40 := Nat.le_trans (nodup_len (n := os.length) (g.row (ch_get y0 y1)).1 fun x hx => by have := (g.row (ch_get y0 y1)).2 x hx; omega) n40
        refine ⟨_, rfl, _, rfl, ab, as.map V.int, rfl, .inl (SqL.of (s4 _ _ hab)), rfl, flat_ints as, ?_⟩
        rw [if_pos rfl, inV_ints]
        have ncb : b ≠ c := Ne.symm nbc
        by_cases hy : y ∈ as
        · rw [decide_eq_true hy]
          refine ⟨_, rfl, _, rfl, ?_⟩
          refine iteF ?_
          refine ⟨_, rfl, _, rfl, o, _, y, _, rfl, rfl, SqL.of (s4 _ _ ho), at_of (j := y.toNat) (by omega) hr2, _, rfl, r2, p1, _, _, rfl, rfl, s4 _ _ hr2H, hrest, ?_, fun p2 hp2 => ?_⟩
          · rw [List.length_map, List.length_map]
            rw [List.length_cons] at hl40
            exact Nat.le_of_lt (small1000 (by omega))
          · have np2 : ∀ {d u}, H4 d = some u → d ≠ p2 := fun {d u} z => ne_of_none z hp2
            have m5 : Same H4 (upd H4 p2 (.lst ((ch os y).map V.int ++ rest.map V.int))) := Same.new hp2
            have hn5 : (upd H4 p2 (.lst ((ch os y).map V.int ++ rest.map V.int))) p2 = some (.lst ((ch os y ++ rest).map V.int)) := by rw [upd_same, List.map_append]
            have hb5 := m5 _ _ hb4
            have hc5 := m5 _ _ hc4
            have hcl5 := m5 _ _ hcl4
            have hC5 := hC4.mono m5
            have hZ5 := hZ4.mono m5
            have s5 := s4.trans m5
            have npb2 : p2 ≠ b := Ne.symm (np2 hb4)
            have npc2 : p2 ≠ c := Ne.symm (np2 hc4)
            generalize upd H4 p2 (.lst ((ch os y).map V.int ++ rest.map V.int)) = H5 at m5 hn5 hb5 hc5 hcl5 hC5 hZ5 s5
            refine ⟨_, rfl, _, rfl, b, zs, (pn : Int), pn, rfl, rfl, hb5, ixN_of (by omega), ?_⟩
            have e : stepP os rows as st pn = (st.1 ++ [((pn : Int), y, false)], st.2.set pn (some (ch os y ++ rest))) := by
              unfold stepP
              rw [if_neg ha, hrd]
              simp only
              rw [if_pos hy, Int.toNat_natCast]
            have nzc : V.ref c ∉ zs.set pn (.ref p2) := fun hm => by
              rcases List.mem_or_eq_of_mem_set hm with h1 | h1
              · exact n3 h1
              · injection h1 with h1
                exact npc2 h1.symm
            have nzb : V.ref b ∉ zs.set pn (.ref p2) := fun hm => by
              rcases List.mem_or_eq_of_mem_set hm with h1 | h1
              · exact n4 h1
              · injection h1 with h1
                exact npb2 h1.symm
            have hZ6 : RL (upd H5 b (.lst (zs.set pn (.ref p2)))) (zs.set pn (.ref p2)) (st.2.set pn (some (ch os y ++ rest))) := (hZ5.set (row := some (ch os y ++ rest)) ⟨p2, rfl, hn5⟩ pn).upd nzb
            have hc6 : (upd H5 b (.lst (zs.set pn (.ref p2)))) c = some (.lst (cs.map V.ref)) := by rw [upd_ne nbc]; exact hc5
            have hb6 : (upd H5 b (.lst (zs.set pn (.ref p2)))) b = some (.lst (zs.set pn (.ref p2))) := upd_same
            have hC6 : CL (upd H5 b (.lst (zs.set pn (.ref p2)))) cs st.1 := hC5.upd n2
            have hcl6 : (upd H5 b (.lst (zs.set pn (.ref p2)))) cl = some (.lst (callers.map V.int)) := by rw [upd_ne (Ne.symm nbl)]; exact hcl5
            have s6 : Same H (upd H5 b (.lst (zs.set pn (.ref p2)))) := s5.upd hbH
            generalize upd H5 b (.lst (zs.set pn (.ref p2))) = H6 at hZ6 hc6 hb6 hC6 hcl6 s6
            refine app_call (cs := cs) rfl rfl rfl rfl hc6 hcsl fun t ht => ?_
            have m7 : Same H6 (upd H6 t (.tup [.int (pn : Int), .int y, .bl false])) := Same.new ht
            have nt : ∀ {d u}, H6 d = some u → d ≠ t := fun {d u} z => ne_of_none z ht
            have nct : c ∉ cs ++ [t] := fun hm => by
              rcases List.mem_append.mp hm with h1 | h1
              · exact n1 h1
              · exact nt hc6 (List.mem_singleton.mp h1)
            refine ⟨cs ++ [t], zs.set pn (.ref p2), _, _, _, _, rfl, (s6.trans m7).upd hc, ?_, upd_same, ?_, ?_, ?_, nct, ?_, nzc, nzb, fun r' hr' => ?_⟩
            · rw [upd_ne (Ne.symm ncl)]
              exact m7 _ _ hcl6
            · rw [e]
              exact ((hC6.mono m7).snoc (c := ((pn : Int), y, false)) upd_same).upd nct
            · rw [upd_ne ncb]
              exact m7 _ _ hb6
            · rw [e]
              exact (hZ6.mono m7).upd nzc
            · intro hm
              rcases List.mem_append.mp hm with h1 | h1
              · exact n2 h1
              · exact nt hb6 (List.mem_singleton.mp h1)
            · rcases List.mem_or_eq_of_mem_set hr' with h1 | h1
              · exact n5 r' h1
              · injection h1 with h1
                rw [h1]
                exact s4.free hp2
        · rw [decide_eq_false hy]
          refine ⟨_, rfl, _, rfl, ?_⟩
          refine iteT ?_
          have ey : ((y.toNat : Nat) : Int) = y := by omega
          refine ⟨_, rfl, _, rfl, _, rfl, b, zs, (pn : Int), pn, rfl, rfl, hb4, ixN_of (by omega), ?_⟩
          have nzc : V.ref c ∉ zs.set pn (.ref p1) := fun hm => by
            rcases List.mem_or_eq_of_mem_set hm with h1 | h1
            · exact n3 h1
            · injection h1 with h1
              exact npc h1
          have nzb : V.ref b ∉ zs.set pn (.ref p1) := fun hm => by
            rcases List.mem_or_eq_of_mem_set hm with h1 | h1
            · exact n4 h1
            · injection h1 with h1
              exact npb h1
          have hZ5 : RL (upd H4 b (.lst (zs.set pn (.ref p1)))) (zs.set pn (.ref p1)) (st.2.set pn (some rest)) := (hZ4.set (row := some rest) ⟨p1, rfl, hrest⟩ pn).upd nzb
          have hc5 : (upd H4 b (.lst (zs.set pn (.ref p1)))) c = some (.lst (cs.map V.ref)) := by rw [upd_ne nbc]; exact hc4
          have hb5 : (upd H4 b (.lst (zs.set pn (.ref p1)))) b = some (.lst (zs.set pn (.ref p1))) := upd_same
          have hC5 : CL (upd H4 b (.lst (zs.set pn (.ref p1)))) cs st.1 := hC4.upd n2
          have hcl5 : (upd H4 b (.lst (zs.set pn (.ref p1)))) cl = some (.lst (callers.map V.int)) := by rw [upd_ne (Ne.symm nbl)]; exact hcl4
          have s5 : Same H (upd H4 b (.lst (zs.set pn (.ref p1)))) := s4.upd hbH
          generalize upd H4 b (.lst (zs.set pn (.ref p1))) = H5 at hZ5 hc5 hb5 hC5 hcl5 s5
          generalize hz1 : zs.set pn (.ref p1) = zs1 at hZ5 hb5 nzc nzb
          have hz1l : zs1.length = rows.length := by rw [← hz1, List.length_set, hzl]
          refine ⟨_, rfl, _, rfl, o, _, y, _, rfl, rfl, SqL.of (s5 _ _ ho), at_of (j := y.toNat) (by omega) hr2, r2, _, rfl, .inl (SqL.of (s5 _ _ hr2H)), fun p2 hp2 => ?_⟩
          have np2 : ∀ {d u}, H5 d = some u → d ≠ p2 := fun {d u} z => ne_of_none z hp2
          have m6 : Same H5 (upd H5 p2 (.lst ((ch os y).map V.int))) := Same.new hp2
          have hn6 : (upd H5 p2 (.lst ((ch os y).map V.int))) p2 = some (.lst ((ch os y).map V.int)) := upd_same
          have hb6 := m6 _ _ hb5
          have hc6 := m6 _ _ hc5
          have hcl6 := m6 _ _ hcl5
          have hC6 := hC5.mono m6
          have hZ6 := hZ5.mono m6
          have s6 := s5.trans m6
          have npb2 : p2 ≠ b := Ne.symm (np2 hb5)
          have npc2 : p2 ≠ c := Ne.symm (np2 hc5)
          generalize upd H5 p2 (.lst ((ch os y).map V.int)) = H6 at m6 hn6 hb6 hc6 hcl6 hC6 hZ6 s6
          refine ⟨_, rfl, _, rfl, b, zs1, y, y.toNat, rfl, rfl, hb6, (by rw [← ey]; exact ixN_of (by omega)), ?_⟩
          have e : stepP os rows as st pn = (st.1 ++ [((pn : Int), y, true)], (st.2.set pn (some rest)).set y.toNat (some (ch os y))) := by
            unfold stepP
            rw [if_neg ha, hrd]
            simp only
            rw [if_neg hy, Int.toNat_natCast]
          have nyc : V.ref c ∉ zs1.set y.toNat (.ref p2) := fun hm => by
            rcases List.mem_or_eq_of_mem_set hm with h1 | h1
            · exact nzc h1
            · injection h1 with h1
              exact npc2 h1.symm
          have nyb : V.ref b ∉ zs1.set y.toNat (.ref p2) := fun hm => by
            rcases List.mem_or_eq_of_mem_set hm with h1 | h1
            · exact nzb h1
            · injection h1 with h1
              exact npb2 h1.symm
          have hZ7 : RL (upd H6 b (.lst (zs1.set y.toNat (.ref p2)))) (zs1.set y.toNat (.ref p2)) ((st.2.set pn (some rest)).set y.toNat (some (ch os y))) := (hZ6.set (row := some (ch os y)) ⟨p2, rfl, hn6⟩ y.toNat).upd nyb
          have hc7 : (upd H6 b (.lst (zs1.set y.toNat (.ref p2)))) c = some (.lst (cs.map V.ref)) := by rw [upd_ne nbc]; exact hc6
          have hb7 : (upd H6 b (.lst (zs1.set y.toNat (.ref p2)))) b = some (.lst (zs1.set y.toNat (.ref p2))) := upd_same
          have hC7 : CL (upd H6 b (.lst (zs1.set y.toNat (.ref p2)))) cs st.1 := hC6.upd n2
          have hcl7 : (upd H6 b (.lst (zs1.set y.toNat (.ref p2)))) cl = some (.lst (callers.map V.int)) := by rw [upd_ne (Ne.symm nbl)]; exact hcl6
          have s7 : Same H (upd H6 b (.lst (zs1.set y.toNat (.ref p2)))) := s6.upd hbH
          generalize upd H6 b (.lst (zs1.set y.toNat (.ref p2))) = H7 at hZ7 hc7 hb7 hC7 hcl7 s7
          refine app_call (cs := cs) rfl rfl rfl rfl hc7 hcsl fun t ht => ?_
          have m8 : Same H7 (upd H7 t (.tup [.int (pn : Int), .int y, .bl true])) := Same.new ht
          have nt : ∀ {d u}, H7 d = some u → d ≠ t := fun {d u} z => ne_of_none z ht
          have nct : c ∉ cs ++ [t] := fun hm => by
            rcases List.mem_append.mp hm with h1 | h1
            · exact n1 h1
            · exact nt hc7 (List.mem_singleton.mp h1)
          refine ⟨cs ++ [t], zs1.set y.toNat (.ref p2), _, _, _, _, rfl, (s7.trans m8).upd hc, ?_, upd_same, ?_, ?_, ?_, nct, ?_, nyc, nyb, fun r' hr' => ?_⟩
          · rw [upd_ne (Ne.symm ncl)]
            exact m8 _ _ hcl7
          · rw [e]
            exact ((hC7.mono m8).snoc (c := ((pn : Int), y, true)) upd_same).upd nct
          · rw [upd_ne ncb]
            exact m8 _ _ hb7
          · rw [e]
            exact (hZ7.mono m8).upd nyc
          · intro hm
            rcases List.mem_append.mp hm with h1 | h1
            · exact n2 h1
            · exact nt hb7 (List.mem_singleton.mp h1)
          · rcases List.mem_or_eq_of_mem_set hr' with h1 | h1
            · rw [← hz1] at h1
              rcases List.mem_or_eq_of_mem_set h1 with h1 | h1
              · exact n5 r' h1
              · injection h1 with h1
                rw [h1]
                exact s3.free hp1
            · injection h1 with h1
              rw [h1]
              exact s5.free hp2
    · rintro σ H3 ⟨cs, zs, x5, x6, x7, x8, rfl, s3, hcl3, hc3, hC3, hb3, hZ3, n1, n2, n3, n4, n5⟩
      rw [List.length_map, List.take_length, ← hcsd] at hC3 hZ3
      refine ⟨_, rfl, _, rfl, (by show 2 ≤ sizeLine; decide), fun t ht => ?_⟩
      have m4 : Same H3 (upd H3 t (.tup [.ref c, .ref b])) := Same.new ht
      exact k t c b cs zs _ (s3.trans m4) hc hbH upd_same (m4 _ _ hc3) (hC3.mono m4) (m4 _ _ hb3) (hZ3.mono m4) nbc n1 n3 n5
end
end Toy

set_option Elab.async false
set_option linter.all false
set_option maxRecDepth 100000
set_option maxHeartbeats 4000000
namespace Toy
open PySem L2
def But (x : Addr) (H H' : Hp) : Prop := ∀ b u, b ≠ x → H b = some u → H' b = some u
def KL (H H' : Hp) : Prop := ∀ b xs, H b = some (.lst xs) → H' b = some (.lst xs)
theorem KL.of {H H' : Hp} (s : Same H H') : KL H H' := fun b xs e => s b _ e
theorem KL.but {H H' : Hp} {x C dx : Addr} {fs : List (Str × V)} (hx : H x = some (.ins C dx fs)) (h : But x H H') : KL H H' := fun b xs e => h b _ (fun z => by rw [z, hx] at e; cases e) e
theorem RL.kl {H H' : Hp} {vs : List V} {rows : List (Option (List Int))} (h : RL H vs rows) (s : KL H H') : RL H' vs rows := ⟨h.len, fun p v row a b => by
  have q := h.at' p v row a b
  cases row with
  | none => exact q
  | some l =>
    obtain ⟨r, e, q⟩ := q
    exact ⟨r, e, s _ _ q⟩⟩
theorem But.of {x : Addr} {H H' : Hp} (s : Same H H') : But x H H' := fun b u _ e => s b u e
theorem But.trans {x : Addr} {H H1 H2 : Hp} (a : But x H H1) (b : But x H1 H2) : But x H H2 := fun c u n e => b c u n (a c u n e)
theorem But.upd {x : Addr} {H : Hp} {o : HO} : But x H (L2.upd H x o) := fun b u n e => by rw [upd_ne n]; exact e
abbrev fldP (o rr : Addr) (t : Int) : List (Str × V) := [("orders", .ref o), ("rows", .ref rr), ("turns", .int t)]
theorem fp_orders (o rr : Addr) (t : Int) : (fldP o rr t).lookup ("orders" : Str) = some (.ref o) := by kernel_rfl
theorem fp_rows (o rr : Addr) (t : Int) : (fldP o rr t).lookup ("rows" : Str) = some (.ref rr) := by kernel_rfl
theorem fp_turns (o rr : Addr) (t : Int) : (fldP o rr t).lookup ("turns" : Str) = some (.int t) := by kernel_rfl
theorem fp1_orders (o : Addr) : (putF "orders" (V.ref o) []).lookup ("orders" : Str) = some (.ref o) := by kernel_rfl
theorem fp_put0 (o rr : Addr) : putF "turns" (V.int 0) (putF "rows" (V.ref rr) (putF "orders" (V.ref o) [])) = fldP o rr 0 := by kernel_rfl
theorem fp_putR (o rr b : Addr) (t : Int) : putF "rows" (V.ref b) (fldP o rr t) = fldP o b t := by kernel_rfl
theorem fp_putT (o rr : Addr) (t u : Int) : putF "turns" (V.int u) (fldP o rr t) = fldP o rr u := by kernel_rfl
theorem fp_no1 (o rr : Addr) (t : Int) : (fldP o rr t).lookup ("pass_round" : Str) = none := by kernel_rfl
theorem fp_no2 (o rr : Addr) (t : Int) : (fldP o rr t).lookup ("gone" : Str) = none := by kernel_rfl
theorem fp_no3 (o rr : Addr) (t : Int) : (fldP o rr t).lookup ("knowing" : Str) = none := by kernel_rfl
theorem fp_no4 (o rr : Addr) (t : Int) : (fldP o rr t).lookup ("row" : Str) = none := by kernel_rfl
theorem fp_no5 (o rr : Addr) (t : Int) : (fldP o rr t).lookup ("is_done" : Str) = none := by kernel_rfl
structure PhAt (C : Addr) (H : Hp) (x dx o rr : Addr) (xs ys : List V) (os : List (List Int)) (rows : List (Option (List Int))) (t : Int) : Prop where
  hx : H x = some (.ins C dx (fldP o rr t))
  ho : H o = some (.lst xs)
  hO : OL H xs os
  hr : H rr = some (.lst ys)
  hR : RL H ys rows
theorem PhAt.mono {C : Addr} {H H' : Hp} {x dx o rr : Addr} {xs ys : List V} {os : List (List Int)} {rows : List (Option (List Int))} {t : Int} (h : PhAt C H x dx o rr xs ys os rows t) (s : Same H H') : PhAt C H' x dx o rr xs ys os rows t :=
  ⟨s _ _ h.hx, s _ _ h.ho, RL.mono h.hO s, s _ _ h.hr, h.hR.mono s⟩
def Ph (C : Addr) (H : Hp) (x : Addr) (os : List (List Int)) (rows : List (Option (List Int))) (t : Int) : Prop := ∃ dx o rr xs ys, PhAt C H x dx o rr xs ys os rows t
theorem Ph.mono {C : Addr} {H H' : Hp} {x : Addr} {os : List (List Int)} {rows : List (Option (List Int))} {t : Int} (h : Ph C H x os rows t) (s : Same H H') : Ph C H' x os rows t :=
  let ⟨dx, o, rr, xs, ys, h⟩ := h; ⟨dx, o, rr, xs, ys, h.mono s⟩
section
variable {P : Program} {w : World} {K : PySem.W.Frag} {mg : Str → Option Value} {base : Heap} {A : Adr}
theorem FnOk.or' {base : Heap} {CX : CXT} {k : Nat} {f : Addr} {fd : FuncData} {ps : List Str} {sp sp' : Sp} (F : FnOk P w K mg base CX k f fd ps sp) (F' : FnOk P w K mg base CX k f fd ps sp') : FnOk P w K mg base CX k f fd ps (fun vs H Q E => sp vs H Q E ∨ sp' vs H Q E) :=
  ⟨fun vs H Q E h => h.elim (F.len vs H Q E) (F'.len vs H Q E), fun A outer s H args us vs Q E a b c d h => h.elim (F.run A outer s H args us vs Q E a b c d) (F'.run A outer s H args us vs Q E a b c d)⟩
def spPInit (C : Addr) : Sp := fun vs H Q _ => ∃ (x dx a : Addr) (xs : List V) (os : List (List Int)), vs = [.ref x, .ref a] ∧ H x = some (.ins C dx []) ∧ H a = some (.lst xs) ∧ OL H xs os ∧ GoodO os ∧
  ∀ (o rr : Addr) (xo yr : List V) H', But x H H' → PhAt C H' x dx o rr xo yr os (firstM os) 0 → H o = none → H rr = none → (∀ r, V.ref r ∈ xo → H r = none) → (∀ r, V.ref r ∈ yr → H r = none) → Q .non H'
theorem sc_Phones_init : FnScope ["self", "orders"] ["self", "orders"] (defScope s_Phones_init) := ⟨rfl, rfl, rfl, by decide +kernel, rfl, by decide +kernel, by decide +kernel⟩
theorem ok_Phones_init (T : Txt K mg A) : FnOk P w K mg base CX0 6 A.f_Phones_init A.d_Phones_init ["self", "orders"] (spPInit A.C_Phones) := by
  have G_take_orders := ok_take_orders (P := P) (w := w) (base := base) T
  have G_first_rows := ok_first_rows (P := P) (w := w) (base := base) T
  refine T.f_Phones_init.ok sc_Phones_init (fun vs H Q E h => ?_) (fun cdv A' outer s H vs Q E hr h => ?_)
  · obtain ⟨x, dx, a, xs, os, rfl, _⟩ := h
    rfl
  · obtain ⟨x, dx, a, xs, os, rfl, hx, ha, hO, g, k⟩ := h
    refine ⟨_, (pss_cons (ps_fld (pv 0) (pe_call G_take_orders (hr.mono (by decide)) (by rfl) T.m_take_orders T.k_take_orders T.b_take_orders .nil pass0 (@pa_cons _ _ _ _ _ (pv 1) pa_nil (by rfl))) rfl)
      (pss_cons (ps_fld (pv 0) (pe_call G_first_rows (hr.mono (by decide)) (by rfl) T.m_first_rows T.k_first_rows T.b_first_rows .nil pass0 (@pa_cons _ _ _ _ _ (pe_fldK K (pv 0) rfl) pa_nil (by rfl))) rfl)
      (pss_one (ps_fld (pv 0) pe_int rfl)))), ?_⟩
    refine ⟨_, rfl, a, xs, os, rfl, ha, hO, g, fun o xo H1 s1 ho0 ho hO1 hn => ?_⟩
    have hx1 := s1 _ _ hx
    refine ⟨_, rfl, x, A.C_Phones, dx, [], rfl, hx1, T.cl_Phones, T.na_Phones_orders, (by show 0 < 1000; decide), ?_⟩
    have k1 : KL H1 (upd H1 x (.ins A.C_Phones dx (putF "orders" (.ref o) []))) := KL.but hx1 But.upd
    have hx2 : (upd H1 x (.ins A.C_Phones dx (putF "orders" (.ref o) []))) x = some (.ins A.C_Phones dx (putF "orders" (.ref o) [])) := upd_same
    have ho2 := k1 _ _ ho
    have hO2 := RL.kl hO1 k1
    have b2 : But x H (upd H1 x (.ins A.C_Phones dx (putF "orders" (.ref o) []))) := (But.of s1).trans But.upd
    generalize upd H1 x (.ins A.C_Phones dx (putF "orders" (.ref o) [])) = H2 at k1 hx2 ho2 hO2 b2
    refine ⟨_, rfl, x, A.C_Phones, dx, _, _, rfl, hx2, T.cl_Phones, T.na_Phones_orders, fp1_orders o, o, xo, os, rfl, ho2, hO2, g, fun rr yr H3 s3 hr0 hrr hR hyn => ?_⟩
    have hx3 := s3 _ _ hx2
    refine ⟨_, rfl, x, A.C_Phones, dx, _, rfl, hx3, T.cl_Phones, T.na_Phones_rows, (by show 1 < 1000; decide), ?_⟩
    have hx4 : (upd H3 x (.ins A.C_Phones dx (putF "rows" (.ref rr) (putF "orders" (.ref o) [])))) x = some (.ins A.C_Phones dx (putF "rows" (.ref rr) (putF "orders" (.ref o) []))) := upd_same
    refine ⟨_, rfl, x, A.C_Phones, dx, _, rfl, hx4, T.cl_Phones, T.na_Phones_turns, ?_, ?_⟩
    · have e : (putF "rows" (V.ref rr) (putF "orders" (V.ref o) [])).length = 2 := by kernel_rfl
      rw [e]
      decide
    · have b3 : But x H3 (upd (upd H3 x (.ins A.C_Phones dx (putF "rows" (.ref rr) (putF "orders" (.ref o) [])))) x (.ins A.C_Phones dx (putF "turns" (.int 0) (putF "rows" (.ref rr) (putF "orders" (.ref o) []))))) := But.upd.trans But.upd
      have k3 := KL.but hx3 b3
      have fre : ∀ {r}, H2 r = none → H r = none := fun {r} e => by
        cases q : H r with
        | none => rfl
        | some u =>
          by_cases hrx : r = x
          · rw [hrx, hx2] at e
            cases e
          · rw [b2 r u hrx q] at e
            cases e
      refine k o rr xo yr _ ((b2.trans (But.of s3)).trans b3) ⟨?_, k3 _ _ (s3 _ _ ho2), RL.kl (RL.mono hO2 s3) k3, k3 _ _ hrr, RL.kl hR k3⟩ ho0 (fre hr0) (fun r hr' => (hn r hr').1) fun r hr' => fre (hyn r hr')
      rw [upd_same, fp_put0]
def spPassX (C : Addr) : Sp := fun vs H Q _ => ∃ (x ab dx o rr : Addr) (xs ys : List V) (os : List (List Int)) (rows : List (Option (List Int))) (t : Int) (as : List Int), vs = [.ref x, .ref ab] ∧ PhAt C H x dx o rr xs ys os rows t ∧ GoodO os ∧ RowsIn os rows ∧ H ab = some (.lst (as.map V.int)) ∧ Abs as os.length ∧
  ∀ (c b : Addr) (cs : List Addr) (zs : List V) (H' : Hp), But x H H' → H c = none → H' c = some (.lst (cs.map V.ref)) → CL H' cs (nextM os rows as).1 → c ∉ cs → PhAt C H' x dx o b xs zs os (nextM os rows as).2 (t + 1) → H b = none → c ≠ b → V.ref c ∉ zs → (∀ r, V.ref r ∈ zs → H r = none) → Q (.ref c) H'
theorem sc_Phones_pass_round : FnScope ["self", "absent", "missing", "calls"] ["self", "absent"] (defScope s_Phones_pass_round) := ⟨rfl, rfl, rfl, by decide +kernel, rfl, by decide +kernel, by decide +kernel⟩
theorem ok_Phones_pass_roundX (T : Txt K mg A) : FnOk P w K mg base CX0 5 A.f_Phones_pass_round A.d_Phones_pass_round ["self", "absent"] (spPassX A.C_Phones) := by
  have G_take_absent := ok_take_absent (P := P) (w := w) (base := base) T
  have G_next_round := ok_next_round (P := P) (w := w) (base := base) T
  refine T.f_Phones_pass_round.ok sc_Phones_pass_round (fun vs H Q E h => ?_) (fun cdv A' outer s H vs Q E hr h => ?_)
  · obtain ⟨x, ab, dx, o, rr, xs, ys, os, rows, t, as, rfl, _⟩ := h
    rfl
  · obtain ⟨x, ab, dx, o, rr, xs, ys, os, rows, t, as, rfl, ph, g, hin, hab, hA, k⟩ := h
    have hxl : xs.length = os.length := by rw [ph.hO.len, List.length_map]
    refine ⟨_, (pss_cons (ps_set (i := 2) sc_Phones_pass_round.nd rfl (Or.inl rfl) (pe_call G_take_absent (hr.mono (by decide)) (by rfl) T.m_take_absent T.k_take_absent T.b_take_absent .nil pass0 (@pa_cons _ _ _ _ _ (pv 1) (@pa_cons _ _ _ _ _ (pe_callB (call_len_seqK K) (by rfl) T.n_len PySem.boot_len (@pa_cons _ _ _ _ _ (pe_fldK K (pv 0) rfl) pa_nil (by rfl))) pa_nil (by rfl)) (by rfl))))
      (pss_cons (ps_asg (pe_call G_next_round (hr.mono (by decide)) (by rfl) T.m_next_round T.k_next_round T.b_next_round .nil pass0 (@pa_cons _ _ _ _ _ (pe_fldK K (pv 0) rfl) (@pa_cons _ _ _ _ _ (pe_fldK K (pv 0) rfl) (@pa_cons _ _ _ _ _ (pv 2) pa_nil (by rfl)) (by rfl)) (by rfl))) (pg_tupK K (n := 2) (by rfl) (pgs_cons (pg_name (i := 3) sc_Phones_pass_round.nd rfl (Or.inl rfl)) (pgs_cons (pg_fldK K (pv 0)) pgs_nil))))
      (pss_cons (ps_fldaug (pv 0) pe_int in_add)
      (pss_one (ps_ret (pv 3)))))), ?_⟩
    refine ⟨_, rfl, _, rfl, x, _, dx, _, _, rfl, ph.hx, T.cl_Phones, T.na_Phones_orders, fp_orders o rr t, o, xs, rfl, .inl (SqL.of ph.ho), ab, as, _, rfl, hab, by rw [hxl]; exact hA, fun m H1 s1 hm0 hm => ?_⟩
    have p1 := ph.mono s1
    refine ⟨_, rfl, x, _, dx, _, _, rfl, p1.hx, T.cl_Phones, T.na_Phones_orders, fp_orders o rr t, _, rfl, x, _, dx, _, _, rfl, p1.hx, T.cl_Phones, T.na_Phones_rows, fp_rows o rr t, _, rfl, o, rr, m, xs, ys, os, rows, as, rfl, p1.ho, p1.hO, g, p1.hr, p1.hR, hin, hm, fun tt c b cs zs H2 s2 hc0 hb0 ht hc hC hb hZ nbc ncs ncz hzn => ?_⟩
    have hx2 := s2 _ _ p1.hx
    refine ⟨tt, _, rfl, SqT.of ht, rfl, _, _, rfl, _, _, rfl, _, rfl, x, _, dx, _, rfl, hx2, T.cl_Phones, T.na_Phones_rows, (by show 3 < 1000; decide), rfl, ?_⟩
    rw [fp_putR]
    have hx3 : (upd H2 x (.ins A.C_Phones dx (fldP o b t))) x = some (.ins A.C_Phones dx (fldP o b t)) := upd_same
    refine ⟨_, rfl, x, _, dx, _, _, rfl, hx3, T.cl_Phones, T.na_Phones_turns, fp_turns o b t, _, _, rfl, rfl, dx, _, hx3, (by show 3 < 1000; decide), ?_⟩
    rw [fp_putT]
    have b4 : But x H2 (upd (upd H2 x (.ins A.C_Phones dx (fldP o b t))) x (.ins A.C_Phones dx (fldP o b (t + 1)))) := But.upd.trans But.upd
    have hx4 : (upd (upd H2 x (.ins A.C_Phones dx (fldP o b t))) x (.ins A.C_Phones dx (fldP o b (t + 1)))) x = some (.ins A.C_Phones dx (fldP o b (t + 1))) := upd_same
    generalize upd (upd H2 x (.ins A.C_Phones dx (fldP o b t))) x (.ins A.C_Phones dx (fldP o b (t + 1))) = H4 at b4 hx4
    have k4 := KL.but hx2 b4
    refine ⟨_, rfl, k c b cs zs H4 (((But.of s1).trans (But.of s2)).trans b4) (s1.free hc0) (k4 _ _ hc) ⟨hC.len, fun p u q hp hq => b4 _ _ (fun z => ?_) (hC.at' p u q hp hq)⟩ ncs ⟨hx4, k4 _ _ (s2 _ _ p1.ho), RL.kl (RL.mono p1.hO s2) k4, k4 _ _ hb, RL.kl hZ k4⟩ (s1.free hb0) nbc ncz fun r hr' => s1.free (hzn r hr')⟩
    have := hC.at' p u q hp hq
    rw [z, hx2] at this
    cases this
def spPass (C : Addr) : Sp := fun vs H Q _ => ∃ (x ab : Addr) (os : List (List Int)) (rows : List (Option (List Int))) (t : Int) (as : List Int), vs = [.ref x, .ref ab] ∧ Ph C H x os rows t ∧ GoodO os ∧ RowsIn os rows ∧ H ab = some (.lst (as.map V.int)) ∧ Abs as os.length ∧
  ∀ (c : Addr) (cs : List Addr) (H' : Hp), But x H H' → H c = none → H' c = some (.lst (cs.map V.ref)) → CL H' cs (nextM os rows as).1 → c ∉ cs → (∀ o, Ph C (upd H' c o) x os (nextM os rows as).2 (t + 1)) → Q (.ref c) H'
theorem ok_Phones_pass_round (T : Txt K mg A) : FnOk P w K mg base CX0 5 A.f_Phones_pass_round A.d_Phones_pass_round ["self", "absent"] (spPass A.C_Phones) := by
  refine (ok_Phones_pass_roundX T).imp fun vs H Q E h => ?_
  obtain ⟨x, ab, os, rows, t, as, e, ⟨dx, o, rr, xs, ys, ph⟩, g, hin, hab, hA, k⟩ := h
  refine ⟨x, ab, dx, o, rr, xs, ys, os, rows, t, as, e, ph, g, hin, hab, hA, fun c b cs zs H' b1 hc0 hc hC ncs ph' hb nbc ncz hzn => k c cs H' b1 hc0 hc hC ncs fun oo => ⟨dx, o, b, xs, zs, ?_, ?_, ?_, ?_, ?_⟩⟩
  · rw [upd_ne (ne_of_none ph.hx hc0)]
    exact ph'.hx
  · rw [upd_ne (ne_of_none ph.ho hc0)]
    exact ph'.ho
  · exact RL.upd ph'.hO (RL.notin ph.hO hc0)
  · rw [upd_ne (Ne.symm nbc)]
    exact ph'.hr
  · exact RL.upd ph'.hR ncz
end
end Toy

set_option Elab.async false
set_option linter.all false
set_option maxRecDepth 100000
set_option maxHeartbeats 4000000
namespace Toy
open PySem L2
section
variable {P : Program} {w : World} {K : PySem.W.Frag} {mg : Str → Option Value} {base : Heap} {A : Adr}
def spGone (C : Addr) : Sp := fun vs H Q _ => ∃ (x : Addr) (os : List (List Int)) (rows : List (Option (List Int))) (t : Int), vs = [.ref x] ∧ Ph C H x os rows t ∧ Q (.int t) H
theorem sc_Phones_gone : FnScope ["self"] ["self"] (defScope s_Phones_gone) := ⟨rfl, rfl, rfl, by decide +kernel, rfl, by decide +kernel, by decide +kernel⟩
theorem ok_Phones_gone (T : Txt K mg A) : FnOk P w K mg base CX0 1 A.f_Phones_gone A.d_Phones_gone ["self"] (spGone A.C_Phones) := by
  refine T.f_Phones_gone.ok sc_Phones_gone (fun vs H Q E h => ?_) (fun cdv A' outer s H vs Q E hr h => ?_)
  · obtain ⟨x, os, rows, t, rfl, _⟩ := h
    rfl
  · obtain ⟨x, os, rows, t, rfl, ⟨dx, o, rr, xs, ys, ph⟩, k⟩ := h
    refine ⟨_, (pss_one (ps_ret (pe_fldK K (pv 0) rfl))), ?_⟩
    exact ⟨_, rfl, x, _, dx, _, _, rfl, ph.hx, T.cl_Phones, T.na_Phones_turns, fp_turns o rr t, k⟩
def spKnow (C : Addr) : Sp := fun vs H Q _ => ∃ (x : Addr) (os : List (List Int)) (rows : List (Option (List Int))) (t : Int), vs = [.ref x] ∧ Ph C H x os rows t ∧ rows.length ≤ 100 ∧ ∀ b H', Same H H' → H b = none → H' b = some (.lst ((idxs Option.isSome rows).map V.int)) → Q (.ref b) H'
theorem sc_Phones_knowing : FnScope ["self", "person", "row"] ["self"] (defScope s_Phones_knowing) := ⟨rfl, rfl, rfl, by decide +kernel, rfl, by decide +kernel, by decide +kernel⟩
theorem ok_Phones_knowing (T : Txt K mg A) : FnOk P w K mg base CX0 1 A.f_Phones_knowing A.d_Phones_knowing ["self"] (spKnow A.C_Phones) := by
  refine T.f_Phones_knowing.ok sc_Phones_knowing (fun vs H Q E h => ?_) (fun cdv A' outer s H vs Q E hr h => ?_)
  · obtain ⟨x, os, rows, t, rfl, _⟩ := h
    rfl
  · obtain ⟨x, os, rows, t, rfl, ⟨dx, o, rr, xs, ys, ph⟩, hl, k⟩ := h
    have hR := ph.hR
    refine ⟨_, (pss_one (ps_ret (pe_lc (own := [("person", 1), ("row", 2)]) rfl sc_Phones_knowing.nd (pi_enumK K (by rfl) T.n_enumerate (@pa_cons _ _ _ _ _ (pe_fldK K (pv 0) rfl) pa_nil (by rfl))) (blkOk_by (own := [("person", 1), ("row", 2)]) (by kernel_rfl)) (fun _ _ _ _ _ => (pg_tupK K (n := 2) (by rfl) (pgs_cons (pg_name (i := 1) sc_Phones_knowing.nd rfl (Or.inl rfl)) (pgs_cons (pg_name (i := 2) sc_Phones_knowing.nd rfl (Or.inl rfl)) pgs_nil)))) (fun _ _ _ _ _ => (pts_one (pt_cmpR op_notN (pv 2) pe_non (nomark _)))) (fun _ _ _ _ _ => (pv 1))))), ?_⟩
    refine ⟨_, rfl, x, _, dx, _, _, rfl, ph.hx, T.cl_Phones, T.na_Phones_rows, fp_rows o rr t, rr, ys, rfl, SqL.of ph.hr, fun D hD => ?_⟩
    refine lc_enum0 (K := K) (a := rr) (xs := ys) (fun j H3 => Same H H3 ∧ H3 D = some (.lst ((idxs Option.isSome (rows.take j)).map V.int))) ⟨Same.new hD, by rw [upd_same]; rfl⟩ (fun j H3 _ ⟨s3, _⟩ => SqL.of (s3 _ _ ph.hr)) ?_ ?_
    · rintro j v t H3 hj ⟨s3, hd⟩ ht
      obtain ⟨row, hrow, hv⟩ := hR.get hj
      have hjl := (List.getElem?_eq_some_iff.mp hrow).1
      have htk : (rows.take j).length = j := by rw [List.length_take]; omega
      have s4 : Same H3 (upd H3 t (.tup [.int (j : Nat), v])) := Same.new ht
      have hd4 := s4 _ _ hd
      have hs3 : Same H (upd H3 t (.tup [.int (j : Nat), v])) := s3.trans s4
      have key : idxs Option.isSome (rows.take (j + 1)) = idxs Option.isSome (rows.take j) ++ (if Option.isSome row = true then [(j : Int)] else []) := by
        rw [take_snoc hrow, idxs_snoc, htk]
      refine ⟨t, _, rfl, SqT.of upd_same, rfl, _, _, rfl, _, _, rfl, rfl, rfl, ?_⟩
      refine ⟨_, rfl, rfl, _, rfl, ?_⟩
      cases row with
      | none =>
        have hv : v = .non := hv
        subst hv
        refine ⟨hs3, ?_⟩
        rw [key]
        simpa using hd4
      | some l =>
        obtain ⟨r, rfl, hr'⟩ := hv
        refine ⟨_, rfl, _, hd4, ?_, hs3.upd hD, ?_⟩
        · rw [List.length_map]
          have := idxs_len Option.isSome (rows.take j)
          exact small1000 (by omega)
        · rw [upd_same, key]
          simp
    · rintro H3 ⟨s3, hd⟩
      rw [hR.len, List.take_length] at hd
      exact k D H3 s3 hD hd
def spRow (C : Addr) : Sp := fun vs H Q _ => ∃ (x : Addr) (os : List (List Int)) (rows : List (Option (List Int))) (t p : Int), vs = [.ref x, .int p] ∧ Ph C H x os rows t ∧ RowsIn os rows ∧ 0 ≤ p ∧ p < os.length ∧
  (rows[p.toNat]? = some none → Q .non H) ∧ ∀ l, rows[p.toNat]? = some (some l) → ∀ b H', Same H H' → H b = none → H' b = some (.lst (l.map V.int)) → Q (.ref b) H'
theorem sc_Phones_row : FnScope ["self", "person"] ["self", "person"] (defScope s_Phones_row) := ⟨rfl, rfl, rfl, by decide +kernel, rfl, by decide +kernel, by decide +kernel⟩
theorem ok_Phones_row (T : Txt K mg A) : FnOk P w K mg base CX0 4 A.f_Phones_row A.d_Phones_row ["self", "person"] (spRow A.C_Phones) := by
  have G_take_person := ok_take_person (P := P) (w := w) (base := base) T
  have G_copied := FnOk.or' (ok_copiedN (P := P) (w := w) (base := base) T) (ok_copiedI (P := P) (w := w) (base := base) T)
  refine T.f_Phones_row.ok sc_Phones_row (fun vs H Q E h => ?_) (fun cdv A' outer s H vs Q E hr h => ?_)
  · obtain ⟨x, os, rows, t, p, rfl, _⟩ := h
    rfl
  · obtain ⟨x, os, rows, t, p, rfl, ⟨dx, o, rr, xs, ys, ph⟩, hin, p0, p1, kn, kl⟩ := h
    have hxl : xs.length = os.length := by rw [ph.hO.len, List.length_map]
    have hyl : ys.length = os.length := by rw [ph.hR.len, hin.len]
    obtain ⟨v, hv⟩ : ∃ v, ys[p.toNat]? = some v := ⟨_, List.getElem?_eq_getElem (by omega)⟩
    obtain ⟨row, hrow, hrv⟩ := ph.hR.get hv
    refine ⟨_, (pss_one (ps_ret (pe_call G_copied (hr.mono (by decide)) (by rfl) T.m_copied T.k_copied T.b_copied .nil pass0 (@pa_cons _ _ _ _ _ (pe_ix (ix_listK K) (pe_fldK K (pv 0) rfl) (pe_call G_take_person (hr.mono (by decide)) (by rfl) T.m_take_person T.k_take_person T.b_take_person .nil pass0 (@pa_cons _ _ _ _ _ (pv 1) (@pa_cons _ _ _ _ _ (pe_callB (call_len_seqK K) (by rfl) T.n_len PySem.boot_len (@pa_cons _ _ _ _ _ (pe_fldK K (pv 0) rfl) pa_nil (by rfl))) pa_nil (by rfl)) (by rfl))) (fun _ _ => rfl)) pa_nil (by rfl))))), ?_⟩
    refine ⟨_, rfl, x, _, dx, _, _, rfl, ph.hx, T.cl_Phones, T.na_Phones_rows, fp_rows o rr t, _, rfl, _, rfl, x, _, dx, _, _, rfl, ph.hx, T.cl_Phones, T.na_Phones_orders, fp_orders o rr t, o, xs, rfl, .inl (SqL.of ph.ho), p, _, rfl, p0, (by rw [hxl]; exact p1), rr, ys, p, v, rfl, rfl, SqL.of ph.hr, at_of (j := p.toNat) (by omega) hv, ?_⟩
    cases row with
    | none =>
      have hrv : v = .non := hrv
      subst hrv
      exact .inl ⟨rfl, kn hrow⟩
    | some l =>
      obtain ⟨r, rfl, hr'⟩ := hrv
      have := (hin.row _ _ hrow).1
      exact .inr ⟨r, l, rfl, hr', by omega, fun b H' s1 hb hb1 => kl l hrow b H' s1 hb hb1⟩
def spDone (C : Addr) : Sp := fun vs H Q _ => ∃ (x : Addr) (os : List (List Int)) (rows : List (Option (List Int))) (t : Int), vs = [.ref x] ∧ Ph C H x os rows t ∧ rows.length ≤ 100 ∧ ∀ H', Same H H' → Q (.bl (idxs hasC rows).isEmpty) H'
theorem sc_Phones_is_done : FnScope ["self"] ["self"] (defScope s_Phones_is_done) := ⟨rfl, rfl, rfl, by decide +kernel, rfl, by decide +kernel, by decide +kernel⟩
theorem ok_Phones_is_done (T : Txt K mg A) : FnOk P w K mg base CX0 2 A.f_Phones_is_done A.d_Phones_is_done ["self"] (spDone A.C_Phones) := by
  have G_callers := ok_callers (P := P) (w := w) (base := base) T
  refine T.f_Phones_is_done.ok sc_Phones_is_done (fun vs H Q E h => ?_) (fun cdv A' outer s H vs Q E hr h => ?_)
  · obtain ⟨x, os, rows, t, rfl, _⟩ := h
    rfl
  · obtain ⟨x, os, rows, t, rfl, ⟨dx, o, rr, xs, ys, ph⟩, hl, k⟩ := h
    refine ⟨_, (pss_one (ps_ret (pe_notV (pe_call G_callers (hr.mono (by decide)) (by rfl) T.m_callers T.k_callers T.b_callers .nil pass0 (@pa_cons _ _ _ _ _ (pe_fldK K (pv 0) rfl) pa_nil (by rfl)))))), ?_⟩
    refine ⟨_, rfl, x, _, dx, _, _, rfl, ph.hx, T.cl_Phones, T.na_Phones_rows, fp_rows o rr t, rr, ys, rows, rfl, ph.hr, ph.hR, hl, fun b H1 s1 hb0 hb => ?_⟩
    refine ⟨_, .inl ⟨_, SqL.of hb, rfl⟩, ?_⟩
    rw [Bool.not_not, List.isEmpty_map]
    exact k H1 s1
end
end Toy

set_option Elab.async false
set_option linter.all false
set_option maxRecDepth 100000
set_option maxHeartbeats 4000000
namespace Toy
open PySem L2 PySem.Builtin.Int
theorem bits_of {x : Int} {m : Nat} (h : x.natAbs < 2 ^ m) : intBits x ≤ m := intBits_le_iff.mpr h
theorem p18 : (10 : Int) ^ (18 : Int).toNat = 1000000000000000000 := by decide
theorem b20 {n : Nat} (h : n ≤ 200) : n ≤ 2 ^ 20 := Nat.le_trans h (by decide)
theorem mulB {x y : Int} {m n : Nat} (hx : intBits x ≤ m) (hy : intBits y ≤ n) (hm : m ≤ 200) (hn : n ≤ 200) : CMulB x y := ⟨Nat.le_trans hx (b20 hm), Nat.le_trans hy (b20 hn)⟩
section
variable {P : Program} {w : World} {K : PySem.W.Frag} {mg : Str → Option Value} {base : Heap} {A : Adr}
def spNumber : Sp := fun vs H Q _ => ∃ c n z, vs = [.int c, .int n, .int z] ∧ 0 ≤ n ∧ n ≤ 1000 ∧ ∀ r, Q (.int r) H
theorem sc_law_number : FnScope ["_law_cell", "_law_at", "_law_whole", "_law_mixed", "_law_more"] ["_law_cell", "_law_at", "_law_whole"] (defScope s_law_number) := ⟨rfl, rfl, rfl, by decide +kernel, rfl, by decide +kernel, by decide +kernel⟩
theorem ok_law_number (T : Txt K mg A) : FnOk P w K mg base CX0 1 A.f_law_number A.d_law_number ["_law_cell", "_law_at", "_law_whole"] spNumber := by
  refine T.f_law_number.ok sc_law_number (fun vs H Q E h => ?_) (fun cdv A' outer s H vs Q E hr h => ?_)
  · obtain ⟨c, n, z, rfl, _⟩ := h
    rfl
  · obtain ⟨c, n, z, rfl, hn0, hn1, k⟩ := h
    refine ⟨_, (pss_cons (ps_if (PW.pt (pw_or (pt_cmpR op_ge (pv 0) (pe_op op_pow pe_int pe_int) (nomark _)) (pw_or1 (pt_cmpR op_le (pv 0) (pe_op op_sub pe_int (pe_op op_pow pe_int pe_int)) (nomark _))))) (pss_one (ps_ret (pe_op op_mod (pv 0) (pe_op op_pow pe_int pe_int)))) pss_nil)
      (pss_cons (ps_set (i := 3) sc_law_number.nd rfl (Or.inl rfl) (pe_op op_mod (pe_op op_add (pe_op op_mulB (pe_op op_add (pv 0) (pe_op op_mulB pe_int (pv 1))) pe_int) (pv 2)) pe_int))
      (pss_cons (ps_set (i := 4) sc_law_number.nd rfl (Or.inl rfl) (pe_op op_mulB (pe_op op_mulB (pv 3) (pe_op op_add (pe_op op_add (pv 3) (pe_op op_mulB pe_int (pv 1))) pe_int)) (pe_op op_add (pe_op op_add (pv 3) (pv 0)) pe_int)))
      (pss_one (ps_ret (pe_op op_fdiv (pe_op op_mulB (pv 4) (pe_op op_add (pv 4) pe_int)) pe_int)))))), ?_⟩
    have big : Q (.int (c % 10 ^ (60 : Int).toNat)) H := k _
    have ret1 : ∃ v, (L2.start ["_law_cell", "_law_at", "_law_whole", "_law_mixed", "_law_more"] [.int c, .int n, .int z])[0]? = some (some v) ∧ tOp (rI CPow fun i j => .int (i ^ j.toNat)) (tC (.int 10)) (tC (.int 60)) (L2.start ["_law_cell", "_law_at", "_law_whole", "_law_mixed", "_law_more"] [.int c, .int n, .int z]) H fun y H2 => rI (fun _ j => 0 < j) (fun i j => .int (i % j)) v y H2 Q :=
      ⟨_, rfl, _, _, rfl, rfl, ⟨by decide, by decide, by decide⟩, _, _, rfl, rfl, (by show (0 : Int) < 10 ^ 60; decide), big⟩
    refine ⟨_, rfl, _, _, rfl, rfl, ⟨by decide, by decide, by decide⟩, _, _, rfl, rfl, _, rfl, ?_⟩
    refine ite2 (fun _ => ?_) (fun h1 => ?_)
    · exact iteT ret1
    refine ⟨_, rfl, _, _, rfl, rfl, ⟨by decide, by decide, by decide⟩, _, _, rfl, rfl, _, _, rfl, rfl, _, rfl, ?_⟩
    refine ite2 (fun _ => ret1) (fun h2 => ?_)
    rw [p18] at h1 h2
    have h1 : c < 1000000000000000000 := by
      have : ¬ (1000000000000000000 ≤ c) := fun q => h1 (decide_eq_true q)
      omega
    have h2 : -1000000000000000000 < c := by
      have : ¬ (c ≤ 0 - 1000000000000000000) := fun q => h2 (decide_eq_true q)
      omega
    refine ⟨_, rfl, _, rfl, _, _, rfl, rfl, mulB (m := 20) (n := 20) (bits_of (by decide)) (bits_of (by omega)) (by decide) (by decide), _, _, rfl, rfl, _, _, rfl, rfl, mulB (m := 64) (n := 20) (bits_of (by omega)) (bits_of (by decide)) (by decide) (by decide), _, rfl, _, _, rfl, rfl, _, _, rfl, rfl, (by show (0 : Int) < 2147483647; decide), ?_⟩
    have bM : intBits (((c + 977 * n) * 48271 + z) % 2147483647) ≤ 31 := bits_of (by omega)
    have bN : intBits ((((c + 977 * n) * 48271 + z) % 2147483647) + 31 * n + 7) ≤ 33 := bits_of (by omega)
    have bC : intBits ((((c + 977 * n) * 48271 + z) % 2147483647) + c + 5) ≤ 62 := bits_of (by omega)
    have b1 : intBits ((((c + 977 * n) * 48271 + z) % 2147483647) * ((((c + 977 * n) * 48271 + z) % 2147483647) + 31 * n + 7)) ≤ 64 := intBits_mul_le bM bN
    refine ⟨_, rfl, _, rfl, _, rfl, _, _, rfl, rfl, mulB (m := 20) (n := 20) (bits_of (by decide)) (bits_of (by omega)) (by decide) (by decide), _, _, rfl, rfl, _, _, rfl, rfl, _, _, rfl, rfl, mulB (m := 31) (n := 33) bM bN (by decide) (by decide), _, rfl, _, rfl, _, _, rfl, rfl, _, _, rfl, rfl, _, _, rfl, rfl, mulB (m := 64) (n := 62) b1 bC (by decide) (by decide), ?_⟩
    have b2 : intBits ((((c + 977 * n) * 48271 + z) % 2147483647) * ((((c + 977 * n) * 48271 + z) % 2147483647) + 31 * n + 7) * ((((c + 977 * n) * 48271 + z) % 2147483647) + c + 5)) ≤ 126 := intBits_mul_le b1 bC
    have b3 : intBits ((((c + 977 * n) * 48271 + z) % 2147483647) * ((((c + 977 * n) * 48271 + z) % 2147483647) + 31 * n + 7) * ((((c + 977 * n) * 48271 + z) % 2147483647) + c + 5) + 48271) ≤ 127 := by
      have q := intBits_add_le b2 (show intBits 48271 ≤ 20 from bits_of (by decide))
      simpa using q
    refine ⟨_, rfl, _, rfl, _, _, rfl, rfl, _, _, rfl, rfl, mulB (m := 126) (n := 127) b2 b3 (by decide) (by decide), _, _, rfl, rfl, ⟨by decide, by decide⟩, k _⟩
end
end Toy
namespace Toy
open PySem L2
theorem dpAll_ints {K : PySem.W.Frag} {H : Hp} : ∀ ns : List Int, DpAll K H (ns.map V.int) (ns.map PyData.int)
  | [] => .nil
  | n :: r => .cons (.int n) (dpAll_ints r)
theorem dp_ints {K : PySem.W.Frag} {H : Hp} {a : Addr} {ns : List Int} (h : SqL K H a (ns.map V.int)) : Dp K H (.ref a) (.list (ns.map PyData.int)) := .lst h (dpAll_ints ns)
theorem can_ints : ∀ ns : List Int, PyData.canLayAll0 (ns.map PyData.int) = true
  | [] => by simp [PyData.canLayAll0]
  | n :: r => by
    have ih := can_ints r
    simp [PyData.canLayAll0, PyData.canLay0, ih]
theorem dep_ints : ∀ ns : List Int, PyData.depthAll (ns.map PyData.int) ≤ 1
  | [] => by simp [PyData.depthAll]
  | n :: r => by
    have ih := dep_ints r
    simp only [List.map_cons, PyData.depthAll, PyData.depth]
    omega
theorem shaped_ints (ns : List Int) : SeqAt.shaped (.list (ns.map PyData.int)) = true := by
  unfold SeqAt.shaped
  rw [Bool.and_eq_true]
  refine ⟨?_, decide_eq_true ?_⟩
  · simpa only [PyData.canLay0] using can_ints ns
  · have := dep_ints ns
    simp only [PyData.depth]
    omega
theorem eqv_nil (ns : List Int) : PyData.eqv (.list (ns.map PyData.int)) (.list []) = decide (ns = []) := by
  cases ns with
  | nil => simp [PyData.eqv, PyData.eqvAll]
  | cons n r => simp [PyData.eqv, PyData.eqvAll]
section
variable {P : Program} {w : World} {K : PySem.W.Frag} {mg : Str → Option Value} {base : Heap} {A : Adr}
def spLups (K : PySem.W.Frag) : Sp := fun vs H Q _ => ∃ (a : Addr) (ns : List Int) (by' most : Int), vs = [.ref a, .int by', .int most] ∧ SqL K H a (ns.map V.int) ∧ ns.length ≤ 63 ∧ 0 ≤ by' ∧ by' ≤ 10 ∧ 1 ≤ most ∧ most ≤ 40 ∧
  ∀ (b : Addr) (us : List Int) (H' : Hp), Same H H' → H b = none → H' b = some (.lst (us.map V.int)) → (us.length : Int) < most → GoodUps us → Q (.ref b) H'
theorem sc_law_ups : FnScope ["_law_script", "_law_by", "_law_most", "_law_cells", "_law_at", "_law_whole", "_law_found", "_law_many", "_law_kind", "_law_number_here"] ["_law_script", "_law_by", "_law_most"] (defScope s_law_ups) := ⟨rfl, rfl, rfl, by decide +kernel, rfl, by decide +kernel, by decide +kernel⟩
theorem ok_law_ups (T : Txt K mg A) : FnOk P w K mg base CX0 2 A.f_law_ups A.d_law_ups ["_law_script", "_law_by", "_law_most"] (spLups K) := by
  have G_law_number := ok_law_number (P := P) (w := w) (base := base) T
  refine T.f_law_ups.ok sc_law_ups (fun vs H Q E h => ?_) (fun cdv A' outer s H vs Q E hr h => ?_)
  · obtain ⟨a, ns, b, m, rfl, _⟩ := h
    rfl
  · obtain ⟨a, ns, by', most, rfl, hS, hlen, hb0, hb1, hm0, hm1, k⟩ := h
    have tail : ∃ u, PSs (cxOf CX0 P w K mg base ["_law_script", "_law_by", "_law_most", "_law_cells", "_law_at", "_law_whole", "_law_found", "_law_many", "_law_kind", "_law_number_here"] "_law_ups" (defScope s_law_ups) A.f_law_ups cdv A' outer s H E).nox ((defBody s_law_ups).drop 1) u ∧ ∀ (cl : Addr) (cs : List Int) (H1 : Hp), Same H H1 → H cl = none → H1 cl = some (.lst (cs.map V.int)) → 0 < cs.length → cs.length ≤ 63 →
        u { nx := fun _ H' => Q .non H', rt := Q } [some (.ref a), some (.int by'), some (.int most), some (.ref cl), none, none, none, none, none, none] H1 := by
      refine ⟨_, (pss_cons (ps_par (i := 5) (j := 6) (by rfl) sc_law_ups.nd rfl rfl (by decide) rfl rfl (@pa_cons _ _ _ _ _ (pe_op op_add (pe_callB (cr_sumK K rfl) (by rfl) T.n_sum (by decide +kernel) (@pa_cons _ _ _ _ _ (pv 3) pa_nil (by rfl))) (pv 1)) (@pa_cons _ _ _ _ _ (@pe_lst _ _ _ _ pa_nil) pa_nil (by rfl)) (by rfl)) (by rfl))
      (pss_cons (ps_par (i := 7) (j := 8) (by rfl) sc_law_ups.nd rfl rfl (by decide) rfl rfl (@pa_cons _ _ _ _ _ (pe_op op_mod (pe_op op_fdiv (pe_call G_law_number (hr.mono (by decide)) (by rfl) T.m_law_number T.k_law_number T.b_law_number .nil pass0 (@pa_cons _ _ _ _ _ (pv 5) (@pa_cons _ _ _ _ _ (pe_op op_add (pv 1) pe_int) (@pa_cons _ _ _ _ _ pe_int pa_nil (by rfl)) (by rfl)) (by rfl))) pe_int) (pv 2)) (@pa_cons _ _ _ _ _ (pe_op op_mod (pe_op op_fdiv (pe_call G_law_number (hr.mono (by decide)) (by rfl) T.m_law_number T.k_law_number T.b_law_number .nil pass0 (@pa_cons _ _ _ _ _ (pv 5) (@pa_cons _ _ _ _ _ (pe_op op_add (pv 1) pe_int) (@pa_cons _ _ _ _ _ pe_int pa_nil (by rfl)) (by rfl)) (by rfl))) pe_int) pe_int) pa_nil (by rfl)) (by rfl)) (by rfl))
      (pss_cons (ps_for PassesOwn.never rfl (pi_range1 (by rfl) T.n_range (@pa_cons _ _ _ _ _ (pv 7) pa_nil (by rfl))) (pg_name (i := 4) sc_law_ups.nd rfl (Or.inl rfl)) (pss_cons (ps_set (i := 9) sc_law_ups.nd rfl (Or.inl rfl) (pe_op op_fdiv (pe_call G_law_number (hr.mono (by decide)) (by rfl) T.m_law_number T.k_law_number T.b_law_number .nil pass0 (@pa_cons _ _ _ _ _ (pe_op op_add (pe_ix (ix_listK K) (pv 3) (pe_op op_mod (pe_op op_add (pv 4) (pv 1)) (pe_callB (call_len_seqK K) (by rfl) T.n_len PySem.boot_len (@pa_cons _ _ _ _ _ (pv 3) pa_nil (by rfl)))) (fun _ _ => rfl)) (pv 4)) (@pa_cons _ _ _ _ _ (pe_op op_add (pv 4) (pv 1)) (@pa_cons _ _ _ _ _ (pv 5) pa_nil (by rfl)) (by rfl)) (by rfl))) pe_int))
      (pss_one (ps_expr (pe_bmK K PySem.F.plainAttrs_list PySem.F.slot_list_append PySem.F.type_list_append mt_append (pv 6) (@pa_cons _ _ _ _ _ (pe_ix (ix_tupK K) (@pe_tup _ _ _ _ _ (@pa_cons _ _ _ _ _ (pe_op op_mod (pv 9) (pe_op op_add (pv 4) pe_int)) (@pa_cons _ _ _ _ _ (pv 4) (@pa_cons _ _ _ _ _ pe_int (@pa_cons _ _ _ _ _ (pe_op op_mod (pv 9) (pe_callB (call_min2 rfl) (by rfl) T.n_min (by decide +kernel) (@pa_cons _ _ _ _ _ (pe_op op_add (pv 4) pe_int) (@pa_cons _ _ _ _ _ pe_int pa_nil (by rfl)) (by rfl)))) (@pa_cons _ _ _ _ _ (pe_op op_fdiv (pv 4) pe_int) pa_nil (by rfl)) (by rfl)) (by rfl)) (by rfl)) (by rfl))) (pv 8) (fun _ _ => rfl)) pa_nil (by rfl)))))))
      (pss_one (ps_ret (pv 6)))))), ?_⟩
      intro cl cs H1 s1 hcn hc1 hc0 hc63
      refine ⟨_, rfl, cl, cs, rfl, SqL.of hc1, _, rfl, _, _, rfl, rfl, Nat.zero_le _, fun f hf => ⟨_, _, rfl, ?_⟩⟩
      have s2 : Same H (upd H1 f (.lst [])) := s1.upd (s1.free hf)
      have hfH : H f = none := s1.free hf
      have hcf : cl ≠ f := ne_of_none hc1 hf
      have hc2 : (upd H1 f (.lst [])) cl = some (.lst (cs.map V.int)) := by
        rw [upd_ne hcf]
        exact hc1
      refine ⟨_, rfl, _, rfl, _, _, rfl, rfl, _, _, _, rfl, by omega, by omega, fun r1 => ?_⟩
      refine ⟨_, _, rfl, rfl, ⟨by decide, by decide⟩, _, rfl, _, _, rfl, rfl, (by show 0 < most; omega), ?_⟩
      refine ⟨_, rfl, _, rfl, _, _, rfl, rfl, _, _, _, rfl, by omega, by omega, fun r2 => ?_⟩
      refine ⟨_, _, rfl, rfl, ⟨by decide, by decide⟩, _, _, rfl, rfl, (by show (0 : Int) < 5; decide), _, _, rfl, ?_⟩
      have hma : 0 ≤ r1 / 9 % most ∧ r1 / 9 % most < most := ⟨Int.emod_nonneg _ (by omega), Int.emod_lt_of_pos _ (by omega)⟩
      have hki : 0 ≤ r2 / 360 % 5 ∧ r2 / 360 % 5 < 5 := ⟨Int.emod_nonneg _ (by omega), Int.emod_lt_of_pos _ (by omega)⟩
      refine ⟨_, rfl, r1 / 9 % most, rfl, by omega, by omega, ?_⟩
      refine for_range (lo := 0) (n := (r1 / 9 % most).toNat) (fun i σ H3 => ∃ x y, σ = [some (.ref a), some (.int by'), some (.int most), some (.ref cl), x, some (.int (cs.sum + by')), some (.ref f), some (.int (r1 / 9 % most)), some (.int (r2 / 360 % 5)), y] ∧ Same H H3 ∧ H3 cl = some (.lst (cs.map V.int)) ∧
          ∃ us : List Int, H3 f = some (.lst (us.map V.int)) ∧ us.length = i ∧ ∀ (j : Nat) (u : Int), us[j]? = some u → 0 ≤ u ∧ u ≤ j)
        ⟨none, none, rfl, s2, hc2, [], upd_same, rfl, fun j u h1 => by simp at h1⟩ ?_ ?_
      · rintro i σ H3 hi ⟨x0, y0, rfl, s3, hc3, us, hf3, hul, hug⟩
        have hcl0 : 0 < (((cs.map V.int).length : Nat) : Int) := by
          rw [List.length_map]
          omega
        have hidx : 0 ≤ ((0 : Int) + i + by') % (((cs.map V.int).length : Nat) : Int) ∧ ((0 : Int) + i + by') % (((cs.map V.int).length : Nat) : Int) < (((cs.map V.int).length : Nat) : Int) := ⟨Int.emod_nonneg _ (by omega), Int.emod_lt_of_pos _ hcl0⟩
        obtain ⟨z, hz⟩ : ∃ z, cs[(((0 : Int) + i + by') % (((cs.map V.int).length : Nat) : Int)).toNat]? = some z := ⟨_, List.getElem?_eq_getElem (by have := hidx.2; rw [List.length_map] at this; rw [List.length_map]; omega)⟩
        refine ⟨_, rfl, _, rfl, _, rfl, _, _, rfl, rfl, _, rfl, cl, _, rfl, .inl (SqL.of hc3), _, _, rfl, rfl, hcl0, cl, cs.map V.int, _, .int z, rfl, rfl, SqL.of hc3, at_of (j := (((0 : Int) + i + by') % (((cs.map V.int).length : Nat) : Int)).toNat) (by omega) (by rw [List.getElem?_map, hz]; rfl), ?_⟩
        refine ⟨_, rfl, _, _, rfl, rfl, _, rfl, _, rfl, _, _, rfl, rfl, _, rfl, _, _, _, rfl, by omega, by omega, fun r => ?_⟩
        refine ⟨_, _, rfl, rfl, ⟨by decide, by decide⟩, ?_⟩
        refine ⟨_, rfl, .inl ⟨rfl, _, SqL.of hf3⟩, ?_⟩
        refine ⟨_, rfl, _, rfl, _, _, rfl, rfl, _, _, rfl, rfl, (by show (0 : Int) < 0 + i + 1; omega), ?_⟩
        refine ⟨_, rfl, _, rfl, _, rfl, _, _, rfl, rfl, _, _, rfl, _, _, rfl, rfl, (by show (0 : Int) < if (3 : Int) < 0 + (i : Int) + 1 then (3 : Int) else 0 + (i : Int) + 1; split <;> omega), ?_⟩
        refine ⟨_, rfl, _, _, rfl, rfl, ⟨by decide, by decide⟩, (by show 5 ≤ sizeLine; decide), fun t ht => ?_⟩
        obtain ⟨v, hv, hv0, hv1⟩ : ∃ v : Int, atI [V.int (r / 3 % (0 + i + 1)), V.int (0 + i), V.int 0, V.int (r / 3 % (if (3 : Int) < 0 + (i : Int) + 1 then (3 : Int) else 0 + (i : Int) + 1)), V.int ((0 + i) / 2)] (r2 / 360 % 5) = some (V.int v) ∧ 0 ≤ v ∧ v ≤ i := by
          have c5 : r2 / 360 % 5 = ((0 : Nat) : Int) ∨ r2 / 360 % 5 = ((1 : Nat) : Int) ∨ r2 / 360 % 5 = ((2 : Nat) : Int) ∨ r2 / 360 % 5 = ((3 : Nat) : Int) ∨ r2 / 360 % 5 = ((4 : Nat) : Int) := by omega
          rcases c5 with e | e | e | e | e
          · refine ⟨_, at_of e rfl, Int.emod_nonneg _ (by omega), ?_⟩
            have := Int.emod_lt_of_pos (r / 3) (show (0 : Int) < 0 + i + 1 by omega)
            omega
          · exact ⟨_, at_of e rfl, by omega, by omega⟩
          · exact ⟨_, at_of e rfl, by omega, by omega⟩
          · have hpos : (0 : Int) < if (3 : Int) < 0 + (i : Int) + 1 then (3 : Int) else 0 + (i : Int) + 1 := by split <;> omega
            have hle : (if (3 : Int) < 0 + (i : Int) + 1 then (3 : Int) else 0 + (i : Int) + 1) ≤ i + 1 := by split <;> omega
            refine ⟨_, at_of e rfl, Int.emod_nonneg _ (by omega), ?_⟩
            have := Int.emod_lt_of_pos (r / 3) hpos
            omega
          · exact ⟨_, at_of e rfl, by omega, by omega⟩
        refine ⟨_, rfl, t, _, _, .int v, rfl, rfl, SqT.of upd_same, hv, f, us.map V.int, .int v, rfl, rfl, (by rw [upd_ne (ne_of_none hf3 ht)]; exact hf3), ?_, ?_⟩
        · rw [List.length_map]
          exact small1000 (by omega)
        · refine ⟨_, _, rfl, (s3.upd (s3.free ht)).upd hfH, ?_, us ++ [v], ?_, ?_, fun j u hj => ?_⟩
          · rw [upd_ne hcf, upd_ne (ne_of_none hc3 ht)]
            exact hc3
          · rw [upd_same, List.map_append]
            rfl
          · rw [List.length_append, hul]
            rfl
          · by_cases hji : j < us.length
            · rw [List.getElem?_append_left hji] at hj
              exact hug j u hj
            · rw [List.getElem?_append_right (by omega)] at hj
              have ej : j - us.length = 0 := by
                have := (List.getElem?_eq_some_iff.mp hj).1
                simp at this
                omega
              rw [ej] at hj
              have e2 : v = u := by simpa using hj
              omega
      · rintro σ H3 ⟨x0, y0, rfl, s3, hc3, us, hf3, hul, hug⟩
        refine ⟨_, rfl, ?_⟩
        exact k f us H3 s3 hfH hf3 (by omega) ⟨by omega, hug⟩
    obtain ⟨u, hu, rest⟩ := tail
    refine ⟨_, pss_cons (ps_set (i := 3) sc_law_ups.nd rfl (Or.inl rfl) (pe_ifExp (pt_cmpR (op_neDK K hr.units) (pv 0) (@pe_lst _ _ _ _ pa_nil) (nomark _)) (pe_slice (sl_listK K) (pv 0) po_none (po_some pe_int)) (@pe_lst _ _ _ _ (@pa_cons _ _ _ _ _ pe_int pa_nil (by rfl))))) hu, ?_⟩
    refine ⟨_, rfl, Nat.zero_le _, fun e he => ⟨.list (ns.map PyData.int), .list [], dp_ints ((Same.new he).seq hS), .lst (SqL.of upd_same) .nil, shaped_ints ns, shaped_ints [], _, rfl, ?_⟩⟩
    rw [eqv_nil]
    by_cases hn : ns = []
    · rw [decide_eq_true hn]
      refine iteF ?_
      refine ⟨(by show 1 ≤ sizeLine; decide), fun cl hcl => ?_⟩
      exact rest cl [5] _ ((Same.new he).upd ((Same.new he).free hcl)) ((Same.new he).free hcl) upd_same (by decide) (by decide)
    · rw [decide_eq_false hn]
      refine iteT ?_
      refine ⟨_, rfl, _, rfl, a, ns.map V.int, rfl, (Same.new he).seq hS, fun cl hcl => ?_⟩
      have ecut : cutV (ns.map V.int) none (some 63) = ns.map V.int := by
        unfold cutV
        rw [HT.sIx_none]
        have e1 : HT.sIx (ns.map V.int).length (ns.map V.int).length (some 63) = ns.length := by
          have := HT.sIx_nat (ns.map V.int).length (ns.map V.int).length 63
          have e63 : ((63 : Nat) : Int) = 63 := rfl
          rw [e63] at this
          rw [this, List.length_map]
          omega
        rw [e1, List.drop_zero, Nat.sub_zero, List.take_of_length_le (by simp)]
      rw [ecut]
      exact rest cl ns _ ((Same.new he).upd ((Same.new he).free hcl)) ((Same.new he).free hcl) upd_same (List.length_pos_iff.mpr hn) hlen
end
end Toy

set_option Elab.async false
set_option linter.all false
set_option maxRecDepth 100000
set_option maxHeartbeats 4000000
namespace Toy
open PySem L2
theorem perm_ins {α : Type} (xs : List α) (y : α) (k : Nat) : (xs.take k ++ y :: xs.drop k).Perm (y :: xs) := by
  have h := List.perm_middle (a := y) (l₁ := xs.take k) (l₂ := xs.drop k)
  rw [List.take_append_drop] at h
  exact h
def upTo (i : Nat) : List Int := (List.range i).map fun k : Nat => (k : Int) + 1
theorem upTo_succ (i : Nat) : upTo (i + 1) = upTo i ++ [(i : Int) + 1] := by
  unfold upTo
  rw [List.range_succ, List.map_append]
  rfl
theorem names_step {nm : List Int} {i k : Nat} (h : nm.Perm (upTo i)) : (nm.take k ++ ((i : Int) + 1) :: nm.drop k).Perm (upTo (i + 1)) := by
  rw [upTo_succ]
  exact (perm_ins nm _ k).trans ((List.Perm.cons _ h).trans (List.perm_append_singleton _ _).symm)
theorem upTo_nodup (i : Nat) : (upTo i).Nodup := by
  unfold upTo
  exact List.Pairwise.map _ (fun a b hab z => hab (by omega)) List.nodup_range
theorem mem_upTo {i : Nat} {x : Int} : x ∈ upTo i ↔ 0 < x ∧ x ≤ i := by
  unfold upTo
  constructor
  · intro h
    obtain ⟨k, hk, rfl⟩ := List.mem_map.mp h
    have := List.mem_range.mp hk
    omega
  · rintro ⟨h1, h2⟩
    exact List.mem_map.mpr ⟨(x - 1).toNat, List.mem_range.mpr (by omega), by omega⟩
theorem nd_at {α : Type} {xs : List α} (h : xs.Nodup) {p q : Nat} {x : α} (hp : xs[p]? = some x) (hq : xs[q]? = some x) : p = q := by
  obtain ⟨lp, ep⟩ := List.getElem?_eq_some_iff.mp hp
  obtain ⟨lq, eq⟩ := List.getElem?_eq_some_iff.mp hq
  rcases Nat.lt_trichotomy p q with h1 | h1 | h1
  · exact absurd (by rw [ep, eq]) (List.pairwise_iff_getElem.mp h p q lp lq h1)
  · exact h1
  · exact absurd (by rw [ep, eq]) (List.pairwise_iff_getElem.mp h q p lq lp h1)
structure FSpec (us kn : List Int) (fs : List (List Int)) (i : Nat) : Prop where
  len : fs.length = us.length + 1
  nd : ∀ (q : Nat) (row : List Int), fs[q]? = some row → row.Nodup
  mem : ∀ (q : Nat) (row : List Int), fs[q]? = some row → ∀ x, x ∈ row ↔ ∃ (j : Nat) (u : Int), j < i ∧ us[j]? = some u ∧ kn[u.toNat]? = some (q : Int) ∧ kn[j + 1]? = some x
theorem FSpec.start {us kn : List Int} : FSpec us kn (List.replicate (us.length + 1) []) 0 :=
  ⟨by simp, fun q row h => by rw [List.eq_of_mem_replicate (List.mem_of_getElem? h)]; exact List.nodup_nil, fun q row h x => by
    rw [List.eq_of_mem_replicate (List.mem_of_getElem? h)]
    constructor
    · intro h
      cases h
    · rintro ⟨j, u, h, _⟩
      omega⟩
theorem FSpec.step {us kn : List Int} {fs : List (List Int)} {i : Nat} (hk : kn.Nodup) (h : FSpec us kn fs i) {u x : Int} {q k : Nat} {row : List Int} (hu : us[i]? = some u) (hq : kn[u.toNat]? = some (q : Int)) (hx : kn[i + 1]? = some x) (hr : fs[q]? = some row) :
    FSpec us kn (fs.set q (row.take k ++ x :: row.drop k)) (i + 1) := by
  have pr := perm_ins row x k
  have hql := (List.getElem?_eq_some_iff.mp hr).1
  refine ⟨by rw [List.length_set]; exact h.len, fun q' row' hr' => ?_, fun q' row' hr' y => ?_⟩
  · by_cases e : q = q'
    · subst e
      rw [List.getElem?_set_self hql] at hr'
      cases hr'
      refine pr.nodup_iff.mpr (List.nodup_cons.mpr ⟨fun hm => ?_, h.nd q row hr⟩)
      obtain ⟨j, u', hj, _, _, h4⟩ := (h.mem q row hr x).mp hm
      have := nd_at hk h4 hx
      omega
    · rw [List.getElem?_set_ne e] at hr'
      exact h.nd q' row' hr'
  · by_cases e : q = q'
    · subst e
      rw [List.getElem?_set_self hql] at hr'
      cases hr'
      rw [pr.mem_iff, List.mem_cons, h.mem q row hr y]
      constructor
      · rintro (rfl | ⟨j, u', hj, h2, h3, h4⟩)
        · exact ⟨i, u, Nat.lt_succ_self i, hu, hq, hx⟩
        · exact ⟨j, u', by omega, h2, h3, h4⟩
      · rintro ⟨j, u', hj, h2, h3, h4⟩
        by_cases ej : j = i
        · subst ej
          rw [hx] at h4
          cases h4
          exact .inl rfl
        · exact .inr ⟨j, u', by omega, h2, h3, h4⟩
    · rw [List.getElem?_set_ne e] at hr'
      rw [h.mem q' row' hr' y]
      constructor
      · rintro ⟨j, u', hj, h2, h3, h4⟩
        exact ⟨j, u', by omega, h2, h3, h4⟩
      · rintro ⟨j, u', hj, h2, h3, h4⟩
        by_cases ej : j = i
        · subst ej
          rw [hu] at h2
          cases h2
          rw [hq] at h3
          cases h3
          exact absurd rfl e
        · exact ⟨j, u', by omega, h2, h3, h4⟩
theorem FSpec.good {us nm : List Int} {fs : List (List Int)} (hg : GoodUps us) (hn : nm.Perm (upTo us.length)) (h : FSpec us (0 :: nm) fs us.length) : GoodO fs := by
  have hl := h.len
  have h39 := hg.1
  have hnl : nm.length = us.length := by rw [hn.length_eq]; simp [upTo]
  have hkn : (0 :: nm).Nodup := List.nodup_cons.mpr ⟨fun hm => by have := mem_upTo.mp (hn.mem_iff.mp hm); omega, hn.nodup_iff.mpr (upTo_nodup _)⟩
  have hin : ∀ (j : Nat) (x : Int), (0 :: nm)[j + 1]? = some x → 0 < x ∧ x < us.length + 1 := fun j x hx => by
    have hx : nm[j]? = some x := hx
    have := mem_upTo.mp (hn.mem_iff.mp (List.mem_of_getElem? hx))
    omega
  refine ⟨by omega, by omega, fun x hx => ?_, ?_, fun S hS0 hS x h0 h1 => ?_⟩
  · obtain ⟨row, hr, hxr⟩ := List.mem_flatten.mp hx
    obtain ⟨q, hq⟩ := List.getElem?_of_mem hr
    obtain ⟨j, u, hj, h2, h3, h4⟩ := (h.mem q row hq x).mp hxr
    have := hin j x h4
    rw [hl]
    exact ⟨this.1, by omega⟩
  · refine List.pairwise_flatten.mpr ⟨fun row hr => ?_, List.pairwise_iff_getElem.mpr fun p q hp hq hpq x hx y hy z => ?_⟩
    · obtain ⟨q, hq⟩ := List.getElem?_of_mem hr
      exact h.nd q row hq
    · subst z
      obtain ⟨j, u, hj, h2, h3, h4⟩ := (h.mem p _ (List.getElem?_eq_getElem hp) x).mp hx
      obtain ⟨j', u', hj', h2', h3', h4'⟩ := (h.mem q _ (List.getElem?_eq_getElem hq) x).mp hy
      have e := nd_at hkn h4 h4'
      have ej : j = j' := by omega
      subst ej
      rw [h2] at h2'
      cases h2'
      rw [h3] at h3'
      injection h3' with h3'
      omega
  · have key : ∀ (p : Nat) (y : Int), (0 :: nm)[p]? = some y → S y := by
      intro p
      induction p using Nat.strongRecOn with
      | ind p ih =>
        intro y hy
        cases p with
        | zero =>
          have e : (0 : Int) = y := by simpa using hy
          rw [← e]
          exact hS0
        | succ j =>
          have hjl : j < us.length := by
            have := (List.getElem?_eq_some_iff.mp hy).1
            rw [List.length_cons] at this
            omega
          obtain ⟨u, hu⟩ : ∃ u, us[j]? = some u := ⟨_, List.getElem?_eq_getElem hjl⟩
          obtain ⟨u0, u1⟩ := hg.2 j u hu
          obtain ⟨q, hq⟩ : ∃ q, (0 :: nm)[u.toNat]? = some q := ⟨_, List.getElem?_eq_getElem (by rw [List.length_cons]; omega)⟩
          have Sq := ih u.toNat (by omega) q hq
          have q01 : 0 ≤ q ∧ q < us.length + 1 := by
            cases e : u.toNat with
            | zero =>
              rw [e] at hq
              have : (0 : Int) = q := by simpa using hq
              omega
            | succ m =>
              rw [e] at hq
              have := hin m q hq
              omega
          obtain ⟨row, hrow⟩ : ∃ row, fs[q.toNat]? = some row := ⟨_, List.getElem?_eq_getElem (by omega)⟩
          have eq : ((q.toNat : Nat) : Int) = q := by omega
          exact hS q.toNat row hrow (by rw [eq]; exact Sq) y ((h.mem q.toNat row hrow y).mpr ⟨j, u, hjl, hu, by rw [eq]; exact hq, hy⟩)
    have hm : x ∈ 0 :: nm := by
      by_cases e : x = 0
      · rw [e]
        exact List.mem_cons_self
      · exact List.mem_cons_of_mem _ (hn.mem_iff.mpr (mem_upTo.mpr ⟨by omega, by omega⟩))
    obtain ⟨p, hp⟩ := List.getElem?_of_mem hm
    exact key p x hp
def LL (H : Hp) (rs : List Addr) (oss : List (List Int)) : Prop := rs.length = oss.length ∧ ∀ (p : Nat) (r : Addr) (os : List Int), rs[p]? = some r → oss[p]? = some os → H r = some (.lst (os.map V.int))
theorem LL.mono {H H' : Hp} {rs : List Addr} {oss : List (List Int)} (h : LL H rs oss) (s : Same H H') : LL H' rs oss := ⟨h.1, fun p r os a b => s _ _ (h.2 p r os a b)⟩
theorem LL.set {H : Hp} {rs : List Addr} {oss : List (List Int)} {p : Nat} {r : Addr} {t : List Int} (h : LL H rs oss) (hp : rs[p]? = some r) (nd : rs.Nodup) : LL (upd H r (.lst (t.map V.int))) rs (oss.set p t) := by
  refine ⟨by rw [List.length_set]; exact h.1, fun q r' os hq ho => ?_⟩
  by_cases hqp : q = p
  · subst hqp
    rw [hp] at hq
    cases hq
    rw [List.getElem?_set_self (by rw [← h.1]; exact (List.getElem?_eq_some_iff.mp hp).1)] at ho
    cases ho
    exact upd_same
  · rw [List.getElem?_set_ne (Ne.symm hqp)] at ho
    rw [upd_ne (fun z => hqp (nd_at nd hq (by rw [z]; exact hp)))]
    exact h.2 q r' os hq ho
theorem LL.upd {H : Hp} {rs : List Addr} {oss : List (List Int)} {a : Addr} {o : HO} (h : LL H rs oss) (n : a ∉ rs) : LL (L2.upd H a o) rs oss :=
  ⟨h.1, fun p r os hp ho => by rw [upd_ne (fun z => n (by rw [← z]; exact List.mem_of_getElem? hp))]; exact h.2 p r os hp ho⟩
theorem LL.notin {H : Hp} {rs : List Addr} {os : List (List Int)} {a : Addr} (h : LL H rs os) (ha : H a = none) : a ∉ rs := fun h1 => by
  obtain ⟨p, hp⟩ := List.getElem?_of_mem h1
  obtain ⟨o, ho⟩ : ∃ o, os[p]? = some o := ⟨_, List.getElem?_eq_getElem (by rw [← h.1]; exact (List.getElem?_eq_some_iff.mp hp).1)⟩
  rw [h.2 p a o hp ho] at ha
  cases ha
theorem LL.nil {H : Hp} : LL H [] [] := ⟨rfl, fun p r o hp _ => by simp at hp⟩
theorem LL.snoc {H : Hp} {rs : List Addr} {os : List (List Int)} {r : Addr} {o : List Int} (h : LL H rs os) (hr : H r = some (.lst (o.map V.int))) : LL H (rs ++ [r]) (os ++ [o]) := by
  refine ⟨by rw [List.length_append, List.length_append, h.1]; rfl, fun p r' o' hp ho => ?_⟩
  by_cases hpi : p < rs.length
  · rw [List.getElem?_append_left hpi] at hp
    rw [List.getElem?_append_left (by rw [← h.1]; exact hpi)] at ho
    exact h.2 p r' o' hp ho
  · rw [List.getElem?_append_right (by omega)] at hp
    rw [List.getElem?_append_right (by rw [← h.1]; omega), ← h.1] at ho
    have e0 : p - rs.length = 0 := by
      have := (List.getElem?_eq_some_iff.mp hp).1
      simp at this
      omega
    rw [e0] at hp ho
    have e1 : r = r' := by simpa using hp
    have e2 : o = o' := by simpa using ho
    subst e1 e2
    exact hr
theorem ref_get {rs : List Addr} {i : Nat} {x : V} (h : (rs.map V.ref)[i]? = some x) : ∃ r, rs[i]? = some r ∧ x = .ref r := by
  rw [List.getElem?_map] at h
  obtain ⟨r, e, q⟩ := Option.map_eq_some_iff.mp h
  exact ⟨r, e, q.symm⟩
theorem LL.ol {H : Hp} {rs : List Addr} {os : List (List Int)} (h : LL H rs os) : OL H (rs.map V.ref) os := by
  refine ⟨by rw [List.length_map, List.length_map, h.1], fun p v row hp hr => ?_⟩
  obtain ⟨r, hr1, rfl⟩ := ref_get hp
  rw [List.getElem?_map] at hr
  obtain ⟨l, hl, rfl⟩ := Option.map_eq_some_iff.mp hr
  exact ⟨r, rfl, h.2 p r l hr1 hl⟩
end Toy

set_option Elab.async false
set_option linter.all false
set_option maxRecDepth 100000
set_option maxHeartbeats 4000000
namespace Toy
open PySem L2
theorem cut63 {ns : List Int} (hlen : ns.length ≤ 63) : cutV (ns.map V.int) none (some 63) = ns.map V.int := by
  unfold cutV
  rw [HT.sIx_none]
  have e1 : HT.sIx (ns.map V.int).length (ns.map V.int).length (some 63) = ns.length := by
    have := HT.sIx_nat (ns.map V.int).length (ns.map V.int).length 63
    have e63 : ((63 : Nat) : Int) = 63 := rfl
    rw [e63] at this
    rw [this, List.length_map]
    omega
  rw [e1, List.drop_zero, Nat.sub_zero, List.take_of_length_le (by simp)]
section
variable {P : Program} {w : World} {K : PySem.W.Frag} {mg : Str → Option Value} {base : Heap} {A : Adr}
def spLord (K : PySem.W.Frag) : Sp := fun vs H Q _ => ∃ (a : Addr) (ns : List Int) (by' most : Int), vs = [.ref a, .int by', .int most] ∧ SqL K H a (ns.map V.int) ∧ ns.length ≤ 63 ∧ 0 ≤ by' ∧ by' ≤ 10 ∧ 1 ≤ most ∧ most ≤ 40 ∧
  ∀ (b : Addr) (rs : List Addr) (os : List (List Int)) (H' : Hp), Same H H' → H b = none → H' b = some (.lst (rs.map V.ref)) → LL H' rs os → rs.Nodup → b ∉ rs → (∀ r ∈ rs, H r = none) → GoodO os → (os.length : Int) ≤ most → Q (.ref b) H'
theorem sc_law_orders : FnScope ["_law_script", "_law_by", "_law_most", "_law_cells", "_law_whole", "_law_at", "_law_ups_here", "_law_names", "_law_number_here", "_law_found", "_law_known", "_law_up", "_law_row", "_law_person"] ["_law_script", "_law_by", "_law_most"] (defScope s_law_orders) := ⟨rfl, rfl, rfl, by decide +kernel, rfl, by decide +kernel, by decide +kernel⟩
theorem ok_law_orders (T : Txt K mg A) : FnOk P w K mg base CX0 3 A.f_law_orders A.d_law_orders ["_law_script", "_law_by", "_law_most"] (spLord K) := by
  have G_law_number := ok_law_number (P := P) (w := w) (base := base) T
  have G_law_ups := ok_law_ups (P := P) (w := w) (base := base) T
  refine T.f_law_orders.ok sc_law_orders (fun vs H Q E h => ?_) (fun cdv A' outer s H vs Q E hr h => ?_)
  · obtain ⟨a, ns, b, m, rfl, _⟩ := h
    rfl
  · obtain ⟨a, ns, by', most, rfl, hS, hlen, hb0, hb1, hm0, hm1, k⟩ := h
    have tail : ∃ u, PSs (cxOf CX0 P w K mg base ["_law_script", "_law_by", "_law_most", "_law_cells", "_law_whole", "_law_at", "_law_ups_here", "_law_names", "_law_number_here", "_law_found", "_law_known", "_law_up", "_law_row", "_law_person"] "_law_orders" (defScope s_law_orders) A.f_law_orders cdv A' outer s H E).nox ((defBody s_law_orders).drop 2) u ∧ ∀ (cl ub na : Addr) (cs us : List Int) (H1 : Hp), Same H H1 → H cl = none → H1 cl = some (.lst (cs.map V.int)) → 0 < cs.length → cs.length ≤ 63 →
        H1 ub = some (.lst (us.map V.int)) → GoodUps us → (us.length : Int) < most → H1 na = some (.lst []) → H na = none → na ≠ ub → na ≠ cl →
        u { nx := fun _ H' => Q .non H', rt := Q } [some (.ref a), some (.int by'), some (.int most), some (.ref cl), none, none, some (.ref ub), some (.ref na), none, none, none, none, none, none] H1 := by
      refine ⟨_, (pss_cons (ps_set (i := 4) sc_law_orders.nd rfl (Or.inl rfl) (pe_op op_add (pe_callB (cr_sumK K rfl) (by rfl) T.n_sum (by decide +kernel) (@pa_cons _ _ _ _ _ (pv 3) pa_nil (by rfl))) (pv 1)))
      (pss_cons (ps_for PassesOwn.never rfl (pi_range1 (by rfl) T.n_range (@pa_cons _ _ _ _ _ (pe_callB (call_len_seqK K) (by rfl) T.n_len PySem.boot_len (@pa_cons _ _ _ _ _ (pv 6) pa_nil (by rfl))) pa_nil (by rfl))) (pg_name (i := 5) sc_law_orders.nd rfl (Or.inl rfl)) (pss_cons (ps_set (i := 8) sc_law_orders.nd rfl (Or.inl rfl) (pe_op op_fdiv (pe_call G_law_number (hr.mono (by decide)) (by rfl) T.m_law_number T.k_law_number T.b_law_number .nil pass0 (@pa_cons _ _ _ _ _ (pe_op op_add (pe_ix (ix_listK K) (pv 3) (pe_op op_mod (pe_op op_add (pv 5) (pv 1)) (pe_callB (call_len_seqK K) (by rfl) T.n_len PySem.boot_len (@pa_cons _ _ _ _ _ (pv 3) pa_nil (by rfl)))) (fun _ _ => rfl)) (pe_op op_mulB pe_int (pv 5))) (@pa_cons _ _ _ _ _ (pe_op op_add (pv 5) (pv 1)) (@pa_cons _ _ _ _ _ (pv 4) pa_nil (by rfl)) (by rfl)) (by rfl))) pe_int))
      (pss_one (ps_expr (pe_bmK K PySem.F.plainAttrs_list PySem.F.slot_list_insert PySem.F.type_list_insert mt_insert (pv 7) (@pa_cons _ _ _ _ _ (pe_op op_mod (pv 8) (pe_op op_add (pv 5) pe_int)) (@pa_cons _ _ _ _ _ (pe_op op_add (pv 5) pe_int) pa_nil (by rfl)) (by rfl)))))))
      (pss_cons (ps_par (i := 9) (j := 10) (by rfl) sc_law_orders.nd rfl rfl (by decide) rfl rfl (@pa_cons _ _ _ _ _ (pe_lc (own := [("_law_person", 13)]) rfl sc_law_orders.nd (pi_range1 (by rfl) T.n_range (@pa_cons _ _ _ _ _ (pe_op op_add (pe_callB (call_len_seqK K) (by rfl) T.n_len PySem.boot_len (@pa_cons _ _ _ _ _ (pv 6) pa_nil (by rfl))) pe_int) pa_nil (by rfl))) (blkOk_by (own := [("_law_person", 13)]) (by kernel_rfl)) (fun _ _ _ _ _ => (pg_name (i := 13) sc_law_orders.nd rfl (Or.inl rfl))) (fun _ _ _ _ _ => pts_nil) (fun _ _ _ _ _ => (@pe_lst _ _ _ _ pa_nil))) (@pa_cons _ _ _ _ _ (pe_op op_cat (@pe_lst _ _ _ _ (@pa_cons _ _ _ _ _ pe_int pa_nil (by rfl))) (pv 7)) pa_nil (by rfl)) (by rfl)) (by rfl))
      (pss_cons (ps_for PassesOwn.never rfl (pi_enumK K (by rfl) T.n_enumerate (@pa_cons _ _ _ _ _ (pv 6) pa_nil (by rfl))) (pg_tupK K (n := 2) (by rfl) (pgs_cons (pg_name (i := 5) sc_law_orders.nd rfl (Or.inl rfl)) (pgs_cons (pg_name (i := 11) sc_law_orders.nd rfl (Or.inl rfl)) pgs_nil))) (pss_cons (ps_set (i := 12) sc_law_orders.nd rfl (Or.inl rfl) (pe_ix (ix_listK K) (pv 9) (pe_ix (ix_listK K) (pv 10) (pv 11) (fun _ _ => rfl)) (fun _ _ => rfl)))
      (pss_one (ps_expr (pe_bmK K PySem.F.plainAttrs_list PySem.F.slot_list_insert PySem.F.type_list_insert mt_insert (pv 12) (@pa_cons _ _ _ _ _ (pe_op op_mod (pe_op op_fdiv (pe_call G_law_number (hr.mono (by decide)) (by rfl) T.m_law_number T.k_law_number T.b_law_number .nil pass0 (@pa_cons _ _ _ _ _ (pv 4) (@pa_cons _ _ _ _ _ (pv 5) (@pa_cons _ _ _ _ _ pe_int pa_nil (by rfl)) (by rfl)) (by rfl))) pe_int) (pe_op op_add (pe_callB (call_len_seqK K) (by rfl) T.n_len PySem.boot_len (@pa_cons _ _ _ _ _ (pv 12) pa_nil (by rfl))) pe_int)) (@pa_cons _ _ _ _ _ (pe_ix (ix_listK K) (pv 10) (pe_op op_add (pv 5) pe_int) (fun _ _ => rfl)) pa_nil (by rfl)) (by rfl)))))))
      (pss_one (ps_ret (pv 9))))))), ?_⟩
      intro cl ub na cs us H1 s1 hcn hc1 hc0 hc63 hub hgu hum hna hnaH nab nac
      have hu39 := hgu.1
      refine ⟨_, rfl, cl, cs, rfl, SqL.of hc1, _, rfl, _, _, rfl, rfl, ?_⟩
      refine ⟨_, rfl, ub, _, rfl, .inl (SqL.of hub), _, rfl, by rw [List.length_map]; omega, by rw [List.length_map]; omega, ?_⟩
      rw [List.length_map]
      refine for_range (lo := 0) (n := ((us.length : Nat) : Int).toNat) (fun i σ H3 => ∃ (x y : Option V) (nm : List Int), σ = [some (.ref a), some (.int by'), some (.int most), some (.ref cl), some (.int (cs.sum + by')), x, some (.ref ub), some (.ref na), y, none, none, none, none, none] ∧ Same H H3 ∧ H3 cl = some (.lst (cs.map V.int)) ∧ H3 ub = some (.lst (us.map V.int)) ∧ H3 na = some (.lst (nm.map V.int)) ∧ nm.Perm (upTo i))
        ⟨none, none, [], rfl, s1, hc1, hub, hna, .refl _⟩ ?_ ?_
      · rintro i σ H3 hi ⟨x0, y0, nm, rfl, s3, hc3, hub3, hna3, hpm⟩
        have hnl : nm.length = i := by rw [hpm.length_eq]; simp [upTo]
        have hcl0 : 0 < (((cs.map V.int).length : Nat) : Int) := by
          rw [List.length_map]
          omega
        have hidx : 0 ≤ ((0 : Int) + i + by') % (((cs.map V.int).length : Nat) : Int) ∧ ((0 : Int) + i + by') % (((cs.map V.int).length : Nat) : Int) < (((cs.map V.int).length : Nat) : Int) := ⟨Int.emod_nonneg _ (by omega), Int.emod_lt_of_pos _ hcl0⟩
        obtain ⟨z, hz⟩ : ∃ z, cs[(((0 : Int) + i + by') % (((cs.map V.int).length : Nat) : Int)).toNat]? = some z := ⟨_, List.getElem?_eq_getElem (by have := hidx.2; rw [List.length_map] at this; rw [List.length_map]; omega)⟩
        refine ⟨_, rfl, _, rfl, _, rfl, _, _, rfl, rfl, _, rfl, cl, _, rfl, .inl (SqL.of hc3), _, _, rfl, rfl, hcl0, cl, cs.map V.int, _, .int z, rfl, rfl, SqL.of hc3, at_of (j := (((0 : Int) + i + by') % (((cs.map V.int).length : Nat) : Int)).toNat) (by omega) (by rw [List.getElem?_map, hz]; rfl), ?_⟩
        refine ⟨_, rfl, _, _, rfl, rfl, mulB (m := 20) (n := 20) (bits_of (by decide)) (bits_of (by omega)) (by decide) (by decide), _, _, rfl, rfl, _, rfl, _, rfl, _, _, rfl, rfl, _, rfl, _, _, _, rfl, by omega, by omega, fun r => ?_⟩
        refine ⟨_, _, rfl, rfl, ⟨by decide, by decide⟩, ?_⟩
        have hpos : 0 ≤ r / 3 % (0 + (i : Int) + 1) ∧ r / 3 % (0 + (i : Int) + 1) < 0 + (i : Int) + 1 := ⟨Int.emod_nonneg _ (by omega), Int.emod_lt_of_pos _ (by omega)⟩
        refine ⟨_, rfl, .inl ⟨rfl, _, SqL.of hna3⟩, ?_⟩
        refine ⟨_, rfl, _, rfl, _, _, rfl, rfl, _, _, rfl, rfl, (by show (0 : Int) < 0 + i + 1; omega), _, rfl, _, _, rfl, rfl, na, nm.map V.int, _, _, rfl, rfl, hna3, hpos.1, (by rw [List.length_map]; omega), (by rw [List.length_map]; exact small1000 (by omega)), ?_⟩
        refine ⟨_, _, nm.take (r / 3 % (0 + (i : Int) + 1)).toNat ++ ((i : Int) + 1) :: nm.drop (r / 3 % (0 + (i : Int) + 1)).toNat, rfl, s3.upd hnaH, ?_, ?_, ?_, names_step hpm⟩
        · rw [upd_ne (Ne.symm nac)]
          exact hc3
        · rw [upd_ne (Ne.symm nab)]
          exact hub3
        · rw [upd_same, List.map_append, List.map_cons, List.map_take, List.map_drop]
          have e1 : (0 : Int) + i + 1 = i + 1 := by omega
          simp only [e1]
      · rintro σ H3 ⟨x0, y0, nm, rfl, s3, hc3, hub3, hna3, hpm⟩
        rw [show ((us.length : Nat) : Int).toNat = us.length by omega] at hpm
        have hnl : nm.length = us.length := by rw [hpm.length_eq]; simp [upTo]
        refine ⟨_, rfl, ub, _, rfl, .inl (SqL.of hub3), _, _, rfl, rfl, _, rfl, by rw [List.length_map]; omega, by rw [List.length_map]; omega, fun D hD => ?_⟩
        rw [List.length_map, show (((us.length : Nat) : Int) + 1).toNat = us.length + 1 by omega]
        refine lc_range (lo := 0) (n := us.length + 1) (fun q H4 => Same H3 H4 ∧ ∃ rs : List Addr, rs.length = q ∧ H4 D = some (.lst (rs.map V.ref)) ∧ LL H4 rs (List.replicate q []) ∧ rs.Nodup ∧ D ∉ rs ∧ ∀ m ∈ rs, H3 m = none)
          ⟨Same.new hD, [], rfl, upd_same, LL.nil, List.nodup_nil, by simp, by simp⟩ ?_ ?_
        · rintro q H4 hq ⟨s4, rs, hrl, hD4, hL4, hnd, hDn, hrn⟩
          refine ⟨rfl, yesT ⟨Nat.zero_le _, fun r hr0 => ?_⟩⟩
          have nD : D ≠ r := ne_of_none hD4 hr0
          have m5 : Same H4 (upd H4 r (.lst [])) := Same.new hr0
          have nr : r ∉ rs := hL4.notin hr0
          have nDr : D ∉ rs ++ [r] := fun h1 => by
            rcases List.mem_append.mp h1 with h1 | h1
            · exact hDn h1
            · exact nD (List.mem_singleton.mp h1)
          refine ⟨rs.map V.ref, m5 _ _ hD4, ?_, (s4.trans m5).upd hD, rs ++ [r], ?_, ?_, ?_, ?_, nDr, ?_⟩
          · rw [List.length_map]
            exact small1000 (by omega)
          · rw [List.length_append, hrl]
            rfl
          · rw [upd_same, List.map_append]
            rfl
          · rw [List.replicate_succ']
            exact ((hL4.mono m5).snoc upd_same).upd nDr
          · exact List.nodup_append.mpr ⟨hnd, by simp, fun x hx y hy z => nr (by rw [← List.mem_singleton.mp hy, ← z]; exact hx)⟩
          · intro m hm
            rcases List.mem_append.mp hm with h1 | h1
            · exact hrn m h1
            · rw [List.mem_singleton.mp h1]
              exact s4.free hr0
        · rintro H4 ⟨s4, rs, hrl, hD4, hL4, hnd, hDn, hrn⟩
          have sH4 : Same H H4 := s3.trans s4
          refine ⟨(by show 1 ≤ sizeLine; decide), fun p1 hp1 => ⟨_, rfl, p1, na, [.int 0], nm.map V.int, rfl, rfl, upd_same, ?_, ?_, fun kb hkb => ?_⟩⟩
          · rw [upd_ne (ne_of_none (s4 _ _ hna3) hp1)]
            exact s4 _ _ hna3
          · rw [List.length_map]
            exact Nat.le_of_lt (small1000 (by show 1 + nm.length ≤ 1000; omega))
          · have m5 : Same H4 (upd H4 p1 (.lst [.int 0])) := Same.new hp1
            have hkb4 : H4 kb = none := m5.free hkb
            have m6 : Same H4 (upd (upd H4 p1 (.lst [.int 0])) kb (.lst ([.int 0] ++ nm.map V.int))) := m5.upd hkb4
            have hkb6 : (upd (upd H4 p1 (.lst [.int 0])) kb (.lst ([.int 0] ++ nm.map V.int))) kb = some (.lst ((0 :: nm).map V.int)) := by
              rw [upd_same]
              rfl
            generalize upd (upd H4 p1 (.lst [.int 0])) kb (.lst ([.int 0] ++ nm.map V.int)) = H6 at m6 hkb6
            have hub6 := m6 _ _ (s4 _ _ hub3)
            have hD6 := m6 _ _ hD4
            have hL6 := hL4.mono m6
            have sH6 := sH4.trans m6
            have hDH : H D = none := s3.free hD
            have hrnH : ∀ m ∈ rs, H m = none := fun m hm => s3.free (hrn m hm)
            have hkn : (0 :: nm).Nodup := List.nodup_cons.mpr ⟨fun hm => by have := mem_upTo.mp (hpm.mem_iff.mp hm); omega, hpm.nodup_iff.mpr (upTo_nodup _)⟩
            have hknin : ∀ (j : Nat) (x : Int), (0 :: nm)[j]? = some x → 0 ≤ x ∧ x < us.length + 1 := fun j x hx => by
              rcases List.mem_cons.mp (List.mem_of_getElem? hx) with e | e
              · omega
              · have := mem_upTo.mp (hpm.mem_iff.mp e)
                omega
            have nkr : kb ∉ rs := fun h1 => by
              obtain ⟨p, hp⟩ := List.getElem?_of_mem h1
              have hpl := (List.getElem?_eq_some_iff.mp hp).1
              have q := hL4.2 p kb [] hp (by rw [List.getElem?_replicate, if_pos (by omega)])
              rw [hkb4] at q
              cases q
            have nur : ub ∉ rs := fun h1 => by
              have := hrn ub h1
              rw [hub3] at this
              cases this
            refine ⟨_, _, rfl, ?_⟩
            refine ⟨_, rfl, ub, us.map V.int, rfl, SqL.of hub6, for_enum0 (K := K) (a := ub) (xs := us.map V.int)
              (fun i σ H7 => ∃ (x5 x11 x12 : Option V) (fs : List (List Int)), σ = [some (.ref a), some (.int by'), some (.int most), some (.ref cl), some (.int (cs.sum + by')), x5, some (.ref ub), some (.ref na), y0, some (.ref D), some (.ref kb), x11, x12, none] ∧ Same H H7 ∧ H7 ub = some (.lst (us.map V.int)) ∧ H7 kb = some (.lst ((0 :: nm).map V.int)) ∧ H7 D = some (.lst (rs.map V.ref)) ∧ LL H7 rs fs ∧ FSpec us (0 :: nm) fs i)
              ⟨_, _, _, _, rfl, sH6, hub6, hkb6, hD6, hL6, FSpec.start⟩ (fun i σ H7 _ ⟨_, _, _, _, _, _, q, _⟩ => SqL.of q) ?_ ?_⟩
            · rintro i x t σ H7 hi ⟨x5, x11, x12, fs, rfl, s7, hub7, hkb7, hD7, hL7, hF⟩ ht
              obtain ⟨u, hu, rfl⟩ := map_int_get hi
              have hil := (List.getElem?_eq_some_iff.mp hu).1
              obtain ⟨u0, u1⟩ := hgu.2 i u hu
              have m8 : Same H7 (upd H7 t (.tup [.int (i : Nat), .int u])) := Same.new ht
              have hub8 := m8 _ _ hub7
              have hkb8 := m8 _ _ hkb7
              have hD8 := m8 _ _ hD7
              have hL8 := hL7.mono m8
              have s8 := s7.trans m8
              have ht8 : (upd H7 t (.tup [.int (i : Nat), .int u])) t = some (.tup [.int (i : Nat), .int u]) := upd_same
              generalize upd H7 t (.tup [.int (i : Nat), .int u]) = H8 at m8 hub8 hkb8 hD8 hL8 s8 ht8
              obtain ⟨q, hq⟩ : ∃ q, (0 :: nm)[u.toNat]? = some q := ⟨_, List.getElem?_eq_getElem (by rw [List.length_cons]; omega)⟩
              obtain ⟨q0, q1⟩ := hknin _ _ hq
              obtain ⟨x, hx⟩ : ∃ x, (0 :: nm)[i + 1]? = some x := ⟨_, List.getElem?_eq_getElem (by rw [List.length_cons]; omega)⟩
              obtain ⟨r, hr1⟩ : ∃ r, rs[q.toNat]? = some r := ⟨_, List.getElem?_eq_getElem (by omega)⟩
              obtain ⟨row, hrow⟩ : ∃ row, fs[q.toNat]? = some row := ⟨_, List.getElem?_eq_getElem (by have := hF.len; omega)⟩
              have hr8 := hL8.2 _ _ _ hr1 hrow
              have eq : ((q.toNat : Nat) : Int) = q := by omega
              have hrH : H r = none := hrnH r (List.mem_of_getElem? hr1)
              have hrowl : row.length ≤ 40 := by
                have hnd' := hF.nd _ _ hrow
                have := nodup_len (n := us.length + 1) hnd' fun y hy => by
                  obtain ⟨j, u', _, _, _, h4⟩ := (hF.mem _ _ hrow y).mp hy
                  have := hknin _ _ h4
                  omega
                omega
              refine ⟨t, _, rfl, SqT.of ht8, rfl, _, _, rfl, _, _, rfl, rfl, ?_⟩
              refine ⟨_, rfl, _, rfl, _, rfl, kb, _, u, .int q, rfl, rfl, SqL.of hkb8, at_of (j := u.toNat) (by omega) (by rw [List.getElem?_map, hq]; rfl), D, _, q, .ref r, rfl, rfl, SqL.of hD8, at_of (j := q.toNat) (by omega) (by rw [List.getElem?_map, hr1]; rfl), ?_⟩
              refine ⟨_, rfl, .inl ⟨rfl, _, SqL.of hr8⟩, ?_⟩
              refine ⟨_, rfl, _, rfl, _, _, _, rfl, by omega, by omega, fun r9 => ⟨_, _, rfl, rfl, ⟨by decide, by decide⟩, ?_⟩⟩
              have hpos : 0 ≤ r9 / 7 % ((((row.map V.int).length : Nat) : Int) + 1) ∧ r9 / 7 % ((((row.map V.int).length : Nat) : Int) + 1) < (((row.map V.int).length : Nat) : Int) + 1 := ⟨Int.emod_nonneg _ (by omega), Int.emod_lt_of_pos _ (by omega)⟩
              refine ⟨_, rfl, r, _, rfl, .inl (SqL.of hr8), _, _, rfl, rfl, _, _, rfl, rfl, (by show (0 : Int) < (((row.map V.int).length : Nat) : Int) + 1; omega), ?_⟩
              refine ⟨_, rfl, _, rfl, _, _, rfl, rfl, kb, _, _, .int x, rfl, rfl, SqL.of hkb8, at_of (j := i + 1) (by show (i : Int) + 1 = ((i + 1 : Nat) : Int); omega) (by rw [List.getElem?_map, hx]; rfl), ?_⟩
              refine ⟨r, row.map V.int, _, .int x, rfl, rfl, hr8, hpos.1, (by show r9 / 7 % ((((row.map V.int).length : Nat) : Int) + 1) ≤ (((row.map V.int).length : Nat) : Int); omega), (by rw [List.length_map]; exact small1000 (by omega)), ?_⟩
              generalize (r9 / 7 % ((((row.map V.int).length : Nat) : Int) + 1)).toNat = k9
              have e9 : (row.map V.int).take k9 ++ V.int x :: (row.map V.int).drop k9 = (row.take k9 ++ x :: row.drop k9).map V.int := by
                rw [List.map_append, List.map_cons, List.map_take, List.map_drop]
              rw [e9]
              have nrk : kb ≠ r := fun z => nkr (by rw [z]; exact List.mem_of_getElem? hr1)
              have nru : ub ≠ r := fun z => nur (by rw [z]; exact List.mem_of_getElem? hr1)
              have nrD : D ≠ r := fun z => hDn (by rw [z]; exact List.mem_of_getElem? hr1)
              refine ⟨_, _, _, fs.set q.toNat (row.take k9 ++ x :: row.drop k9), rfl, s8.upd hrH, ?_, ?_, ?_, hL8.set hr1 hnd, hF.step hkn hu (by rw [eq]; exact hq) hx hrow⟩
              · rw [upd_ne nru]
                exact hub8
              · rw [upd_ne nrk]
                exact hkb8
              · rw [upd_ne nrD]
                exact hD8
            · rintro σ H7 ⟨x5, x11, x12, fs, rfl, s7, hub7, hkb7, hD7, hL7, hF⟩
              rw [List.length_map] at hF
              refine ⟨_, rfl, k D rs fs H7 s7 hDH hD7 hL7 hnd hDn hrnH (hF.good hgu hpm) ?_⟩
              rw [hF.len]
              omega
    obtain ⟨u, hu, rest⟩ := tail
    refine ⟨_, pss_cons (ps_par (i := 6) (j := 7) (by rfl) sc_law_orders.nd rfl rfl (by decide) rfl rfl (@pa_cons _ _ _ _ _ (pe_call G_law_ups (hr.mono (by decide)) (by rfl) T.m_law_ups T.k_law_ups T.b_law_ups .nil pass0 (@pa_cons _ _ _ _ _ (pv 0) (@pa_cons _ _ _ _ _ (pv 1) (@pa_cons _ _ _ _ _ (pv 2) pa_nil (by rfl)) (by rfl)) (by rfl))) (@pa_cons _ _ _ _ _ (@pe_lst _ _ _ _ pa_nil) pa_nil (by rfl)) (by rfl)) (by rfl)) (pss_cons (ps_set (i := 3) sc_law_orders.nd rfl (Or.inl rfl) (pe_ifExp (pt_cmpR (op_neDK K hr.units) (pv 0) (@pe_lst _ _ _ _ pa_nil) (nomark _)) (pe_slice (sl_listK K) (pv 0) po_none (po_some pe_int)) (@pe_lst _ _ _ _ (@pa_cons _ _ _ _ _ pe_int pa_nil (by rfl))))) hu), ?_⟩
    refine ⟨_, rfl, _, rfl, _, rfl, a, ns, by', most, rfl, hS, hlen, hb0, hb1, hm0, hm1, fun ub us H1 s1 hun hub hum hgu => ⟨Nat.zero_le _, fun na hna => ⟨_, _, rfl, ?_⟩⟩⟩
    have m2 : Same H1 (upd H1 na (.lst [])) := Same.new hna
    have s2 : Same H (upd H1 na (.lst [])) := s1.trans m2
    have hna2 : (upd H1 na (.lst [])) na = some (.lst []) := upd_same
    have hub2 := m2 _ _ hub
    have nab : na ≠ ub := Ne.symm (ne_of_none hub hna)
    have hnaH : H na = none := s1.free hna
    generalize upd H1 na (.lst []) = H2 at m2 s2 hna2 hub2
    refine ⟨_, rfl, Nat.zero_le _, fun e he => ⟨.list (ns.map PyData.int), .list [], dp_ints ((Same.new he).seq (s2.seq hS)), .lst (SqL.of upd_same) .nil, shaped_ints ns, shaped_ints [], _, rfl, ?_⟩⟩
    have m3 : Same H2 (upd H2 e (.lst [])) := Same.new he
    generalize upd H2 e (.lst []) = H3 at m3
    have s3 := s2.trans m3
    rw [eqv_nil]
    by_cases hn : ns = []
    · rw [decide_eq_true hn]
      refine iteF ?_
      refine ⟨(by show 1 ≤ sizeLine; decide), fun cl hcl => ?_⟩
      have m4 : Same H3 (upd H3 cl (.lst [.int 5])) := Same.new hcl
      exact rest cl ub na [5] us _ (s3.trans m4) (s3.free hcl) upd_same (by decide) (by decide) (m4 _ _ (m3 _ _ hub2)) hgu hum (m4 _ _ (m3 _ _ hna2)) hnaH nab (ne_of_none (m3 _ _ hna2) hcl)
    · rw [decide_eq_false hn]
      refine iteT ?_
      refine ⟨_, rfl, _, rfl, a, ns.map V.int, rfl, s3.seq hS, fun cl hcl => ?_⟩
      rw [cut63 hlen]
      have m4 : Same H3 (upd H3 cl (.lst (ns.map V.int))) := Same.new hcl
      exact rest cl ub na ns us _ (s3.trans m4) (s3.free hcl) upd_same (List.length_pos_iff.mpr hn) hlen (m4 _ _ (m3 _ _ hub2)) hgu hum (m4 _ _ (m3 _ _ hna2)) hnaH nab (ne_of_none (m3 _ _ hna2) hcl)
end
end Toy

set_option Elab.async false
set_option linter.all false
set_option maxRecDepth 100000
set_option maxHeartbeats 4000000
namespace Toy
open PySem L2
structure WC (os : List (List Int)) (rows : List (Option (List Int))) (C : Int → Prop) : Prop where
  zero : C 0
  known : ∀ (p : Nat) (l : List Int), rows[p]? = some (some l) → C p
  row : ∀ (p : Nat) (l : List Int), rows[p]? = some (some l) → l.Nodup ∧ ∀ x ∈ l, 0 < x ∧ x < os.length ∧ ¬ C x ∧ ∃ (q : Nat) (r : List Int), os[q]? = some r ∧ x ∈ r ∧ C q
  dis : ∀ (p q : Nat) (l m : List Int), p ≠ q → rows[p]? = some (some l) → rows[q]? = some (some m) → ∀ x ∈ l, x ∉ m
  up : ∀ y, C y → y = 0 ∨ ∃ (q : Nat) (r : List Int), os[q]? = some r ∧ y ∈ r ∧ C q
structure WInv (os : List (List Int)) (rows : List (Option (List Int))) : Prop where
  len : rows.length = os.length
  ex : ∃ C, WC os rows C
theorem WInv.rowsIn {os : List (List Int)} {rows : List (Option (List Int))} (g : GoodO os) (h : WInv os rows) : RowsIn os rows := by
  obtain ⟨C, w⟩ := h.ex
  refine ⟨h.len, fun p l hl => ⟨?_, fun x hx => ?_⟩⟩
  · exact Nat.le_trans (nodup_len (n := os.length) (w.row p l hl).1 fun x hx => by have := (w.row p l hl).2 x hx; omega) g.n40
  · have := (w.row p l hl).2 x hx
    omega
theorem WInv.first {os : List (List Int)} (g : GoodO os) : WInv os (firstM os) := by
  have n1 := g.n1
  have h0 := ch_get (os := os) (x := 0) (by omega) (by omega)
  obtain ⟨c1, c2⟩ := g.row h0
  have only : ∀ (p : Nat) (l : List Int), (firstM os)[p]? = some (some l) → p = 0 ∧ l = ch os 0 := by
    intro p l hl
    cases p with
    | zero =>
      have : some (ch os 0) = some l := by simpa [firstM] using hl
      cases this
      exact ⟨rfl, rfl⟩
    | succ p =>
      have : (List.replicate (os.length - 1) (none : Option (List Int)))[p]? = some (some l) := by simpa [firstM] using hl
      have := List.eq_of_mem_replicate (List.mem_of_getElem? this)
      cases this
  refine ⟨by simp [firstM]; omega, fun y => y = 0, rfl, fun p l hl => ?_, fun p l hl => ?_, fun p q l m hpq hl hm => ?_, fun y hy => .inl hy⟩
  · rw [(only p l hl).1]
    rfl
  · obtain ⟨rfl, rfl⟩ := only p l hl
    refine ⟨c1, fun x hx => ?_⟩
    have := c2 x hx
    exact ⟨this.1, this.2, by omega, 0, ch os 0, h0, hx, rfl⟩
  · exact absurd ((only p l hl).1.trans (only q m hm).1.symm) hpq
theorem set_get {α : Type} {xs : List α} {i p : Nat} {v y : α} (h : (xs.set i v)[p]? = some y) : (p = i ∧ y = v) ∨ (p ≠ i ∧ xs[p]? = some y) := by
  by_cases e : i = p
  · subst e
    have hl := (List.getElem?_eq_some_iff.mp h).1
    rw [List.length_set] at hl
    rw [List.getElem?_set_self hl] at h
    cases h
    exact .inl ⟨rfl, rfl⟩
  · rw [List.getElem?_set_ne e] at h
    exact .inr ⟨Ne.symm e, h⟩
theorem WC.call {os : List (List Int)} {rows : List (Option (List Int))} {C : Int → Prop} (g : GoodO os) (w : WC os rows C) {c : Nat} {x : Int} {rest : List Int} (hc : rows[c]? = some (some (x :: rest))) :
    WC os (rows.set c (some (ch os x ++ rest))) (fun y => C y ∨ y = x) ∧ WC os ((rows.set c (some rest)).set x.toNat (some (ch os x))) (fun y => C y ∨ y = x) ∧ rows[x.toNat]? ≠ some (some rest) ∧ (∀ l, rows[x.toNat]? ≠ some (some l)) := by
  obtain ⟨rn, rx⟩ := w.row c _ hc
  obtain ⟨x0, x1, xC, qx, rq, hq, hxq, hCq⟩ := rx x List.mem_cons_self
  obtain ⟨xr, rn⟩ := List.nodup_cons.mp rn
  have hch := ch_get (os := os) (x := x) (by omega) x1
  obtain ⟨cn, cr⟩ := g.row hch
  have ex : ((x.toNat : Nat) : Int) = x := by omega
  have new : ∀ y ∈ ch os x, ¬ C y ∧ y ≠ x := fun y hy => by
    constructor
    · intro hCy
      rcases w.up y hCy with e | ⟨q, r, h1, h2, h3⟩
      · have := cr y hy
        omega
      · have e := g.one h1 hch h2 hy
        rw [e, ex] at h3
        exact xC h3
    · intro e
      subst e
      have e := g.one hq hch hxq hy
      rw [e, ex] at hCq
      exact xC hCq
  have apart : ∀ (p : Nat) (l : List Int), rows[p]? = some (some l) → ∀ y ∈ l, y ∉ ch os x := fun p l hl y hy hyc => by
    obtain ⟨_, _, _, q, r, h1, h2, h3⟩ := (w.row p l hl).2 y hy
    have e := g.one h1 hch h2 hyc
    rw [e, ex] at h3
    exact xC h3
  have noX : ∀ l, rows[x.toNat]? ≠ some (some l) := fun l hl => by
    have := w.known _ _ hl
    rw [ex] at this
    exact xC this
  have up' : ∀ y, (C y ∨ y = x) → y = 0 ∨ ∃ (q : Nat) (r : List Int), os[q]? = some r ∧ y ∈ r ∧ (C q ∨ (q : Int) = x) := fun y hy => by
    rcases hy with hy | rfl
    · rcases w.up y hy with e | ⟨q, r, h1, h2, h3⟩
      · exact .inl e
      · exact .inr ⟨q, r, h1, h2, .inl h3⟩
    · exact .inr ⟨qx, rq, hq, hxq, .inl hCq⟩
  have old : ∀ (p : Nat) (l : List Int), p ≠ c → rows[p]? = some (some l) → l.Nodup ∧ ∀ y ∈ l, 0 < y ∧ y < os.length ∧ ¬ (C y ∨ y = x) ∧ ∃ (q : Nat) (r : List Int), os[q]? = some r ∧ y ∈ r ∧ (C q ∨ (q : Int) = x) := fun p l hpc hl => by
    obtain ⟨h1, h2⟩ := w.row p l hl
    refine ⟨h1, fun y hy => ?_⟩
    obtain ⟨a, b, c', q, r, d, e, f⟩ := h2 y hy
    refine ⟨a, b, fun z => ?_, q, r, d, e, .inl f⟩
    rcases z with z | rfl
    · exact c' z
    · exact w.dis p c l _ hpc hl hc y hy List.mem_cons_self
  have chOk : ∀ y ∈ ch os x, 0 < y ∧ y < os.length ∧ ¬ (C y ∨ y = x) ∧ ∃ (q : Nat) (r : List Int), os[q]? = some r ∧ y ∈ r ∧ (C q ∨ (q : Int) = x) := fun y hy =>
    ⟨(cr y hy).1, (cr y hy).2, fun z => z.elim (new y hy).1 (new y hy).2, x.toNat, ch os x, hch, hy, .inr ex⟩
  have restOk : ∀ y ∈ rest, 0 < y ∧ y < os.length ∧ ¬ (C y ∨ y = x) ∧ ∃ (q : Nat) (r : List Int), os[q]? = some r ∧ y ∈ r ∧ (C q ∨ (q : Int) = x) := fun y hy => by
    obtain ⟨a, b, c', q, r, d, e, f⟩ := rx y (List.mem_cons_of_mem _ hy)
    refine ⟨a, b, fun z => ?_, q, r, d, e, .inl f⟩
    rcases z with z | rfl
    · exact c' z
    · exact xr hy
  have Cc := w.known _ _ hc
  have ncx : c ≠ x.toNat := fun z => by
    rw [z, ex] at Cc
    exact xC Cc
  have restA : ∀ y ∈ rest, y ∉ ch os x := fun y hy => apart c _ hc y (List.mem_cons_of_mem _ hy)
  refine ⟨⟨.inl w.zero, fun p l hl => ?_, fun p l hl => ?_, fun p q l m hpq hl hm => ?_, up'⟩, ⟨.inl w.zero, fun p l hl => ?_, fun p l hl => ?_, fun p q l m hpq hl hm => ?_, up'⟩, noX _, noX⟩
  · rcases set_get hl with ⟨rfl, _⟩ | ⟨_, hl⟩
    · exact .inl Cc
    · exact .inl (w.known p l hl)
  · rcases set_get hl with ⟨rfl, e⟩ | ⟨n, hl⟩
    · cases e
      refine ⟨List.nodup_append.mpr ⟨cn, rn, fun a ha b hb z => restA b hb (by rw [← z]; exact ha)⟩, fun y hy => ?_⟩
      rcases List.mem_append.mp hy with hy | hy
      · exact chOk y hy
      · exact restOk y hy
    · exact old p l n hl
  · intro y hy hy'
    rcases set_get hl with ⟨rfl, e⟩ | ⟨n, hl⟩
    · cases e
      rcases set_get hm with ⟨rfl, _⟩ | ⟨_, hm⟩
      · exact hpq rfl
      · rcases List.mem_append.mp hy with hy | hy
        · exact apart q m hm y hy' hy
        · exact w.dis _ q _ m hpq hc hm y (List.mem_cons_of_mem _ hy) hy'
    · rcases set_get hm with ⟨e0, e⟩ | ⟨_, hm⟩
      · cases e
        rcases List.mem_append.mp hy' with hy' | hy'
        · exact apart p l hl y hy hy'
        · exact w.dis p c l _ n hl hc y hy (List.mem_cons_of_mem _ hy')
      · exact w.dis p q l m hpq hl hm y hy hy'
  · rcases set_get hl with ⟨rfl, _⟩ | ⟨_, hl⟩
    · exact .inr ex
    · rcases set_get hl with ⟨rfl, _⟩ | ⟨_, hl⟩
      · exact .inl Cc
      · exact .inl (w.known p l hl)
  · rcases set_get hl with ⟨rfl, e⟩ | ⟨_, hl⟩
    · cases e
      exact ⟨cn, chOk⟩
    · rcases set_get hl with ⟨rfl, e⟩ | ⟨n, hl⟩
      · cases e
        exact ⟨rn, restOk⟩
      · exact old p l n hl
  · intro y hy hy'
    rcases set_get hl with ⟨rfl, e⟩ | ⟨_, hl⟩
    · cases e
      rcases set_get hm with ⟨rfl, _⟩ | ⟨_, hm⟩
      · exact hpq rfl
      · rcases set_get hm with ⟨rfl, e⟩ | ⟨_, hm⟩
        · cases e
          exact restA y hy' hy
        · exact apart q m hm y hy' hy
    · rcases set_get hl with ⟨rfl, e⟩ | ⟨_, hl⟩
      · cases e
        rcases set_get hm with ⟨rfl, e⟩ | ⟨_, hm⟩
        · cases e
          exact restA y hy hy'
        · rcases set_get hm with ⟨rfl, _⟩ | ⟨_, hm⟩
          · exact hpq rfl
          · exact w.dis _ q _ m hpq hc hm y (List.mem_cons_of_mem _ hy) hy'
      · rcases set_get hm with ⟨rfl, e⟩ | ⟨_, hm⟩
        · cases e
          exact apart p l hl y hy hy'
        · rcases set_get hm with ⟨e0, e⟩ | ⟨_, hm⟩
          · cases e
            exact w.dis p c l _ (by omega) hl hc y hy (List.mem_cons_of_mem _ hy')
          · exact w.dis p q l m hpq hl hm y hy hy'
abbrev Rws := List (Option (List Int))
structure LSt where
  turn : List (Int × Int × Bool)
  cur : Rws
  more : List (Int × List Int)
def stepL (os : List (List Int)) (as : List Int) (st : LSt) (c : Int) : LSt :=
  if c ∈ as then st else match st.cur.getD c.toNat none with
  | some (x :: rest) => if x ∈ as then ⟨st.turn ++ [(c, x, false)], st.cur.set c.toNat (some (ch os x ++ rest)), st.more⟩ else ⟨st.turn ++ [(c, x, true)], st.cur.set c.toNat (some rest), st.more ++ [(x, ch os x)]⟩
  | _ => st
def appM (cur : Rws) (more : List (Int × List Int)) : Rws := more.foldl (fun r q => r.set q.1.toNat (some q.2)) cur
theorem appM_snoc (cur : Rws) (more : List (Int × List Int)) (q : Int × List Int) : appM cur (more ++ [q]) = (appM cur more).set q.1.toNat (some q.2) := by
  unfold appM
  rw [List.foldl_append]
  rfl
theorem appM_len (cur : Rws) (more : List (Int × List Int)) : (appM cur more).length = cur.length := by
  induction more generalizing cur with
  | nil => rfl
  | cons q r ih =>
    show (appM (cur.set q.1.toNat (some q.2)) r).length = _
    rw [ih, List.length_set]
theorem appM_set {p : Nat} {v : Option (List Int)} : ∀ (more : List (Int × List Int)) (cur : Rws), (∀ q ∈ more, q.1.toNat ≠ p) → appM (cur.set p v) more = (appM cur more).set p v
  | [], cur, _ => rfl
  | q :: r, cur, h => by
    show appM ((cur.set p v).set q.1.toNat (some q.2)) r = (appM (cur.set q.1.toNat (some q.2)) r).set p v
    rw [List.set_comm _ _ (Ne.symm (h q List.mem_cons_self))]
    exact appM_set r _ fun q' hq' => h q' (List.mem_cons_of_mem _ hq')
structure Jn (os : List (List Int)) (rows : Rws) (cs : List Int) (st : List (Int × Int × Bool) × Rws) (lw : LSt) : Prop where
  calls : st.1 = lw.turn
  app : st.2 = appM lw.cur lw.more
  inv : WInv os st.2
  nd : cs.Nodup
  still : ∀ c ∈ cs, ∃ (p : Nat) (l : List Int), c = p ∧ rows[p]? = some (some l) ∧ st.2[p]? = some (some l) ∧ lw.cur[p]? = some (some l)
  more : ∀ q ∈ lw.more, 0 ≤ q.1 ∧ q.1 < os.length ∧ q.1 ∉ cs ∧ ∃ l, st.2[q.1.toNat]? = some (some l)
  mnd : (lw.more.map (·.1)).Nodup
theorem Jn.step {os : List (List Int)} {rows : Rws} {cs as : List Int} {c : Int} {st : List (Int × Int × Bool) × Rws} {lw : LSt} (g : GoodO os) (j : Jn os rows (c :: cs) st lw) :
    Jn os rows cs (stepP os rows as st c) (stepL os as lw c) ∧ (c ∉ as → ∀ x rest, lw.cur[c.toNat]? = some (some (x :: rest)) → 0 ≤ x ∧ x < os.length ∧ x ∉ lw.more.map (·.1)) := by
  obtain ⟨p, l, rfl, hrow, hb, hcur⟩ := j.still c List.mem_cons_self
  obtain ⟨hnc, hnd⟩ := List.nodup_cons.mp j.nd
  have hskip : Jn os rows cs st lw := ⟨j.calls, j.app, j.inv, hnd, fun c' hc' => j.still c' (List.mem_cons_of_mem _ hc'), fun q hq => let ⟨a, b, d, e⟩ := j.more q hq; ⟨a, b, fun z => d (List.mem_cons_of_mem _ z), e⟩, j.mnd⟩
  have hgr : rows.getD ((p : Int)).toNat none = some l := by
    rw [Int.toNat_natCast, List.getD_eq_getElem?_getD, hrow]
    rfl
  have hgc : lw.cur.getD ((p : Int)).toNat none = some l := by
    rw [Int.toNat_natCast, List.getD_eq_getElem?_getD, hcur]
    rfl
  unfold stepP stepL
  by_cases ha : (p : Int) ∈ as
  · rw [if_pos ha, if_pos ha]
    exact ⟨hskip, fun z => absurd ha z⟩
  rw [if_neg ha, if_neg ha, hgr, hgc]
  cases l with
  | nil =>
    refine ⟨hskip, fun _ x rest h => ?_⟩
    rw [Int.toNat_natCast, hcur] at h
    cases h
  | cons x rest =>
    obtain ⟨C, w⟩ := j.inv.ex
    obtain ⟨w1, w2, _, noX⟩ := w.call g hb
    obtain ⟨x0, x1, xC, _⟩ := (w.row p _ hb).2 x List.mem_cons_self
    have ex : ((x.toNat : Nat) : Int) = x := by omega
    have hpl : p < st.2.length := (List.getElem?_eq_some_iff.mp hb).1
    have hxl : x.toNat < st.2.length := by rw [j.inv.len]; omega
    have hpm : ∀ q ∈ lw.more, q.1.toNat ≠ p := fun q hq z => by
      obtain ⟨q0, _, q2, _⟩ := j.more q hq
      exact q2 (by rw [← z, show ((q.1.toNat : Nat) : Int) = q.1 by omega]; exact List.mem_cons_self)
    have hxm : x ∉ lw.more.map (·.1) := fun hm => by
      obtain ⟨q, hq, e⟩ := List.mem_map.mp hm
      obtain ⟨_, _, _, l', h4⟩ := j.more q hq
      rw [e] at h4
      exact noX l' h4
    have other : ∀ c' ∈ cs, ∀ (p' : Nat) (l' : List Int), c' = p' → st.2[p']? = some (some l') → p' ≠ p ∧ p' ≠ x.toNat := fun c' hc' p' l' e h => by
      refine ⟨fun z => hnc (by rw [← z, ← e]; exact hc'), fun z => ?_⟩
      rw [z] at h
      exact noX l' h
    refine ⟨?_, fun _ x' rest' h => ?_⟩
    · simp only [Int.toNat_natCast]
      by_cases hx : x ∈ as
      · rw [if_pos hx, if_pos hx]
        refine ⟨by show st.1 ++ _ = lw.turn ++ _; rw [j.calls], ?_, ⟨by rw [List.length_set]; exact j.inv.len, _, w1⟩, hnd, fun c' hc' => ?_, fun q hq => ?_, j.mnd⟩
        · show st.2.set p _ = appM (lw.cur.set p _) lw.more
          rw [appM_set _ _ hpm, ← j.app]
        · obtain ⟨p', l', e, h1, h2, h3⟩ := j.still c' (List.mem_cons_of_mem _ hc')
          obtain ⟨n1, _⟩ := other c' hc' p' l' e h2
          exact ⟨p', l', e, h1, by show (st.2.set p _)[p']? = _; rw [List.getElem?_set_ne (Ne.symm n1)]; exact h2, by show (lw.cur.set p _)[p']? = _; rw [List.getElem?_set_ne (Ne.symm n1)]; exact h3⟩
        · obtain ⟨a, b, d, l', e⟩ := j.more q hq
          exact ⟨a, b, fun z => d (List.mem_cons_of_mem _ z), l', by show (st.2.set p _)[q.1.toNat]? = _; rw [List.getElem?_set_ne (Ne.symm (hpm q hq))]; exact e⟩
      · rw [if_neg hx, if_neg hx]
        refine ⟨by show st.1 ++ _ = lw.turn ++ _; rw [j.calls], ?_, ⟨by rw [List.length_set, List.length_set]; exact j.inv.len, _, w2⟩, hnd, fun c' hc' => ?_, fun q hq => ?_, ?_⟩
        · show (st.2.set p _).set x.toNat _ = appM (lw.cur.set p _) (lw.more ++ [(x, ch os x)])
          rw [appM_snoc, appM_set _ _ hpm, ← j.app]
        · obtain ⟨p', l', e, h1, h2, h3⟩ := j.still c' (List.mem_cons_of_mem _ hc')
          obtain ⟨n1, n2⟩ := other c' hc' p' l' e h2
          exact ⟨p', l', e, h1, by show ((st.2.set p _).set x.toNat _)[p']? = _; rw [List.getElem?_set_ne (Ne.symm n2), List.getElem?_set_ne (Ne.symm n1)]; exact h2, by show (lw.cur.set p _)[p']? = _; rw [List.getElem?_set_ne (Ne.symm n1)]; exact h3⟩
        · have hq : q ∈ lw.more ++ [(x, ch os x)] := hq
          show _ ∧ _ ∧ _ ∧ ∃ l, ((st.2.set p _).set x.toNat _)[q.1.toNat]? = some (some l)
          rcases List.mem_append.mp hq with hq | hq
          · obtain ⟨a, b, d, l', e⟩ := j.more q hq
            refine ⟨a, b, fun z => d (List.mem_cons_of_mem _ z), ?_⟩
            by_cases ne : x.toNat = q.1.toNat
            · exact ⟨ch os x, by rw [← ne, List.getElem?_set_self (by rw [List.length_set]; exact hxl)]⟩
            · exact ⟨l', by rw [List.getElem?_set_ne ne, List.getElem?_set_ne (Ne.symm (hpm q hq))]; exact e⟩
          · obtain rfl := List.mem_singleton.mp hq
            refine ⟨by show 0 ≤ x; omega, x1, fun z => ?_, ch os x, by rw [List.getElem?_set_self (by rw [List.length_set]; exact hxl)]⟩
            obtain ⟨p', l', e, _, h2, _⟩ := j.still x (List.mem_cons_of_mem _ z)
            have : p' = x.toNat := by omega
            rw [this] at h2
            exact noX l' h2
        · show ((lw.more ++ [(x, ch os x)]).map (·.1)).Nodup
          rw [List.map_append]
          exact List.nodup_append.mpr ⟨j.mnd, by simp, fun a ha b hb z => hxm (by
            have : b = x := by simpa using hb
            rw [← this, ← z]
            exact ha)⟩
    · rw [Int.toNat_natCast, hcur] at h
      cases h
      exact ⟨by omega, x1, hxm⟩
end Toy

set_option Elab.async false
set_option linter.all false
set_option maxRecDepth 100000
set_option maxHeartbeats 4000000
namespace Toy
open PySem L2
theorem idxs_asc (f : Option (List Int) → Bool) (rows : Rws) : (idxs f rows).Pairwise (· < ·) := by
  have key : ∀ n, (idxs f (rows.take n)).Pairwise (· < ·) := by
    intro n
    induction n with
    | zero => simp [idxs]
    | succ n ih =>
      by_cases h : n < rows.length
      · rw [take_snoc (List.getElem?_eq_getElem h), idxs_snoc]
        refine List.pairwise_append.mpr ⟨ih, by split <;> simp, fun a ha b hb => ?_⟩
        obtain ⟨p, row, rfl, hp, _⟩ := idxs_mem.mp ha
        have hpl := (List.getElem?_eq_some_iff.mp hp).1
        split at hb
        · have := List.mem_singleton.mp hb
          omega
        · cases hb
      · rw [List.take_of_length_le (by omega)]
        rw [List.take_of_length_le (by omega)] at ih
        exact ih
  have := key rows.length
  rwa [List.take_length] at this
theorem asc_nodup {xs : List Int} (h : xs.Pairwise (· < ·)) : xs.Nodup := h.imp fun hab z => by omega
theorem sorted_eq : ∀ {xs ys : List Int}, xs.Perm ys → xs.Pairwise (· ≤ ·) → ys.Pairwise (· < ·) → xs = ys
  | [], ys, h, _, _ => h.nil_eq
  | x :: xs, [], h, _, _ => absurd h.length_eq (by simp)
  | x :: xs, y :: ys, h, hx, hy => by
    obtain ⟨hx1, hx2⟩ := List.pairwise_cons.mp hx
    obtain ⟨hy1, hy2⟩ := List.pairwise_cons.mp hy
    have e : x = y := by
      rcases List.mem_cons.mp (h.mem_iff.mp List.mem_cons_self) with e | e
      · exact e
      · have h1 := hy1 x e
        rcases List.mem_cons.mp (h.mem_iff.mpr (List.mem_cons_self (a := y) (l := ys))) with e2 | e2
        · exact e2.symm
        · have := hx1 y e2
          omega
    subst e
    rw [sorted_eq h.cons_inv hx2 hy2]
theorem stepP_no {os : List (List Int)} {rows : Rws} {as : List Int} {st : List (Int × Int × Bool) × Rws} {c : Int} (h : hasC (rows.getD c.toNat none) = false) : stepP os rows as st c = st := by
  unfold stepP
  split
  · rfl
  · split
    · rename_i e
      rw [e] at h
      cases h
    · rfl
theorem next_all (os : List (List Int)) (rows : Rws) (as : List Int) : nextM os rows as = (idxs Option.isSome rows).foldl (stepP os rows as) ([], rows) := by
  unfold nextM idxs
  rw [List.foldl_map, List.foldl_map]
  have e1 : rows.zipIdx.filter (fun q => hasC q.1) = (rows.zipIdx.filter fun q => q.1.isSome).filter fun q => hasC q.1 := by
    rw [List.filter_filter]
    refine List.filter_congr fun q _ => ?_
    cases h : q.1 with
    | none => rfl
    | some l => simp
  rw [e1]
  have mem : ∀ q ∈ rows.zipIdx.filter (fun q => q.1.isSome), rows.getD ((q.2 : Int)).toNat none = q.1 := fun q hq => by
    have h1 := (List.mem_filter.mp hq).1
    have h2 : rows[q.2]? = some q.1 := by simpa [List.mem_zipIdx_iff_getElem?] using h1
    rw [Int.toNat_natCast, List.getD_eq_getElem?_getD, h2]
    rfl
  generalize rows.zipIdx.filter (fun q => q.1.isSome) = L at mem
  generalize (([], rows) : List (Int × Int × Bool) × Rws) = st
  induction L generalizing st with
  | nil => rfl
  | cons q r ih =>
    rw [List.filter_cons]
    have ih := fun st => ih (fun q' hq' => mem q' (List.mem_cons_of_mem _ hq')) st
    by_cases h : hasC q.1 = true
    · rw [if_pos h, List.foldl_cons, List.foldl_cons]
      exact ih _
    · rw [if_neg h, List.foldl_cons, stepP_no (by rw [mem q List.mem_cons_self]; simpa using h)]
      exact ih _
theorem Jn.start {os : List (List Int)} {rows : Rws} (h : WInv os rows) : Jn os rows (idxs Option.isSome rows) ([], rows) ⟨[], rows, []⟩ := by
  refine ⟨rfl, rfl, h, asc_nodup (idxs_asc _ _), fun c hc => ?_, fun q hq => (by cases hq), List.nodup_nil⟩
  obtain ⟨p, row, rfl, hp, hs⟩ := idxs_mem.mp hc
  obtain ⟨l, rfl⟩ := Option.isSome_iff_exists.mp hs
  exact ⟨p, l, rfl, hp, hp, hp⟩
theorem Jn.at {os : List (List Int)} {rows : Rws} {as : List Int} (g : GoodO os) (h : WInv os rows) : ∀ i, i ≤ (idxs Option.isSome rows).length →
    Jn os rows ((idxs Option.isSome rows).drop i) (((idxs Option.isSome rows).take i).foldl (stepP os rows as) ([], rows)) (((idxs Option.isSome rows).take i).foldl (stepL os as) ⟨[], rows, []⟩)
  | 0, _ => Jn.start h
  | i + 1, hi => by
    have ih := Jn.at (as := as) g h i (by omega)
    rw [List.drop_eq_getElem_cons (by omega)] at ih
    have := (ih.step (as := as) g).1
    have e : (idxs Option.isSome rows)[i]? = some ((idxs Option.isSome rows)[i]'(by omega)) := List.getElem?_eq_getElem _
    rw [take_snoc e, List.foldl_append, List.foldl_append]
    exact this
theorem next_law {os : List (List Int)} {rows : Rws} {as : List Int} (g : GoodO os) (h : WInv os rows) : WInv os (nextM os rows as).2 ∧ ((idxs Option.isSome rows).foldl (stepL os as) ⟨[], rows, []⟩).turn = (nextM os rows as).1 ∧
    appM ((idxs Option.isSome rows).foldl (stepL os as) ⟨[], rows, []⟩).cur ((idxs Option.isSome rows).foldl (stepL os as) ⟨[], rows, []⟩).more = (nextM os rows as).2 := by
  have j := Jn.at (as := as) g h _ (Nat.le_refl _)
  rw [List.take_length, ← next_all] at j
  exact ⟨j.inv, j.calls.symm, j.app.symm⟩
structure DR (H : Hp) (kvs : List (Key × V)) (cur : Rws) : Prop where
  nd : (kvs.map (·.1)).Nodup
  key : ∀ k ∈ kvs.map (·.1), ∃ p : Nat, k = .inl (p : Int) ∧ p < cur.length
  no : ∀ p : Nat, cur[p]? = some none → valV kvs (.inl (p : Int)) = none
  yes : ∀ (p : Nat) (l : List Int), cur[p]? = some (some l) → ∃ r, valV kvs (.inl (p : Int)) = some (.ref r) ∧ H r = some (.lst (l.map V.int))
theorem DR.mono {H H' : Hp} {kvs : List (Key × V)} {cur : Rws} (h : DR H kvs cur) (s : KL H H') : DR H' kvs cur :=
  ⟨h.nd, h.key, h.no, fun p l hl => let ⟨r, a, b⟩ := h.yes p l hl; ⟨r, a, s _ _ b⟩⟩
theorem keys_put (kvs : List (Key × V)) (k : Key) (v : V) : (putK kvs k v).map (·.1) = if (valV kvs k).isSome = true then kvs.map (·.1) else kvs.map (·.1) ++ [k] := by
  by_cases h : (valV kvs k).isSome = true
  · rw [if_pos h]
    unfold putK
    rw [valV_any, if_pos h, List.map_map]
    refine List.map_congr_left fun q _ => ?_
    show (if q.1 = k then (q.1, v) else q).1 = q.1
    split <;> rfl
  · have h0 : valV kvs k = none := by
      cases e : valV kvs k with
      | none => rfl
      | some x => exact absurd (by rw [e]; rfl) h
    rw [if_neg h, putK_new v h0, List.map_append]
    rfl
theorem DR.put {H : Hp} {kvs : List (Key × V)} {cur : Rws} {p : Nat} {r : Addr} {l : List Int} (h : DR H kvs cur) (hp : p < cur.length) (hr : H r = some (.lst (l.map V.int))) : DR H (putK kvs (.inl (p : Int)) (.ref r)) (cur.set p (some l)) := by
  have inj : ∀ {a b : Nat}, (Sum.inl (a : Int) : Key) = .inl (b : Int) → a = b := fun {a b} e => by
    injection e with e
    omega
  refine ⟨?_, fun k hk => ?_, fun q hq => ?_, fun q m hq => ?_⟩
  · rw [keys_put]
    split
    · exact h.nd
    · rename_i hs
      have h0 : valV kvs (.inl (p : Int)) = none := by
        cases e : valV kvs (.inl (p : Int)) with
        | none => rfl
        | some x => exact absurd (by rw [e]; rfl) hs
      exact List.nodup_append.mpr ⟨h.nd, by simp, fun a ha b hb z => valV_not h0 (by rw [← List.mem_singleton.mp hb, ← z]; exact ha)⟩
  · rw [keys_put] at hk
    rw [List.length_set]
    split at hk
    · exact h.key k hk
    · rcases List.mem_append.mp hk with hk | hk
      · exact h.key k hk
      · exact ⟨p, List.mem_singleton.mp hk, hp⟩
  · rw [valV_put]
    rcases set_get hq with ⟨_, e⟩ | ⟨n, hq⟩
    · cases e
    · rw [if_neg (fun z => n (inj z))]
      exact h.no q hq
  · rw [valV_put]
    rcases set_get hq with ⟨rfl, e⟩ | ⟨n, hq⟩
    · cases e
      exact ⟨r, by rw [if_pos rfl], hr⟩
    · rw [if_neg (fun z => n (inj z))]
      exact h.yes q m hq
def keyI : Key → Int
  | .inl i => i
  | .inr _ => 0
theorem DR.ints {H : Hp} {kvs : List (Key × V)} {cur : Rws} (h : DR H kvs cur) : (kvs.map fun q => kV q.1) = ((kvs.map fun q => keyI q.1).map V.int) ∧ (kvs.map fun q => keyI q.1).Perm (idxs Option.isSome cur) := by
  have ek : ∀ q ∈ kvs, ∃ p : Nat, q.1 = .inl (p : Int) ∧ p < cur.length := fun q hq => h.key q.1 (List.mem_map.mpr ⟨q, hq, rfl⟩)
  refine ⟨?_, ?_⟩
  · rw [List.map_map]
    refine List.map_congr_left fun q hq => ?_
    obtain ⟨p, e, _⟩ := ek q hq
    show kV q.1 = V.int (keyI q.1)
    rw [e]
    rfl
  · have hnd : (kvs.map fun q => keyI q.1).Nodup := by
      have e : (kvs.map fun q => keyI q.1) = (kvs.map (·.1)).map keyI := by rw [List.map_map]; rfl
      rw [e]
      refine List.pairwise_map.mpr ((List.Pairwise.and_mem.mp h.nd).imp ?_)
      rintro a b ⟨ha, hb, hab⟩ z
      obtain ⟨p, rfl, _⟩ := h.key a ha
      obtain ⟨q, rfl, _⟩ := h.key b hb
      exact hab (congrArg Sum.inl z)
    refine (List.perm_ext_iff_of_nodup hnd (asc_nodup (idxs_asc _ _))).mpr fun x => ?_
    constructor
    · intro hx
      obtain ⟨q, hq, rfl⟩ := List.mem_map.mp hx
      obtain ⟨p, e, hp⟩ := ek q hq
      rw [e]
      show (p : Int) ∈ _
      refine idxs_mem.mpr ⟨p, cur[p], rfl, List.getElem?_eq_getElem hp, ?_⟩
      cases hc : cur[p] with
      | some l => rfl
      | none =>
        have hn := h.no p (by rw [List.getElem?_eq_getElem hp, hc])
        exact absurd (List.mem_map.mpr ⟨q, hq, e⟩) (valV_not hn)
    · intro hx
      obtain ⟨p, row, rfl, hp, hs⟩ := idxs_mem.mp hx
      obtain ⟨l, rfl⟩ := Option.isSome_iff_exists.mp hs
      obtain ⟨r, hv, _⟩ := h.yes p l hp
      obtain ⟨q, hq, e⟩ := List.mem_map.mp (valV_in hv)
      exact List.mem_map.mpr ⟨q, hq, by rw [e]; rfl⟩
theorem DR.len {H : Hp} {kvs : List (Key × V)} {cur : Rws} (h : DR H kvs cur) : kvs.length ≤ cur.length := by
  have := h.ints.2.length_eq
  rw [List.length_map] at this
  rw [this]
  exact idxs_len _ _
structure MR (H : Hp) (kvs : List (Key × V)) (more : List (Int × List Int)) : Prop where
  len : kvs.length = more.length
  at' : ∀ (i : Nat) (q : Key × V) (m : Int × List Int), kvs[i]? = some q → more[i]? = some m → q.1 = .inl m.1 ∧ ∃ r, q.2 = .ref r ∧ H r = some (.lst (m.2.map V.int))
theorem MR.mono {H H' : Hp} {kvs : List (Key × V)} {more : List (Int × List Int)} (h : MR H kvs more) (s : KL H H') : MR H' kvs more :=
  ⟨h.len, fun i q m a b => let ⟨e, r, f, g⟩ := h.at' i q m a b; ⟨e, r, f, s _ _ g⟩⟩
theorem MR.keys {H : Hp} {kvs : List (Key × V)} {more : List (Int × List Int)} (h : MR H kvs more) : kvs.map (·.1) = more.map fun m => (.inl m.1 : Key) := by
  refine List.ext_getElem? fun i => ?_
  rw [List.getElem?_map, List.getElem?_map]
  by_cases hi : i < kvs.length
  · rw [List.getElem?_eq_getElem hi, List.getElem?_eq_getElem (by rw [← h.len]; exact hi)]
    exact congrArg some (h.at' i _ _ (List.getElem?_eq_getElem hi) (List.getElem?_eq_getElem (by rw [← h.len]; exact hi))).1
  · rw [List.getElem?_eq_none (by omega), List.getElem?_eq_none (by rw [← h.len]; omega)]
    rfl
theorem MR.put {H : Hp} {kvs : List (Key × V)} {more : List (Int × List Int)} {x : Int} {l : List Int} {r : Addr} (h : MR H kvs more) (hx : x ∉ more.map (·.1)) (hr : H r = some (.lst (l.map V.int))) : MR H (putK kvs (.inl x) (.ref r)) (more ++ [(x, l)]) := by
  have h0 : valV kvs (.inl x) = none := by
    cases e : valV kvs (.inl x) with
    | none => rfl
    | some v =>
      have hm := valV_in e
      rw [h.keys] at hm
      obtain ⟨m, hm1, hm2⟩ := List.mem_map.mp hm
      injection hm2 with hm2
      exact absurd (List.mem_map.mpr ⟨m, hm1, hm2⟩) hx
  rw [putK_new _ h0]
  refine ⟨by rw [List.length_append, List.length_append, h.len]; rfl, fun i q m hq hm => ?_⟩
  by_cases hi : i < kvs.length
  · rw [List.getElem?_append_left hi] at hq
    rw [List.getElem?_append_left (by rw [← h.len]; exact hi)] at hm
    exact h.at' i q m hq hm
  · rw [List.getElem?_append_right (by omega)] at hq
    rw [List.getElem?_append_right (by rw [← h.len]; omega), ← h.len] at hm
    have e0 : i - kvs.length = 0 := by
      have := (List.getElem?_eq_some_iff.mp hq).1
      simp at this
      omega
    rw [e0] at hq hm
    have e1 : ((.inl x, .ref r) : Key × V) = q := by simpa using hq
    have e2 : (x, l) = m := by simpa using hm
    subst e1 e2
    exact ⟨rfl, r, rfl, hr⟩
theorem val_at : ∀ {kvs : List (Key × V)} {i : Nat} {q : Key × V}, (kvs.map (·.1)).Nodup → kvs[i]? = some q → valV kvs q.1 = some q.2
  | [], _, _, _, h => by simp at h
  | p :: r, 0, q, _, h => by
    have e : p = q := by simpa using h
    subst e
    exact valV_pos rfl
  | p :: r, i + 1, q, nd, h => by
    rw [List.map_cons] at nd
    obtain ⟨h1, h2⟩ := List.nodup_cons.mp nd
    have h : r[i]? = some q := by simpa using h
    rw [valV_neg (fun e => h1 (by rw [e]; exact List.mem_map.mpr ⟨q, List.mem_of_getElem? h, rfl⟩))]
    exact val_at h2 h
end Toy

set_option Elab.async false
set_option linter.all false
set_option maxRecDepth 100000
set_option maxHeartbeats 4000000
namespace Toy
open PySem L2
theorem KL.upd {H H' : Hp} {a : Addr} {o : HO} (k : KL H H') (h : H a = none) : KL H (L2.upd H' a o) := fun b xs e => by
  rw [upd_ne (ne_of_none e h)]
  exact k b xs e
theorem KL.dK {H : Hp} {a : Addr} {kvs : List (Key × V)} {o : HO} (h : H a = some (.dK kvs)) : KL H (L2.upd H a o) := fun b xs e => by
  rw [upd_ne (fun z => by rw [z, h] at e; cases e)]
  exact e
theorem KL.trans {H H1 H2 : Hp} (a : KL H H1) (b : KL H1 H2) : KL H H2 := fun c xs e => b c xs (a c xs e)
structure ZZ (k0 : List (Key × V)) (d sl tt mo : Addr) (H : Hp) (ks : List Int) (Hn : Hp) (cs : List Addr) (kv mv : List (Key × V)) (lw : LSt) : Prop where
  but : But d H Hn
  hsl : Hn sl = some (.lst (ks.map V.int))
  htt : Hn tt = some (.lst (cs.map V.ref))
  ntc : tt ∉ cs
  hC : CL Hn cs lw.turn
  hd : Hn d = some (.dK kv)
  hD : DR Hn kv lw.cur
  hmo : Hn mo = some (.dK mv)
  hM : MR Hn mv lw.more
  nk : ∀ q ∈ kv, q.2 ≠ .ref tt
  nm : ∀ q ∈ mv, q.2 ≠ .ref tt
  ok : ∀ q ∈ kv, (∃ q0 ∈ k0, q0.2 = q.2) ∨ ∃ r, q.2 = .ref r ∧ H r = none
  om : ∀ q ∈ mv, ∃ r, q.2 = .ref r ∧ H r = none
theorem But.free {d : Addr} {H H' : Hp} {o : HO} (b : But d H H') (hd : H' d = some o) {r : Addr} (h : H' r = none) : H r = none := by
  cases q : H r with
  | none => rfl
  | some u =>
    by_cases e : r = d
    · rw [e, hd] at h
      cases h
    · rw [b r u e q] at h
      cases h
theorem put_mem {kvs : List (Key × V)} {k : Key} {v : V} {q : Key × V} (h : q ∈ putK kvs k v) : q ∈ kvs ∨ q.2 = v := by
  unfold putK at h
  split at h
  · obtain ⟨q', hq', rfl⟩ := List.mem_map.mp h
    split
    · exact .inr rfl
    · exact .inl hq'
  · rcases List.mem_append.mp h with h | h
    · exact .inl h
    · rw [List.mem_singleton.mp h]
      exact .inr rfl
theorem val_mem {kvs : List (Key × V)} {k : Key} {v : V} (h : valV kvs k = some v) : ∃ q ∈ kvs, q.2 = v := by
  unfold valV at h
  obtain ⟨q, hq, e⟩ := Option.map_eq_some_iff.mp h
  exact ⟨q, List.mem_of_find?_eq_some hq, e⟩
theorem DR.vals {H : Hp} {kvs : List (Key × V)} {cur : Rws} (h : DR H kvs cur) {q : Key × V} (hq : q ∈ kvs) : ∃ r l, q.2 = .ref r ∧ H r = some (.lst l) := by
  obtain ⟨i, hi⟩ := List.getElem?_of_mem hq
  have hv := val_at h.nd hi
  obtain ⟨p, e, hp⟩ := h.key q.1 (List.mem_map.mpr ⟨q, hq, rfl⟩)
  rw [e] at hv
  cases hc : cur[p] with
  | none =>
    have := h.no p (by rw [List.getElem?_eq_getElem hp, hc])
    rw [this] at hv
    cases hv
  | some l =>
    obtain ⟨r, h1, h2⟩ := h.yes p l (by rw [List.getElem?_eq_getElem hp, hc])
    rw [h1] at hv
    injection hv with hv
    exact ⟨r, _, hv.symm, h2⟩
section
variable {k0 : List (Key × V)} {d sl tt mo : Addr} {H Hn : Hp} {ks : List Int} {cs : List Addr} {kv mv : List (Key × V)} {lw : LSt}
theorem CL.but {H H' : Hp} {cs : List Addr} {calls : List (Int × Int × Bool)} (h : CL H cs calls) (k : ∀ b xs, H b = some (.tup xs) → H' b = some (.tup xs)) : CL H' cs calls := ⟨h.len, fun p t c a b => k _ _ (h.at' p t c a b)⟩
theorem ZZ.same {Hn' : Hp} (z : ZZ k0 d sl tt mo H ks Hn cs kv mv lw) (s : Same Hn Hn') : ZZ k0 d sl tt mo H ks Hn' cs kv mv lw :=
  ⟨z.but.trans (But.of s), s _ _ z.hsl, s _ _ z.htt, z.ntc, z.hC.mono s, s _ _ z.hd, z.hD.mono (KL.of s), s _ _ z.hmo, z.hM.mono (KL.of s), z.nk, z.nm, z.ok, z.om⟩
theorem ZZ.putD (z : ZZ k0 d sl tt mo H ks Hn cs kv mv lw) (ndm : d ≠ mo) {p : Nat} {r : Addr} {l : List Int} (hp : p < lw.cur.length) (hr : Hn r = some (.lst (l.map V.int))) (hrt : r ≠ tt) (hrH : H r = none) :
    ZZ k0 d sl tt mo H ks (L2.upd Hn d (.dK (putK kv (.inl (p : Int)) (.ref r)))) cs (putK kv (.inl (p : Int)) (.ref r)) mv ⟨lw.turn, lw.cur.set p (some l), lw.more⟩ := by
  have kl : KL Hn (L2.upd Hn d (.dK (putK kv (.inl (p : Int)) (.ref r)))) := KL.dK z.hd
  refine ⟨z.but.trans But.upd, kl _ _ z.hsl, kl _ _ z.htt, z.ntc, z.hC.but fun b xs e => ?_, upd_same, (z.hD.put hp hr).mono kl, ?_, z.hM.mono kl, fun q hq => ?_, z.nm, fun q hq => ?_, z.om⟩
  · rw [upd_ne (fun q => by rw [q, z.hd] at e; cases e)]
    exact e
  · rw [upd_ne (Ne.symm ndm)]
    exact z.hmo
  · rcases put_mem hq with h | h
    · exact z.nk q h
    · rw [h]
      exact fun e => hrt (by injection e)
  · rcases put_mem hq with h | h
    · exact z.ok q h
    · exact .inr ⟨r, h, hrH⟩
theorem ZZ.putM (z : ZZ k0 d sl tt mo H ks Hn cs kv mv lw) (ndm : d ≠ mo) (hmoH : H mo = none) {x : Int} {r : Addr} {l : List Int} (hx : x ∉ lw.more.map (·.1)) (hr : Hn r = some (.lst (l.map V.int))) (hrt : r ≠ tt) (hrH : H r = none) :
    ZZ k0 d sl tt mo H ks (L2.upd Hn mo (.dK (putK mv (.inl x) (.ref r)))) cs kv (putK mv (.inl x) (.ref r)) ⟨lw.turn, lw.cur, lw.more ++ [(x, l)]⟩ := by
  have kl : KL Hn (L2.upd Hn mo (.dK (putK mv (.inl x) (.ref r)))) := KL.dK z.hmo
  refine ⟨fun b u n e => ?_, kl _ _ z.hsl, kl _ _ z.htt, z.ntc, z.hC.but fun b xs e => ?_, ?_, z.hD.mono kl, upd_same, (z.hM.put hx hr).mono kl, z.nk, fun q hq => ?_, z.ok, fun q hq => ?_⟩
  · rw [upd_ne (ne_of_none e hmoH)]
    exact z.but b u n e
  · rw [upd_ne (fun q => by rw [q, z.hmo] at e; cases e)]
    exact e
  · rw [upd_ne ndm]
    exact z.hd
  · rcases put_mem hq with h | h
    · exact z.nm q h
    · rw [h]
      exact fun e => hrt (by injection e)
  · rcases put_mem hq with h | h
    · exact z.om q h
    · exact ⟨r, h, hrH⟩
theorem ZZ.app (z : ZZ k0 d sl tt mo H ks Hn cs kv mv lw) (httH : H tt = none) (nst : sl ≠ tt) {t : Addr} {c x : Int} {b : Bool} (ht : Hn t = none) :
    ZZ k0 d sl tt mo H ks (L2.upd (L2.upd Hn t (.tup [.int c, .int x, .bl b])) tt (.lst ((cs ++ [t]).map V.ref))) (cs ++ [t]) kv mv ⟨lw.turn ++ [(c, x, b)], lw.cur, lw.more⟩ := by
  have m : Same Hn (L2.upd Hn t (.tup [.int c, .int x, .bl b])) := Same.new ht
  have z1 := z.same m
  have nt : tt ≠ t := ne_of_none z.htt ht
  have nct : tt ∉ cs ++ [t] := fun hm => by
    rcases List.mem_append.mp hm with h1 | h1
    · exact z.ntc h1
    · exact nt (List.mem_singleton.mp h1)
  have ht1 : (L2.upd Hn t (.tup [.int c, .int x, .bl b])) t = some (.tup [.int c, .int x, .bl b]) := upd_same
  generalize L2.upd Hn t (.tup [.int c, .int x, .bl b]) = H1 at m z1 ht1
  have nd : d ≠ tt := fun q => by
    have := z1.hd
    rw [q, z1.htt] at this
    cases this
  have nm : mo ≠ tt := fun q => by
    have := z1.hmo
    rw [q, z1.htt] at this
    cases this
  refine ⟨fun b u n e => ?_, ?_, upd_same, nct, (z1.hC.snoc (c := (c, x, b)) ht1).upd nct, ?_, ⟨z1.hD.nd, z1.hD.key, z1.hD.no, fun p l hl => ?_⟩, ?_, ⟨z1.hM.len, fun i q m' hq hm => ?_⟩, z.nk, z.nm, z.ok, z.om⟩
  · rw [upd_ne (ne_of_none e httH)]
    exact z1.but b u n e
  · rw [upd_ne nst]
    exact z1.hsl
  · rw [upd_ne nd]
    exact z1.hd
  · obtain ⟨r, e1, e2⟩ := z1.hD.yes p l hl
    exact ⟨r, e1, by rw [upd_ne (fun w => by obtain ⟨q, hq, e3⟩ := val_mem e1; exact z.nk q hq (by rw [e3, w]))]; exact e2⟩
  · rw [upd_ne nm]
    exact z1.hmo
  · obtain ⟨e1, r, e2, e3⟩ := z1.hM.at' i q m' hq hm
    exact ⟨e1, r, e2, by rw [upd_ne (fun w => z.nm q (List.mem_of_getElem? hq) (by rw [e2, w]))]; exact e3⟩
end
section
variable {P : Program} {w : World} {K : PySem.W.Frag} {mg : Str → Option Value} {base : Heap} {A : Adr}
def spTurn : Sp := fun vs H Q _ => ∃ (o d ab : Addr) (xs : List V) (kvs : List (Key × V)) (os : List (List Int)) (rows : Rws) (as : List Int), vs = [.ref o, .ref d, .ref ab] ∧ H o = some (.lst xs) ∧ OL H xs os ∧ GoodO os ∧ H d = some (.dK kvs) ∧ DR H kvs rows ∧ WInv os rows ∧ H ab = some (.lst (as.map V.int)) ∧
  ∀ (tt : Addr) (cs : List Addr) (kvs' : List (Key × V)) (H' : Hp), But d H H' → H tt = none → H' tt = some (.lst (cs.map V.ref)) → CL H' cs (nextM os rows as).1 → H' d = some (.dK kvs') → DR H' kvs' (nextM os rows as).2 → tt ∉ cs → (∀ q ∈ kvs', (∃ q0 ∈ kvs, q0.2 = q.2) ∨ ∃ r, q.2 = .ref r ∧ H r = none) → Q (.ref tt) H'
theorem sc_law_turn : FnScope ["_law_orders_here", "_law_rows", "_law_absent", "_law_caller", "_law_person", "_law_turn_here", "_law_more"] ["_law_orders_here", "_law_rows", "_law_absent"] (defScope s_law_turn) := ⟨rfl, rfl, rfl, by decide +kernel, rfl, by decide +kernel, by decide +kernel⟩
theorem ok_law_turn (T : Txt K mg A) : FnOk P w K mg base CX0 1 A.f_law_turn A.d_law_turn ["_law_orders_here", "_law_rows", "_law_absent"] spTurn := by
  refine T.f_law_turn.ok sc_law_turn (fun vs H Q E h => ?_) (fun cdv A' outer s H vs Q E hr h => ?_)
  · obtain ⟨o, d, ab, xs, kvs, os, rows, as, rfl, _⟩ := h
    rfl
  · obtain ⟨o, d, ab, xs, kvs, os, rows, as, rfl, ho, hO, g, hd, hDR, hW, hab, k⟩ := h
    have n40 := g.n40
    have hrl := hW.len
    refine ⟨_, (pss_cons (ps_par (i := 5) (j := 6) (by rfl) sc_law_turn.nd rfl rfl (by decide) rfl rfl (@pa_cons _ _ _ _ _ (@pe_lst _ _ _ _ pa_nil) (@pa_cons _ _ _ _ _ pe_dnewK pa_nil (by rfl)) (by rfl)) (by rfl))
      (pss_cons (ps_for PassesOwn.never rfl (pi_listK K (pe_callB (cr_sortedK K) (by rfl) T.n_sorted (by decide +kernel) (@pa_cons _ _ _ _ _ (pe_callTy (call_listKK K rfl) (by rfl) T.n_list (by decide +kernel) (@pa_cons _ _ _ _ _ (pv 1) pa_nil (by rfl))) pa_nil (by rfl)))) (pg_name (i := 3) sc_law_turn.nd rfl (Or.inl rfl)) (pss_one (ps_if (PW.pt (pw_and (pt_cmpR (op_notIn_seqK K) (pv 3) (pv 2) (by with_unfolding_all rfl)) (pw_and1 (pt_cmpR (op_neDK K hr.units) (pe_dget hr.unit1 (pv 1) (pv 3) (fun _ _ => rfl)) (@pe_lst _ _ _ _ pa_nil) (nomark _))))) (pss_cons (ps_set (i := 4) sc_law_turn.nd rfl (Or.inl rfl) (pe_ix (ix_listK K) (pe_dget hr.unit1 (pv 1) (pv 3) (fun _ _ => rfl)) pe_int (fun _ _ => rfl)))
      (pss_cons (ps_expr (pe_bmK K PySem.F.plainAttrs_list PySem.F.slot_list_append PySem.F.type_list_append mt_append (pv 5) (@pa_cons _ _ _ _ _ (@pe_tup _ _ _ _ _ (@pa_cons _ _ _ _ _ (pv 3) (@pa_cons _ _ _ _ _ (pv 4) (@pa_cons _ _ _ _ _ (pe_cmpR (op_notIn_seqK K) (pv 4) (pv 2) (by with_unfolding_all rfl)) pa_nil (by rfl)) (by rfl)) (by rfl))) pa_nil (by rfl))))
      (pss_one (ps_if (pt_cmpR (op_in_seqK K) (pv 4) (pv 2) (by with_unfolding_all rfl)) (pss_one (ps_dput hr.unit1 (pv 1) (pv 3) (pe_op op_cat (pe_callTy (call_list_ofK K) (by rfl) T.n_list (by decide +kernel) (@pa_cons _ _ _ _ _ (pe_ix (ix_listK K) (pv 0) (pv 4) (fun _ _ => rfl)) pa_nil (by rfl))) (pe_slice (sl_listK K) (pe_dget hr.unit1 (pv 1) (pv 3) (fun _ _ => rfl)) (po_some pe_int) po_none)) rfl)) (pss_cons (ps_dput hr.unit1 (pv 1) (pv 3) (pe_slice (sl_listK K) (pe_dget hr.unit1 (pv 1) (pv 3) (fun _ _ => rfl)) (po_some pe_int) po_none) rfl)
      (pss_one (ps_dput hr.unit1 (pv 6) (pv 4) (pe_callTy (call_list_ofK K) (by rfl) T.n_list (by decide +kernel) (@pa_cons _ _ _ _ _ (pe_ix (ix_listK K) (pv 0) (pv 4) (fun _ _ => rfl)) pa_nil (by rfl))) rfl))))))) pss_nil)))
      (pss_cons (ps_lock (ps_for PassesOwn.never rfl (pi_keys (pv 6)) (pg_name (i := 4) sc_law_turn.nd rfl (Or.inl rfl)) (pss_one (ps_dput hr.unit1 (pv 1) (pv 4) (pe_dget hr.unit1 (pv 6) (pv 4) (fun _ _ => rfl)) rfl))))
      (pss_one (ps_ret (pv 5)))))), ?_⟩
    refine ⟨Nat.zero_le _, fun tt htt => fun mo hmo => ⟨_, _, rfl, ?_⟩⟩
    have m1 : Same H (upd H tt (.lst [])) := Same.new htt
    have hmoH : H mo = none := m1.free hmo
    have m2 : Same H (upd (upd H tt (.lst [])) mo (.dK [])) := m1.upd hmoH
    have htt2 : (upd (upd H tt (.lst [])) mo (.dK [])) tt = some (.lst []) := by rw [upd_ne (ne_of_none upd_same hmo), upd_same]
    have hmo2 : (upd (upd H tt (.lst [])) mo (.dK [])) mo = some (.dK []) := upd_same
    have ntm : tt ≠ mo := ne_of_none upd_same hmo
    have ndt : d ≠ tt := ne_of_none hd htt
    have ndm : d ≠ mo := ne_of_none hd hmoH
    generalize upd (upd H tt (.lst [])) mo (.dK []) = H2 at m2 htt2 hmo2
    refine ⟨_, rfl, d, kvs, rfl, m2 _ _ hd, Nat.lt_of_le_of_lt hDR.len (small1000 (by omega)), fun l1 hl1 => ?_⟩
    obtain ⟨ei, hpm⟩ := hDR.ints
    rw [ei]
    have m3 : Same H2 (upd H2 l1 (.lst ((kvs.map fun q => keyI q.1).map V.int))) := Same.new hl1
    have hkl : (kvs.map fun q => keyI q.1).length < 64 := by
      rw [List.length_map]
      have := hDR.len
      omega
    refine ⟨l1, _, rfl, SqL.of upd_same, hkl, fun ks sl hks hsrt hsl => ?_⟩
    have eks : ks = idxs Option.isSome rows := sorted_eq (hks.trans hpm) hsrt (idxs_asc _ _)
    subst eks
    have m4 : Same H2 (upd (upd H2 l1 (.lst ((kvs.map fun q => keyI q.1).map V.int))) sl (.lst ((idxs Option.isSome rows).map V.int))) := m3.upd (m3.free hsl)
    have hsl2 : H2 sl = none := m3.free hsl
    have hsl4 : (upd (upd H2 l1 (.lst ((kvs.map fun q => keyI q.1).map V.int))) sl (.lst ((idxs Option.isSome rows).map V.int))) sl = some (.lst ((idxs Option.isSome rows).map V.int)) := upd_same
    generalize upd (upd H2 l1 (.lst ((kvs.map fun q => keyI q.1).map V.int))) sl (.lst ((idxs Option.isSome rows).map V.int)) = H4 at m4 hsl4
    have s4 : Same H H4 := m2.trans m4
    have hslH : H sl = none := m2.free hsl2
    refine ⟨sl, rfl, ⟨_, SqL.of hsl4⟩, for_list (K := K) (a := sl) (xs := (idxs Option.isSome rows).map V.int)
      (fun i σ H5 => ∃ (x3 x4 : Option V) (cs : List Addr) (kv mv : List (Key × V)), σ = [some (.ref o), some (.ref d), some (.ref ab), x3, x4, some (.ref tt), some (.ref mo)] ∧ ZZ kvs d sl tt mo H (idxs Option.isSome rows) H5 cs kv mv (((idxs Option.isSome rows).take i).foldl (stepL os as) ⟨[], rows, []⟩))
      ⟨_, _, [], kvs, [], rfl, But.of s4, hsl4, m4 _ _ htt2, by simp, CL.nil, s4 _ _ hd, hDR.mono (KL.of s4), m4 _ _ hmo2, ⟨rfl, fun i q m h _ => by simp at h⟩, fun q hq e => ?_, by simp, fun q hq => .inl ⟨q, hq, rfl⟩, by simp⟩ (fun i σ H5 _ ⟨_, _, _, _, _, _, z⟩ => SqL.of z.hsl) ?_ ?_⟩
    · obtain ⟨r, l, e1, e2⟩ := hDR.vals hq
      rw [e1] at e
      injection e with e
      rw [e, htt] at e2
      cases e2
    · rintro i x σ H5 hi ⟨x3, x4, cs, kv, mv, rfl, z5⟩
      obtain ⟨c, hc, rfl⟩ := map_int_get hi
      have hil := (List.getElem?_eq_some_iff.mp hc).1
      have j := Jn.at (as := as) g hW i (Nat.le_of_lt hil)
      have edrop : (idxs Option.isSome rows).drop i = c :: (idxs Option.isSome rows).drop (i + 1) := by
        rw [List.drop_eq_getElem_cons hil, (List.getElem?_eq_some_iff.mp hc).2]
      rw [edrop] at j
      have hst : ((idxs Option.isSome rows).take (i + 1)).foldl (stepL os as) ⟨[], rows, []⟩ = stepL os as (((idxs Option.isSome rows).take i).foldl (stepL os as) ⟨[], rows, []⟩) c := by
        rw [take_snoc hc, List.foldl_append]
        rfl
      rw [hst]
      obtain ⟨p, l, rfl, _, hb2, hcur⟩ := j.still c List.mem_cons_self
      have hl40 := ((j.inv.rowsIn g).row p l hb2).1
      have jx := (j.step (as := as) g).2
      have hcurL : (((idxs Option.isSome rows).take i).foldl (stepL os as) ⟨[], rows, []⟩).cur.length = os.length := by
        have h1 := j.inv.len
        rw [j.app, appM_len] at h1
        exact h1
      have hcl : cs.length < 1000 := by
        rw [z5.hC.len, ← j.calls]
        have := (foldP_len (os := os) (rows := rows) (as := as) ((idxs Option.isSome rows).take i) ([], rows)).2
        rw [List.length_take] at this
        have h2 := idxs_len Option.isSome rows
        simp only [List.length_nil] at this
        omega
      have hmore : (((idxs Option.isSome rows).take i).foldl (stepL os as) ⟨[], rows, []⟩).more.length ≤ 40 := by
        have h1 := nodup_len (n := os.length) j.mnd fun x hx => by
          obtain ⟨q, hq, rfl⟩ := List.mem_map.mp hx
          obtain ⟨a, b, _⟩ := j.more q hq
          exact ⟨a, b⟩
        rw [List.length_map] at h1
        omega
      generalize ((idxs Option.isSome rows).take i).foldl (stepL os as) ⟨[], rows, []⟩ = lw at z5 hcur jx hcurL hmore
      clear j hst edrop hb2
      have klH : KL H H5 := fun b ys e => z5.but b _ (fun z => by rw [z, hd] at e; cases e) e
      have hpl : p < lw.cur.length := (List.getElem?_eq_some_iff.mp hcur).1
      have hgc : lw.cur.getD ((p : Int)).toNat none = some l := by
        rw [Int.toNat_natCast, List.getD_eq_getElem?_getD, hcur]
        rfl
      obtain ⟨r, hv, hr5⟩ := z5.hD.yes p l hcur
      have hnst : sl ≠ tt := fun z => by
        have e := m2.free hsl2
        rw [z] at hsl2
        rw [htt2] at hsl2
        cases hsl2
      refine ⟨_, rfl, _, rfl, ab, as.map V.int, rfl, .inl (SqL.of (klH _ _ hab)), rfl, flat_ints as, _, rfl, ?_⟩
      rw [if_pos rfl, inV_ints]
      by_cases ha : (p : Int) ∈ as
      · rw [decide_eq_true ha]
        have e : stepL os as lw p = lw := by
          unfold stepL
          rw [if_pos ha]
        rw [e]
        exact ⟨_, _, cs, kv, mv, rfl, z5⟩
      · rw [decide_eq_false ha]
        refine iteT ?_
        refine ⟨_, rfl, _, rfl, d, _, rfl, (by rw [← hv]; exact DGet.k (k := .inl (p : Int)) z5.hd), Nat.zero_le _, fun e he => ?_⟩
        have m6 : Same H5 (upd H5 e (.lst [])) := Same.new he
        refine ⟨.list (l.map PyData.int), .list [], dp_ints (SqL.of (m6 _ _ hr5)), .lst (SqL.of upd_same) .nil, shaped_ints l, shaped_ints [], _, rfl, ?_⟩
        rw [eqv_nil]
        have z6 := z5.same m6
        have hr6 := m6 _ _ hr5
        generalize upd H5 e (.lst []) = H6 at m6 z6 hr6
        cases l with
        | nil =>
          have e : stepL os as lw p = lw := by
            unfold stepL
            rw [if_neg ha, hgc]
          rw [e]
          exact ⟨_, _, cs, kv, mv, rfl, z6⟩
        | cons x rest =>
          rw [decide_eq_false (by simp)]
          refine iteT ?_
          obtain ⟨x0, x1, xm⟩ := jx ha x rest (by rw [Int.toNat_natCast]; exact hcur)
          have kl6 : KL H H6 := klH.trans (KL.of m6)
          refine ⟨_, rfl, _, rfl, d, _, rfl, (by rw [← hv]; exact DGet.k (k := .inl (p : Int)) z6.hd), r, _, 0, .int x, rfl, rfl, SqL.of hr6, at_of (j := 0) rfl rfl, ?_⟩
          refine ⟨_, rfl, .inl ⟨rfl, _, SqL.of z6.htt⟩, ?_⟩
          refine ⟨_, rfl, _, rfl, _, rfl, _, rfl, ab, as.map V.int, rfl, .inl (SqL.of (kl6 _ _ hab)), rfl, flat_ints as, ?_⟩
          rw [if_pos rfl, inV_ints]
          refine ⟨(by show 3 ≤ sizeLine; decide), fun t ht => ⟨tt, _, _, rfl, rfl, (by rw [upd_ne (ne_of_none z6.htt ht)]; exact z6.htt), ?_, ?_⟩⟩
          · rw [List.length_map]
            exact small1000 (by omega)
          have z7 := z6.app (c := (p : Int)) (x := x) (b := !decide (x ∈ as)) htt hnst ht
          have hr7 : (upd (upd H6 t (.tup [.int (p : Int), .int x, .bl (!decide (x ∈ as))])) tt (.lst ((cs ++ [t]).map V.ref))) r = some (.lst ((x :: rest).map V.int)) := by
            have nrt : r ≠ tt := fun w => by
              obtain ⟨q, hq, e3⟩ := val_mem hv
              exact z6.nk q hq (by rw [e3, w])
            rw [upd_ne nrt, upd_ne (ne_of_none hr6 ht)]
            exact hr6
          rw [show cs.map V.ref ++ [V.ref t] = (cs ++ [t]).map V.ref by rw [List.map_append]; rfl]
          generalize upd (upd H6 t (.tup [.int (p : Int), .int x, .bl (!decide (x ∈ as))])) tt (.lst ((cs ++ [t]).map V.ref)) = H7 at z7 hr7
          have kl7 : KL H H7 := fun b ys e => z7.but b _ (fun z => by rw [z, hd] at e; cases e) e
          obtain ⟨r2, hr2, hr2H⟩ := OL.at hO (ch_get x0 x1)
          have hlch : (ch os x).length ≤ 40 := Nat.le_trans (nodup_len (n := os.length) (g.row (ch_get x0 x1)).1 fun y hy => by have := (g.row (ch_get x0 x1)).2 y hy; omega) n40
          have hkv : kv.length < sizeLine := Nat.lt_of_le_of_lt z7.hD.len (small1000 (by show lw.cur.length ≤ 1000; omega))
          refine ⟨_, rfl, _, rfl, ab, as.map V.int, rfl, .inl (SqL.of (kl7 _ _ hab)), rfl, flat_ints as, _, rfl, ?_⟩
          rw [if_neg (by simp), inV_ints]
          have cutr : cutV ((x :: rest).map V.int) (some 1) none = rest.map V.int := by
            rw [cut_tail (by rw [List.length_map, List.length_cons]; omega)]
            rfl
          by_cases hx : x ∈ as
          · rw [decide_eq_true hx] at z7 ⊢
            refine iteT ?_
            refine ⟨_, rfl, _, rfl, o, _, x, _, rfl, rfl, SqL.of (kl7 _ _ ho), at_of (j := x.toNat) (by omega) hr2, r2, _, rfl, .inl (SqL.of (kl7 _ _ hr2H)), fun q1 hq1 => ?_⟩
            have m8 : Same H7 (upd H7 q1 (.lst ((ch os x).map V.int))) := Same.new hq1
            have z8 := z7.same m8
            have hq18 : (upd H7 q1 (.lst ((ch os x).map V.int))) q1 = some (.lst ((ch os x).map V.int)) := upd_same
            have hr8 := m8 _ _ hr7
            generalize upd H7 q1 (.lst ((ch os x).map V.int)) = H8 at m8 z8 hq18 hr8
            refine ⟨_, rfl, _, rfl, d, _, rfl, (by rw [← hv]; exact DGet.k (k := .inl (p : Int)) z8.hd), _, rfl, r, _, rfl, SqL.of hr8, fun q2 hq2 => ?_⟩
            rw [cutr]
            have m9 : Same H8 (upd H8 q2 (.lst (rest.map V.int))) := Same.new hq2
            have z9 := z8.same m9
            have hq29 : (upd H8 q2 (.lst (rest.map V.int))) q2 = some (.lst (rest.map V.int)) := upd_same
            have hq19 := m9 _ _ hq18
            generalize upd H8 q2 (.lst (rest.map V.int)) = H9 at m9 z9 hq29 hq19
            refine ⟨q1, q2, _, _, rfl, rfl, hq19, hq29, ?_, fun q3 hq3 => ?_⟩
            · rw [List.length_map, List.length_map]
              rw [List.length_cons] at hl40
              exact Nat.le_of_lt (small1000 (by omega))
            have m10 : Same H9 (upd H9 q3 (.lst ((ch os x).map V.int ++ rest.map V.int))) := Same.new hq3
            have z10 := z9.same m10
            have hq310 : (upd H9 q3 (.lst ((ch os x).map V.int ++ rest.map V.int))) q3 = some (.lst ((ch os x ++ rest).map V.int)) := by rw [upd_same, List.map_append]
            have nq3 : q3 ≠ tt := Ne.symm (ne_of_none z9.htt hq3)
            generalize upd H9 q3 (.lst ((ch os x).map V.int ++ rest.map V.int)) = H10 at m10 z10 hq310
            refine ⟨_, rfl, _, rfl, d, _, rfl, DPut.k (k := .inl (p : Int)) z10.hd hkv, ?_⟩
            have e : stepL os as lw p = ⟨lw.turn ++ [((p : Int), x, false)], lw.cur.set p (some (ch os x ++ rest)), lw.more⟩ := by
              unfold stepL
              rw [if_neg ha, hgc]
              simp only
              rw [if_pos hx, Int.toNat_natCast]
            rw [e]
            exact ⟨_, _, _, _, _, rfl, z10.putD ndm (l := ch os x ++ rest) hpl hq310 nq3 (z9.but.free z9.hd hq3)⟩
          · rw [decide_eq_false hx] at z7 ⊢
            refine iteF ?_
            refine ⟨_, rfl, _, rfl, d, _, rfl, (by rw [← hv]; exact DGet.k (k := .inl (p : Int)) z7.hd), _, rfl, r, _, rfl, SqL.of hr7, fun q2 hq2 => ?_⟩
            rw [cutr]
            have m8 : Same H7 (upd H7 q2 (.lst (rest.map V.int))) := Same.new hq2
            have z8 := z7.same m8
            have hq28 : (upd H7 q2 (.lst (rest.map V.int))) q2 = some (.lst (rest.map V.int)) := upd_same
            have nq2 : q2 ≠ tt := Ne.symm (ne_of_none z7.htt hq2)
            generalize upd H7 q2 (.lst (rest.map V.int)) = H8 at m8 z8 hq28
            refine ⟨_, rfl, _, rfl, d, _, rfl, DPut.k (k := .inl (p : Int)) z8.hd hkv, ?_⟩
            have z9 := z8.putD ndm (p := p) (l := rest) hpl hq28 nq2 (z7.but.free z7.hd hq2)
            generalize upd H8 d (.dK (putK kv (.inl (p : Int)) (.ref q2))) = H9 at z9
            have kl9 : KL H H9 := fun b ys e => z9.but b _ (fun z => by rw [z, hd] at e; cases e) e
            refine ⟨_, rfl, _, rfl, o, _, x, _, rfl, rfl, SqL.of (kl9 _ _ ho), at_of (j := x.toNat) (by omega) hr2, r2, _, rfl, .inl (SqL.of (kl9 _ _ hr2H)), fun q3 hq3 => ?_⟩
            have m10 : Same H9 (upd H9 q3 (.lst ((ch os x).map V.int))) := Same.new hq3
            have z10 := z9.same m10
            have hq310 : (upd H9 q3 (.lst ((ch os x).map V.int))) q3 = some (.lst ((ch os x).map V.int)) := upd_same
            have nq3 : q3 ≠ tt := Ne.symm (ne_of_none z9.htt hq3)
            generalize upd H9 q3 (.lst ((ch os x).map V.int)) = H10 at m10 z10 hq310
            have hmvl : mv.length < sizeLine := by
              have h1 : mv.length = lw.more.length := z10.hM.len
              rw [h1]
              exact small1000 (by omega)
            refine ⟨_, rfl, _, rfl, mo, _, rfl, DPut.k (k := .inl x) z10.hmo hmvl, ?_⟩
            have e : stepL os as lw p = ⟨lw.turn ++ [((p : Int), x, true)], lw.cur.set p (some rest), lw.more ++ [(x, ch os x)]⟩ := by
              unfold stepL
              rw [if_neg ha, hgc]
              simp only
              rw [if_neg hx, Int.toNat_natCast]
            rw [e]
            exact ⟨_, _, _, _, _, rfl, z10.putM ndm hmoH xm hq310 nq3 (z9.but.free z9.hd hq3)⟩
    · rintro σ H5 ⟨x3, x4, cs, kv, mv, rfl, z5⟩
      rw [List.length_map, List.take_length] at z5
      obtain ⟨_, hturn, happ⟩ := next_law (as := as) g hW
      have j := Jn.at (as := as) g hW _ (Nat.le_refl _)
      rw [List.take_length] at j
      have hmk := j.more
      have hmn := j.mnd
      have hcl : ((idxs Option.isSome rows).foldl (stepL os as) ⟨[], rows, []⟩).cur.length = os.length := by
        have h1 := j.inv.len
        rw [j.app, appM_len] at h1
        exact h1
      generalize (idxs Option.isSome rows).foldl (stepL os as) ⟨[], rows, []⟩ = lw at z5 hturn happ hmk hmn hcl
      have mnd : (mv.map (·.1)).Nodup := by
        rw [z5.hM.keys]
        have e : (lw.more.map fun m => (.inl m.1 : Key)) = (lw.more.map (·.1)).map Sum.inl := by rw [List.map_map]; rfl
        rw [e]
        exact List.pairwise_map.mpr (hmn.imp fun hab q => hab (by injection q))
      refine ⟨mo, .dK mv, z5.hmo, trivial, fun od => ?_⟩
      have nmt : tt ≠ mo := ntm
      have kl6 : KL H5 (upd H5 mo (.frz od (.dK mv))) := KL.dK z5.hmo
      refine ⟨_, rfl, mo, od, rfl, .inl ⟨mv, upd_same, for_it (J := Itk mo od mv) mv.length
        (fun i σ H6 => ∃ (x4 : Option V) (kv' : List (Key × V)), σ = [some (.ref o), some (.ref d), some (.ref ab), x3, x4, some (.ref tt), some (.ref mo)] ∧ H6 mo = some (.frz od (.dK mv)) ∧ But d H H6 ∧ H6 tt = some (.lst (cs.map V.ref)) ∧ CL H6 cs lw.turn ∧ H6 d = some (.dK kv') ∧ DR H6 kv' (appM lw.cur (lw.more.take i)) ∧ MR H6 mv lw.more ∧ ∀ q ∈ kv', (∃ q0 ∈ kvs, q0.2 = q.2) ∨ ∃ r, q.2 = .ref r ∧ H r = none)
        ⟨_, kv, rfl, upd_same, fun b u n e => (by rw [upd_ne (ne_of_none e hmoH)]; exact z5.but b u n e), kl6 _ _ z5.htt, z5.hC.but (fun b ys e => ?_), (by rw [upd_ne ndm]; exact z5.hd), z5.hD.mono kl6, z5.hM.mono kl6, z5.ok⟩
        (fun i σ H6 hi ⟨_, _, _, q, _⟩ => ⟨q, hi⟩) (fun σ H6 ⟨_, _, _, q, _⟩ => ⟨q, Nat.le_refl _⟩) ?_ ?_⟩⟩
      · rw [upd_ne (fun q => by rw [q, z5.hmo] at e; cases e)]
        exact e
      · rintro i x σ H6 H6' hi ⟨x4', kv', rfl, hmo6, b6, htt6, hC6, hd6, hD6, hM6, hok6⟩ ⟨rfl, kk, vv, hkv, rfl⟩
        obtain ⟨m, hm⟩ : ∃ m, lw.more[i]? = some m := ⟨_, List.getElem?_eq_getElem (by rw [← hM6.len]; exact hi)⟩
        obtain ⟨ek, r, er, hr6⟩ := hM6.at' i _ m hkv hm
        obtain ⟨q0, q1, _⟩ := hmk m (List.mem_of_getElem? hm)
        have ek : kk = .inl m.1 := ek
        have er : vv = .ref r := er
        subst ek er
        have em : ((m.1.toNat : Nat) : Int) = m.1 := by omega
        have hval := val_at mnd hkv
        have hl' : (appM lw.cur (lw.more.take i)).length = os.length := by rw [appM_len, hcl]
        refine ⟨_, rfl, _, rfl, mo, _, rfl, (by rw [← hval]; exact .inl ⟨mv, .inl m.1, .inr ⟨od, hmo6⟩, rfl, rfl⟩), _, rfl, _, rfl, d, _, rfl, DPut.k (k := .inl m.1) hd6 (Nat.lt_of_le_of_lt hD6.len (small1000 (by omega))), ?_⟩
        have kl7 : KL H6' (upd H6' d (.dK (putK kv' (.inl m.1) (.ref r)))) := KL.dK hd6
        refine ⟨_, _, rfl, ?_, b6.trans But.upd, kl7 _ _ htt6, hC6.but (fun b ys e => ?_), upd_same, ?_, hM6.mono kl7, fun q hq => ?_⟩
        · rw [upd_ne (Ne.symm ndm)]
          exact hmo6
        · rw [upd_ne (fun q => by rw [q, hd6] at e; cases e)]
          exact e
        · rw [take_snoc hm, appM_snoc]
          have := (hD6.put (p := m.1.toNat) (by omega) hr6).mono kl7
          rw [em] at this
          exact this
        · rcases put_mem hq with h | h
          · exact hok6 q h
          · obtain ⟨r', e1, e2⟩ := z5.om _ (List.mem_of_getElem? hkv)
            exact .inr ⟨r', by rw [h]; exact e1, e2⟩
      · rintro σ H6 ⟨x4', kv', rfl, hmo6, b6, htt6, hC6, hd6, hD6, hM6, hok6⟩
        refine ⟨hmo6, _, rfl, ?_⟩
        rw [hM6.len, List.take_length, happ] at hD6
        rw [hturn] at hC6
        have kl7 : KL H6 (upd H6 mo (.dK mv)) := fun b ys e => by
          rw [upd_ne (fun q => by rw [q, hmo6] at e; cases e)]
          exact e
        refine k tt cs kv' _ (fun b u n e => ?_) htt (kl7 _ _ htt6) (hC6.but fun b ys e => ?_) ?_ (hD6.mono kl7) z5.ntc hok6
        · rw [upd_ne (ne_of_none e hmoH)]
          exact b6 b u n e
        · rw [upd_ne (fun q => by rw [q, hmo6] at e; cases e)]
          exact e
        · rw [upd_ne ndm]
          exact hd6
end
end Toy

set_option Elab.async false
set_option linter.all false
set_option maxRecDepth 100000
set_option maxHeartbeats 4000000
namespace Toy
open PySem L2
theorem eqv_self (ns : List Int) : PyData.eqv (.list (ns.map PyData.int)) (.list (ns.map PyData.int)) = true := by
  have key : ∀ ns : List Int, PyData.eqvAll (ns.map PyData.int) (ns.map PyData.int) = true := by
    intro ns
    induction ns with
    | nil => simp [PyData.eqvAll]
    | cons n r ih => simp [PyData.eqvAll, PyData.eqv, ih]
  simpa [PyData.eqv] using key ns
theorem eqv_none : PyData.eqv .none .none = true := by simp [PyData.eqv]
theorem kit_bool {K : PySem.W.Frag} {u : Value} (h : RelV (.ty "bool") u) : PySem.W.kitOne K (.type "bool") u = some true := by
  cases h
  kernel_rfl
section
variable {P : Program} {w : World} {K : PySem.W.Frag} {mg : Str → Option Value} {base : Heap} {A : Adr}
def spTold (C : Addr) : Sp := fun vs H Q _ => ∃ (x d : Addr) (kvs : List (Key × V)) (os : List (List Int)) (rows : Rws) (t : Int), vs = [.ref x, .ref d, .int os.length, .int t] ∧ Ph C H x os rows t ∧ GoodO os ∧ RowsIn os rows ∧ H d = some (.dK kvs) ∧ DR H kvs rows ∧ ∀ H', Same H H' → Q (.bl true) H'
theorem sc_law_told : FnScope ["_law_phones", "_law_rows", "_law_people", "_law_gone", "_law_again", "_law_found", "_law_person", "_law_row"] ["_law_phones", "_law_rows", "_law_people", "_law_gone"] (defScope s_law_told) := ⟨rfl, rfl, rfl, by decide +kernel, rfl, by decide +kernel, by decide +kernel⟩
theorem ok_law_told (T : Txt K mg A) : FnOk P w K mg base CX0 5 A.f_law_told A.d_law_told ["_law_phones", "_law_rows", "_law_people", "_law_gone"] (spTold A.C_Phones) := by
  have G_Phones_knowing := ok_Phones_knowing (P := P) (w := w) (base := base) T
  have G_Phones_gone := ok_Phones_gone (P := P) (w := w) (base := base) T
  have G_Phones_row := ok_Phones_row (P := P) (w := w) (base := base) T
  have G_Phones_is_done := ok_Phones_is_done (P := P) (w := w) (base := base) T
  refine T.f_law_told.ok sc_law_told (fun vs H Q E h => ?_) (fun cdv A' outer s H vs Q E hr h => ?_)
  · obtain ⟨x, d, kvs, os, rows, t, rfl, _⟩ := h
    rfl
  · obtain ⟨x, d, kvs, os, rows, t, rfl, ph, g, hin, hd, hDR, k⟩ := h
    have n40 := g.n40
    have hrl := hin.len
    refine ⟨_, (pss_cons (ps_for PassesOwn.never rfl (pi_range1 (by rfl) T.n_range (@pa_cons _ _ _ _ _ pe_int pa_nil (by rfl))) (pg_name (i := 4) sc_law_told.nd rfl (Or.inl rfl)) (pss_cons (ps_set (i := 5) sc_law_told.nd rfl (Or.inl rfl) (pe_meth0 (pv 0) T.cl_Phones T.mt_Phones_knowing G_Phones_knowing (hr.mono (by decide)) T.b_Phones_knowing .nil pass0))
      (pss_cons (ps_if (PW.pt (pw_or (pt_cmpR (op_neDK K hr.units) (pv 5) (pe_callB (cr_sortedK K) (by rfl) T.n_sorted (by decide +kernel) (@pa_cons _ _ _ _ _ (pe_callTy (call_listKK K rfl) (by rfl) T.n_list (by decide +kernel) (@pa_cons _ _ _ _ _ (pv 1) pa_nil (by rfl))) pa_nil (by rfl))) (nomark _)) (pw_or1 (pt_cmpR op_ne (pe_meth0 (pv 0) T.cl_Phones T.mt_Phones_gone G_Phones_gone (hr.mono (by decide)) T.b_Phones_gone .nil pass0) (pv 3) (nomark _))))) (pss_one (ps_ret pe_bl)) pss_nil)
      (pss_cons (ps_expr (pe_bmK K PySem.F.plainAttrs_list PySem.F.slot_list_append PySem.F.type_list_append mt_append (pv 5) (@pa_cons _ _ _ _ _ pe_int pa_nil (by rfl))))
      (pss_one (ps_for PassesOwn.never rfl (pi_range1 (by rfl) T.n_range (@pa_cons _ _ _ _ _ (pv 2) pa_nil (by rfl))) (pg_name (i := 6) sc_law_told.nd rfl (Or.inl rfl)) (pss_cons (ps_set (i := 7) sc_law_told.nd rfl (Or.inl rfl) (pe_meth (pv 0) T.cl_Phones T.mt_Phones_row G_Phones_row (hr.mono (by decide)) T.b_Phones_row .nil pass0 (@pa_cons _ _ _ _ _ (pv 6) pa_nil (by rfl))))
      (pss_cons (ps_if (pt_cmpR (op_neDK K hr.units) (pv 7) (pe_dget1 hr.unit1 (pv 1) (pv 6) ⟨by rfl, by rfl, by rfl, by rfl⟩) (nomark _)) (pss_one (ps_ret pe_bl)) pss_nil)
      (pss_one (ps_if (pt_cmpR op_notN (pv 7) pe_non (nomark _)) (pss_one (ps_expr (pe_bmK K PySem.F.plainAttrs_list PySem.F.slot_list_append PySem.F.type_list_append mt_append (pv 7) (@pa_cons _ _ _ _ _ pe_int pa_nil (by rfl))))) pss_nil))))))))))
      (pss_one (ps_ret (pe_and (pe_cmpR op_eq (pe_meth0 (pv 0) T.cl_Phones T.mt_Phones_is_done G_Phones_is_done (hr.mono (by decide)) T.b_Phones_is_done .nil pass0) (pe_callB (cr_allK K rfl) (by rfl) T.n_all (by decide +kernel) (@pa_cons _ _ _ _ _ (pe_lock (pe_lc (own := [("_law_person", 6)]) rfl sc_law_told.nd (pi_keys (pv 1)) (blkOk_by (own := [("_law_person", 6)]) (by kernel_rfl)) (fun _ _ _ _ _ => (pg_name (i := 6) sc_law_told.nd rfl (Or.inl rfl))) (fun _ _ _ _ _ => pts_nil) (fun _ _ _ _ _ => (pe_cmpR (op_eqDK K hr.units) (pe_dget hr.unit1 (pv 1) (pv 6) (fun _ _ => rfl)) (@pe_lst _ _ _ _ pa_nil) (nomark _))))) pa_nil (by rfl))) (nomark _)) (pe_one (pe_callB (cr_isiK K) (by rfl) T.n_isinstance (by decide +kernel) (@pa_cons _ _ _ _ _ (pe_meth0 (pv 0) T.cl_Phones T.mt_Phones_is_done G_Phones_is_done (hr.mono (by decide)) T.b_Phones_is_done .nil pass0) (@pa_cons _ _ _ _ _ (pe_bltn (v := .ty "bool") (by rfl) T.n_bool (by decide +kernel) rfl) pa_nil (by rfl)) (by rfl)))))))), ?_⟩
    refine ⟨2, rfl, by decide, by decide, ?_⟩
    refine for_range (lo := 0) (n := 2) (fun i σ H2 => ∃ x4 x5 x6 x7, σ = [some (.ref x), some (.ref d), some (.int os.length), some (.int t), x4, x5, x6, x7] ∧ Same H H2) ⟨none, none, none, none, rfl, Same.refl H⟩ ?_ ?_
    · rintro i σ H2 hi ⟨x4, x5, x6, x7, rfl, s2⟩
      have ph2 := ph.mono s2
      obtain ⟨dx, o, rr, xs, ys, p⟩ := ph
      have p2 := p.mono s2
      refine ⟨_, rfl, x, dx, _, rfl, p2.hx, fp_no3 o rr t, x, os, rows, t, rfl, ph2, by omega, fun fb H3 s3 hfb0 hfb => ?_⟩
      have s23 := s2.trans s3
      have p3 := p.mono s23
      refine ⟨_, rfl, _, rfl, d, kvs, rfl, s23 _ _ hd, Nat.lt_of_le_of_lt hDR.len (small1000 (by omega)), fun l1 hl1 => ?_⟩
      obtain ⟨ei, hpm⟩ := hDR.ints
      rw [ei]
      have m4 : Same H3 (upd H3 l1 (.lst ((kvs.map fun q => keyI q.1).map V.int))) := Same.new hl1
      have hkl : (kvs.map fun q => keyI q.1).length < 64 := by
        rw [List.length_map]
        have := hDR.len
        omega
      refine ⟨l1, _, rfl, SqL.of upd_same, hkl, fun ks sl hks hsrt hsl => ?_⟩
      have eks : ks = idxs Option.isSome rows := sorted_eq (hks.trans hpm) hsrt (idxs_asc _ _)
      subst eks
      have m5 : Same H3 (upd (upd H3 l1 (.lst ((kvs.map fun q => keyI q.1).map V.int))) sl (.lst ((idxs Option.isSome rows).map V.int))) := m4.upd (m4.free hsl)
      have hsl5 : (upd (upd H3 l1 (.lst ((kvs.map fun q => keyI q.1).map V.int))) sl (.lst ((idxs Option.isSome rows).map V.int))) sl = some (.lst ((idxs Option.isSome rows).map V.int)) := upd_same
      generalize upd (upd H3 l1 (.lst ((kvs.map fun q => keyI q.1).map V.int))) sl (.lst ((idxs Option.isSome rows).map V.int)) = H5 at m5 hsl5
      have s5 := s23.trans m5
      have p5 := p.mono s5
      have hfb5 := m5 _ _ hfb
      refine ⟨_, _, dp_ints (SqL.of hfb5), dp_ints (SqL.of hsl5), shaped_ints _, shaped_ints _, _, rfl, ?_⟩
      rw [eqv_self]
      refine iteF ⟨_, rfl, x, dx, _, rfl, p5.hx, fp_no2 o rr t, x, os, rows, t, rfl, ⟨dx, o, rr, xs, ys, p5⟩, _, rfl, rfl, _, rfl, ?_⟩
      rw [decide_eq_true rfl]
      refine iteF ⟨_, rfl, .inl ⟨rfl, _, SqL.of hfb5⟩, fb, _, _, rfl, rfl, hfb5, ?_, ?_⟩
      · rw [List.length_map]
        have := idxs_len Option.isSome rows
        exact small1000 (by omega)
      have s6 : Same H (upd H5 fb (.lst ((idxs Option.isSome rows).map V.int ++ [.int 0]))) := s5.upd (s2.free hfb0)
      generalize upd H5 fb (.lst ((idxs Option.isSome rows).map V.int ++ [.int 0])) = H6 at s6
      refine ⟨_, rfl, _, rfl, by omega, by omega, ?_⟩
      refine for_range (lo := 0) (n := ((os.length : Nat) : Int).toNat) (fun q σ H7 => ∃ x6 x7, σ = [some (.ref x), some (.ref d), some (.int os.length), some (.int t), some (.int (0 + (i : Int))), some (.ref fb), x6, x7] ∧ Same H H7) ⟨_, _, rfl, s6⟩ ?_ ?_
      · rintro q σ H7 hq ⟨x6, x7, rfl, s7⟩
        have hq : q < os.length := by omega
        have p7 := p.mono s7
        have eq : ((0 : Int) + (q : Int)).toNat = q := by omega
        refine ⟨_, rfl, x, dx, _, rfl, p7.hx, fp_no4 o rr t, _, rfl, x, os, rows, t, _, rfl, ⟨dx, o, rr, xs, ys, p7⟩, hin, by omega, by omega, fun hn => ?_, fun l hl b H8 s8 hb0 hb => ?_⟩
        · rw [eq] at hn
          have hv := hDR.no q hn
          refine ⟨_, rfl, _, rfl, d, rfl, .inl ⟨kvs, .inl (s7 _ _ hd)⟩, _, rfl, none, (by rw [← hv]; exact .inl ⟨kvs, .inl (q : Int), .inl (s7 _ _ hd), by show V.int (0 + (q : Int)) = V.int q; rw [Int.zero_add], rfl⟩), .none, .none, .non, .non, rfl, rfl, _, rfl, ?_⟩
          rw [eqv_none]
          refine iteF ⟨_, rfl, rfl, _, rfl, ?_⟩
          rw [decide_eq_true rfl]
          exact iteF ⟨_, _, rfl, s7⟩
        · rw [eq] at hl
          obtain ⟨r, hv, hr⟩ := hDR.yes q l hl
          have s78 := s7.trans s8
          refine ⟨_, rfl, _, rfl, d, rfl, .inl ⟨kvs, .inl (s78 _ _ hd)⟩, _, rfl, some (.ref r), (by rw [← hv]; exact .inl ⟨kvs, .inl (q : Int), .inl (s78 _ _ hd), by show V.int (0 + (q : Int)) = V.int q; rw [Int.zero_add], rfl⟩), _, _, dp_ints (SqL.of hb), dp_ints (SqL.of (s78 _ _ hr)), shaped_ints l, shaped_ints l, _, rfl, ?_⟩
          rw [eqv_self]
          refine iteF ⟨_, rfl, rfl, _, rfl, ?_⟩
          rw [decide_eq_false (by simp)]
          refine iteT ⟨_, rfl, .inl ⟨rfl, _, SqL.of hb⟩, b, _, _, rfl, rfl, hb, ?_, _, _, rfl, s78.upd (s7.free hb0)⟩
          rw [List.length_map]
          have := (hin.row q l hl).1
          exact small1000 (by omega)
      · rintro σ H7 ⟨x6, x7, rfl, s7⟩
        exact ⟨_, _, _, _, rfl, s7⟩
    · rintro σ H2 ⟨x4, x5, x6, x7, rfl, s2⟩
      have ph2 := ph.mono s2
      obtain ⟨dx, o, rr, xs, ys, p⟩ := ph
      have p2 := p.mono s2
      refine ⟨_, rfl, x, dx, _, rfl, p2.hx, fp_no5 o rr t, x, os, rows, t, rfl, ph2, by omega, fun H3 s3 => ?_⟩
      have s23 := s2.trans s3
      have hd3 := s23 _ _ hd
      have hD3 := hDR.mono (KL.of s23)
      refine ⟨d, .dK kvs, hd3, trivial, fun od => ?_⟩
      have kl4 : KL H3 (upd H3 d (.frz od (.dK kvs))) := KL.dK hd3
      have hd4 : (upd H3 d (.frz od (.dK kvs))) d = some (.frz od (.dK kvs)) := upd_same
      have b4 : But d H3 (upd H3 d (.frz od (.dK kvs))) := But.upd
      generalize upd H3 d (.frz od (.dK kvs)) = H4 at kl4 hd4 b4
      have hkl := hDR.len
      refine ⟨_, rfl, d, od, rfl, .inl ⟨kvs, hd4, fun D hD => ?_⟩⟩
      refine lc_it (J := Itk d od kvs) kvs.length (fun i H5 => Same H4 H5 ∧ ∃ bs : List Bool, bs.length = i ∧ H5 D = some (.lst (bs.map V.bl)) ∧ ∀ (j : Nat) (b : Bool) (q : Key × V), bs[j]? = some b → kvs[j]? = some q → ∃ (p : Nat) (l : List Int), q.1 = .inl (p : Int) ∧ rows[p]? = some (some l) ∧ b = decide (l = []))
        ⟨Same.new hD, [], rfl, upd_same, fun j b q h _ => by simp at h⟩ (fun i H5 hi ⟨s5, _⟩ => ⟨s5 _ _ hd4, hi⟩) (fun H5 ⟨s5, _⟩ => ⟨s5 _ _ hd4, Nat.le_refl _⟩) ?_ ?_
      · rintro i y H5 H5' hi ⟨s5, bs, hbl, hD5, hbs⟩ ⟨rfl, kk, vv, hkv, rfl⟩
        obtain ⟨pp, ek, hpl⟩ := hDR.key kk (List.mem_map.mpr ⟨_, List.mem_of_getElem? hkv, rfl⟩)
        subst ek
        have hval := val_at hDR.nd hkv
        obtain ⟨l, hl⟩ : ∃ l, rows[pp]? = some (some l) := by
          cases hc : rows[pp] with
          | none =>
            have := hDR.no pp (by rw [List.getElem?_eq_getElem hpl, hc])
            rw [this] at hval
            cases hval
          | some l => exact ⟨l, by rw [List.getElem?_eq_getElem hpl, hc]⟩
        obtain ⟨r, hv, hr⟩ := hD3.yes pp l hl
        have hr5 := s5 _ _ (kl4 _ _ hr)
        refine ⟨rfl, yesT ?_⟩
        refine ⟨_, rfl, _, rfl, d, _, rfl, (by rw [← hv]; exact .inl ⟨kvs, .inl (pp : Int), .inr ⟨od, s5 _ _ hd4⟩, rfl, rfl⟩), Nat.zero_le _, fun e he => ?_⟩
        have m6 : Same H5' (upd H5' e (.lst [])) := Same.new he
        refine ⟨.list (l.map PyData.int), .list [], dp_ints (SqL.of (m6 _ _ hr5)), .lst (SqL.of upd_same) .nil, shaped_ints l, shaped_ints [], bs.map V.bl, m6 _ _ hD5, ?_, (s5.trans m6).upd hD, bs ++ [decide (l = [])], ?_, ?_, fun j b q hj hq => ?_⟩
        · rw [List.length_map]
          exact small1000 (by omega)
        · rw [List.length_append, hbl]
          rfl
        · rw [upd_same, eqv_nil, List.map_append]
          rfl
        · by_cases hji : j < bs.length
          · rw [List.getElem?_append_left hji] at hj
            exact hbs j b q hj hq
          · have hjl := (List.getElem?_eq_some_iff.mp hj).1
            rw [List.length_append] at hjl
            have ej : j = i := by
              simp at hjl
              omega
            subst ej
            rw [hkv] at hq
            cases hq
            rw [List.getElem?_append_right (by omega), hbl, Nat.sub_self] at hj
            have eb : decide (l = []) = b := by simpa using hj
            exact ⟨pp, l, rfl, hl, eb.symm⟩
      · rintro H5 ⟨s5, bs, hbl, hD5, hbs⟩
        have s6 : Same H3 (upd H5 d (.dK kvs)) := fun b u e => by
          by_cases hb : b = d
          · rw [hb] at e ⊢
            rw [hd3] at e
            cases e
            exact upd_same
          · rw [upd_ne hb]
            exact s5 _ _ (b4 b u hb e)
        have hDd : D ≠ d := fun z => by
          have := s5 _ _ hd4
          rw [← z, hD5] at this
          cases this
        have p6 := p.mono (s23.trans s6)
        refine ⟨s5 _ _ hd4, D, bs, rfl, SqL.of (by rw [upd_ne hDd]; exact hD5), rfl, ?_⟩
        have key : (idxs hasC rows).isEmpty = bs.all id := by
          rw [Bool.eq_iff_iff, List.isEmpty_iff, List.all_eq_true]
          constructor
          · intro h b hb
            obtain ⟨j, hj⟩ := List.getElem?_of_mem hb
            have hjl := (List.getElem?_eq_some_iff.mp hj).1
            obtain ⟨pp, l, _, hl, rfl⟩ := hbs j b _ hj (List.getElem?_eq_getElem (by omega))
            cases l with
            | nil => rfl
            | cons y l =>
              have : (pp : Int) ∈ idxs hasC rows := idxs_mem.mpr ⟨pp, _, rfl, hl, rfl⟩
              rw [h] at this
              cases this
          · intro h
            refine List.eq_nil_iff_forall_not_mem.mpr fun y hy => ?_
            obtain ⟨pp, row, rfl, hrow, hh⟩ := idxs_mem.mp hy
            cases row with
            | none => cases hh
            | some l =>
              obtain ⟨r, hv, _⟩ := hDR.yes pp l hrow
              obtain ⟨q, hq, eq⟩ := List.mem_map.mp (valV_in hv)
              obtain ⟨j, hj⟩ := List.getElem?_of_mem hq
              have hjl := (List.getElem?_eq_some_iff.mp hj).1
              obtain ⟨b, hb⟩ : ∃ b, bs[j]? = some b := ⟨_, List.getElem?_eq_getElem (by omega)⟩
              obtain ⟨p2, l2, e2, hl2, rfl⟩ := hbs j b q hb hj
              rw [eq] at e2
              have ep : pp = p2 := by
                injection e2 with e2
                omega
              subst ep
              rw [hrow] at hl2
              cases hl2
              have := h _ (List.mem_of_getElem? hb)
              have hn : l = [] := of_decide_eq_true this
              subst hn
              cases hh
        rw [key, decide_eq_true rfl]
        refine ⟨_, rfl, iteT ?_⟩
        exact ⟨_, rfl, x, dx, _, rfl, p6.hx, fp_no5 o rr t, x, os, rows, t, rfl, ⟨dx, o, rr, xs, ys, p6⟩, by omega, fun H7 s7 => ⟨.bl _, .ty "bool", _, true, rfl, .bl _, (fun u hu => kit_bool hu), k _ ((s23.trans s6).trans s7)⟩⟩
end
end Toy

set_option Elab.async false
set_option linter.all false
set_option maxRecDepth 100000
set_option maxHeartbeats 4000000
namespace Toy
open PySem L2
def KT (K : PySem.W.Frag) (H H' : Hp) : Prop := (∀ a xs, SqL K H a xs → SqL K H' a xs) ∧ ∀ a xs, SqT K H a xs → SqT K H' a xs
theorem KT.of {K : PySem.W.Frag} {H H' : Hp} (s : Same H H') : KT K H H' := ⟨fun a xs h => s.seq h, fun a xs h => by
  rcases h with (h | ⟨o, h⟩) | h
  · exact .inl (.inl (s _ _ h))
  · exact .inl (.inr ⟨o, s _ _ h⟩)
  · exact .inr h⟩
theorem KT.but {K : PySem.W.Frag} {H H' : Hp} {x C dx : Addr} {fs : List (Str × V)} (hx : H x = some (.ins C dx fs)) (b : But x H H') : KT K H H' := by
  refine ⟨fun a xs h => ?_, fun a xs h => ?_⟩
  · rcases h with (h | ⟨o, h⟩) | h
    · exact .inl (.inl (b _ _ (fun z => by rw [z, hx] at h; cases h) h))
    · exact .inl (.inr ⟨o, b _ _ (fun z => by rw [z, hx] at h; cases h) h⟩)
    · exact .inr h
  · rcases h with (h | ⟨o, h⟩) | h
    · exact .inl (.inl (b _ _ (fun z => by rw [z, hx] at h; cases h) h))
    · exact .inl (.inr ⟨o, b _ _ (fun z => by rw [z, hx] at h; cases h) h⟩)
    · exact .inr h
mutual
theorem Dp.kt {K : PySem.W.Frag} {H H' : Hp} (k : KT K H H') : ∀ {v : V} {d : PyData}, Dp K H v d → Dp K H' v d
  | _, _, .non => .non
  | _, _, .bl b => .bl b
  | _, _, .int i => .int i
  | _, _, .str x => .str x
  | _, _, .lst h r => .lst (k.1 _ _ h) (DpAll.kt k r)
  | _, _, .tup h r => .tup (k.2 _ _ h) (DpAll.kt k r)
theorem DpAll.kt {K : PySem.W.Frag} {H H' : Hp} (k : KT K H H') : ∀ {vs : List V} {ds : List PyData}, DpAll K H vs ds → DpAll K H' vs ds
  | _, _, .nil => .nil
  | _, _, .cons h r => .cons (Dp.kt k h) (DpAll.kt k r)
end
def callD (c : Int × Int × Bool) : PyData := .tuple [.int c.1, .int c.2.1, .bool c.2.2]
theorem dpAll_calls {K : PySem.W.Frag} {H : Hp} : ∀ {cs : List Addr} {calls : List (Int × Int × Bool)}, CL H cs calls → DpAll K H (cs.map V.ref) (calls.map callD)
  | [], [], _ => .nil
  | [], _ :: _, h => absurd h.len (by simp)
  | _ :: _, [], h => absurd h.len (by simp)
  | t :: cs, c :: calls, h => .cons (.tup (SqT.of (h.at' 0 t c rfl rfl)) (.cons (.int _) (.cons (.int _) (.cons (.bl _) .nil)))) (dpAll_calls ⟨by have := h.len; simpa using this, fun p t c hp hc => h.at' (p + 1) t c hp hc⟩)
theorem dp_calls {K : PySem.W.Frag} {H : Hp} {a : Addr} {cs : List Addr} {calls : List (Int × Int × Bool)} (ha : H a = some (.lst (cs.map V.ref))) (h : CL H cs calls) : Dp K H (.ref a) (.list (calls.map callD)) := .lst (SqL.of ha) (dpAll_calls h)
theorem can_calls : ∀ cs : List (Int × Int × Bool), PyData.canLayAll0 (cs.map callD) = true
  | [] => by simp [PyData.canLayAll0]
  | n :: r => by
    have ih := can_calls r
    simp [PyData.canLayAll0, PyData.canLay0, callD, ih]
theorem dep_calls : ∀ cs : List (Int × Int × Bool), PyData.depthAll (cs.map callD) ≤ 5
  | [] => by simp [PyData.depthAll]
  | n :: r => by
    have ih := dep_calls r
    simp only [List.map_cons, PyData.depthAll, PyData.depth, callD] at ih ⊢
    omega
theorem shaped_calls (cs : List (Int × Int × Bool)) : SeqAt.shaped (.list (cs.map callD)) = true := by
  unfold SeqAt.shaped
  rw [Bool.and_eq_true]
  refine ⟨?_, decide_eq_true ?_⟩
  · simpa only [PyData.canLay0] using can_calls cs
  · have := dep_calls cs
    simp only [PyData.depth]
    omega
theorem eqv_calls (cs : List (Int × Int × Bool)) : PyData.eqv (.list (cs.map callD)) (.list (cs.map callD)) = true := by
  have key : ∀ cs : List (Int × Int × Bool), PyData.eqvAll (cs.map callD) (cs.map callD) = true := by
    intro cs
    induction cs with
    | nil => simp [PyData.eqvAll]
    | cons n r ih => simpa [PyData.eqvAll, PyData.eqv, callD] using ih
  simpa [PyData.eqv] using key cs
theorem dpAll_rows {K : PySem.W.Frag} {H : Hp} : ∀ {vs : List V} {os : List (List Int)}, OL H vs os → DpAll K H vs (os.map fun l => .list (l.map PyData.int))
  | [], [], _ => .nil
  | [], _ :: _, h => absurd h.len (by simp)
  | _ :: _, [], h => absurd h.len (by simp)
  | v :: vs, l :: os, h => by
    obtain ⟨r, e, q⟩ := h.at' 0 v (some l) rfl rfl
    subst e
    exact .cons (dp_ints (SqL.of q)) (dpAll_rows ⟨by have := h.len; simpa using this, fun p v row hp hc => h.at' (p + 1) v row hp hc⟩)
theorem dp_rows {K : PySem.W.Frag} {H : Hp} {a : Addr} {vs : List V} {os : List (List Int)} (ha : H a = some (.lst vs)) (h : OL H vs os) : Dp K H (.ref a) (.list (os.map fun l => .list (l.map PyData.int))) := .lst (SqL.of ha) (dpAll_rows h)
theorem Ph.but {C : Addr} {H H' : Hp} {x y : Addr} {os os' : List (List Int)} {rows rows' : Rws} {t t' : Int} (h : Ph C H y os rows t) (hx : Ph C H x os' rows' t') (b : But x H H') (n : y ≠ x) : Ph C H' y os rows t := by
  obtain ⟨dx, o, rr, xs, ys, p⟩ := h
  obtain ⟨_, _, _, _, _, q⟩ := hx
  have kl := KL.but q.hx b
  exact ⟨dx, o, rr, xs, ys, b _ _ n p.hx, kl _ _ p.ho, p.hO.kl kl, kl _ _ p.hr, p.hR.kl kl⟩
theorem Ph.kt {K : PySem.W.Frag} {C : Addr} {H H' : Hp} {x : Addr} {os : List (List Int)} {rows : Rws} {t : Int} (h : Ph C H x os rows t) (b : But x H H') : KT K H H' := by
  obtain ⟨_, _, _, _, _, q⟩ := h
  exact KT.but q.hx b
theorem upd_id {H : Hp} {a : Addr} {o : HO} (h : H a = some o) : L2.upd H a o = H := by
  funext b
  by_cases e : b = a
  · rw [e, upd_same, h]
  · rw [upd_ne e]
theorem mk_same {C x dx : Addr} {H : Hp} (hx : H x = none) (hdx : H dx = none) : Same H (L2.upd (L2.upd H dx (.own x)) x (.ins C dx [])) := (Same.new hdx).upd hx
theorem mk_keep {x : Addr} {H G H' : Hp} (s : Same H G) (hx : H x = none) (b : But x G H') : Same H H' := fun c u e => b c u (ne_of_none e hx) (s c u e)
def os4 : List (List Int) := [[1, 2], [3], [], []]
theorem good4 : GoodO os4 := by
  refine ⟨by decide, by decide, by decide, by decide, fun S h0 hS x x0 x1 => ?_⟩
  have s1 : S 1 := hS 0 [1, 2] rfl h0 1 (by decide)
  have s2 : S 2 := hS 0 [1, 2] rfl h0 2 (by decide)
  have s3 : S 3 := hS 1 [3] rfl s1 3 (by decide)
  have c : x = 0 ∨ x = 1 ∨ x = 2 ∨ x = 3 := by
    have : (os4.length : Int) = 4 := rfl
    omega
  rcases c with rfl | rfl | rfl | rfl
  · exact h0
  · exact s1
  · exact s2
  · exact s3
def r40 : Rws := [some [1, 2], none, none, none]
def r41 : Rws := [some [2], some [3], none, none]
def r42 : Rws := [some [], some [3], none, none]
def r43 : Rws := [some [], some [], none, some []]
def r44 : Rws := [some [], some [], some [], none]
theorem f4 : firstM os4 = r40 := by decide
theorem n41 : nextM os4 r40 [2] = ([(0, 1, true)], r41) := by decide
theorem n42 : nextM os4 r41 [1, 2] = ([(0, 2, false)], r42) := by decide
theorem n43 : nextM os4 r42 [] = ([(1, 3, true)], r43) := by decide
theorem m41 : nextM os4 r40 [] = ([(0, 1, true)], r41) := by decide
theorem m42 : nextM os4 r41 [3] = ([(0, 2, true), (1, 3, false)], r44) := by decide
theorem w40 : WInv os4 r40 := by
  have := WInv.first good4
  rwa [f4] at this
theorem w41 : WInv os4 r41 := by
  have := (next_law (as := [2]) good4 w40).1
  rwa [n41] at this
theorem w42 : WInv os4 r42 := by
  have := (next_law (as := [1, 2]) good4 w41).1
  rwa [n42] at this
theorem w43 : WInv os4 r43 := by
  have := (next_law (as := []) good4 w42).1
  rwa [n43] at this
end Toy

set_option Elab.async false
set_option linter.all false
set_option maxRecDepth 100000
set_option maxHeartbeats 4000000
namespace Toy
open PySem L2
section
variable {P : Program} {w : World} {K : PySem.W.Frag} {mg : Str → Option Value} {base : Heap} {A : Adr}
def spTwo : Sp := fun vs H Q _ => vs = [] ∧ ∀ H', Q (.bl true) H'
theorem sc_law_two_right : FnScope ["_law_orders_here", "_law_shown", "_law_phones", "_law_other"] [] (defScope s_law_two_right) := ⟨rfl, rfl, rfl, by decide +kernel, rfl, by decide +kernel, by decide +kernel⟩
theorem ok_law_two_right (T : Txt K mg A) : FnOk P w K mg base CX0 8 A.f_law_two_right A.d_law_two_right [] spTwo := by
  have G_Phones_init := ok_Phones_init (P := P) (w := w) (base := base) T
  have G_Phones_pass_round := ok_Phones_pass_round (P := P) (w := w) (base := base) T
  have G_Phones_knowing := ok_Phones_knowing (P := P) (w := w) (base := base) T
  have G_Phones_gone := ok_Phones_gone (P := P) (w := w) (base := base) T
  have G_Phones_row := ok_Phones_row (P := P) (w := w) (base := base) T
  have G_Phones_is_done := ok_Phones_is_done (P := P) (w := w) (base := base) T
  refine T.f_law_two_right.ok sc_law_two_right (fun vs H Q E h => ?_) (fun cdv A' outer s H vs Q E hr h => ?_)
  · obtain ⟨rfl, _⟩ := h
    rfl
  · obtain ⟨rfl, k⟩ := h
    refine ⟨_, (pss_cons (ps_set (i := 0) sc_law_two_right.nd rfl (Or.inl rfl) (@pe_lst _ _ _ _ (@pa_cons _ _ _ _ _ (@pe_lst _ _ _ _ (@pa_cons _ _ _ _ _ pe_int (@pa_cons _ _ _ _ _ pe_int pa_nil (by rfl)) (by rfl))) (@pa_cons _ _ _ _ _ (@pe_lst _ _ _ _ (@pa_cons _ _ _ _ _ pe_int pa_nil (by rfl))) (@pa_cons _ _ _ _ _ (@pe_lst _ _ _ _ pa_nil) (@pa_cons _ _ _ _ _ (@pe_lst _ _ _ _ pa_nil) pa_nil (by rfl)) (by rfl)) (by rfl)) (by rfl))))
      (pss_cons (ps_par (i := 2) (j := 3) (by rfl) sc_law_two_right.nd rfl rfl (by decide) rfl rfl (@pa_cons _ _ _ _ _ (pe_make T.k_Phones G_Phones_init (hr.mono (by decide)) (by rfl) T.c_Phones T.b_Phones_init .nil pass0 (@pa_cons _ _ _ _ _ (pv 0) pa_nil (by rfl))) (@pa_cons _ _ _ _ _ (pe_make T.k_Phones G_Phones_init (hr.mono (by decide)) (by rfl) T.c_Phones T.b_Phones_init .nil pass0 (@pa_cons _ _ _ _ _ (pv 0) pa_nil (by rfl))) pa_nil (by rfl)) (by rfl)) (by rfl))
      (pss_cons (ps_set (i := 1) sc_law_two_right.nd rfl (Or.inl rfl) (@pe_lst _ _ _ _ (@pa_cons _ _ _ _ _ (pe_meth (pv 2) T.cl_Phones T.mt_Phones_pass_round G_Phones_pass_round (hr.mono (by decide)) T.b_Phones_pass_round .nil pass0 (@pa_cons _ _ _ _ _ (@pe_lst _ _ _ _ (@pa_cons _ _ _ _ _ pe_int pa_nil (by rfl))) pa_nil (by rfl))) (@pa_cons _ _ _ _ _ (pe_meth (pv 2) T.cl_Phones T.mt_Phones_pass_round G_Phones_pass_round (hr.mono (by decide)) T.b_Phones_pass_round .nil pass0 (@pa_cons _ _ _ _ _ (@pe_lst _ _ _ _ (@pa_cons _ _ _ _ _ pe_int (@pa_cons _ _ _ _ _ pe_int pa_nil (by rfl)) (by rfl))) pa_nil (by rfl))) (@pa_cons _ _ _ _ _ (pe_meth0 (pv 2) T.cl_Phones T.mt_Phones_is_done G_Phones_is_done (hr.mono (by decide)) T.b_Phones_is_done .nil pass0) (@pa_cons _ _ _ _ _ (pe_meth (pv 2) T.cl_Phones T.mt_Phones_row G_Phones_row (hr.mono (by decide)) T.b_Phones_row .nil pass0 (@pa_cons _ _ _ _ _ pe_int pa_nil (by rfl))) (@pa_cons _ _ _ _ _ (pe_meth (pv 2) T.cl_Phones T.mt_Phones_pass_round G_Phones_pass_round (hr.mono (by decide)) T.b_Phones_pass_round .nil pass0 (@pa_cons _ _ _ _ _ (@pe_lst _ _ _ _ pa_nil) pa_nil (by rfl))) pa_nil (by rfl)) (by rfl)) (by rfl)) (by rfl)) (by rfl))))
      (pss_cons (ps_if (pt_cmpR (op_neDK K hr.units) (pv 1) (@pe_lst _ _ _ _ (@pa_cons _ _ _ _ _ (@pe_lst _ _ _ _ (@pa_cons _ _ _ _ _ (@pe_tup _ _ _ _ _ (@pa_cons _ _ _ _ _ pe_int (@pa_cons _ _ _ _ _ pe_int (@pa_cons _ _ _ _ _ pe_bl pa_nil (by rfl)) (by rfl)) (by rfl))) pa_nil (by rfl))) (@pa_cons _ _ _ _ _ (@pe_lst _ _ _ _ (@pa_cons _ _ _ _ _ (@pe_tup _ _ _ _ _ (@pa_cons _ _ _ _ _ pe_int (@pa_cons _ _ _ _ _ pe_int (@pa_cons _ _ _ _ _ pe_bl pa_nil (by rfl)) (by rfl)) (by rfl))) pa_nil (by rfl))) (@pa_cons _ _ _ _ _ pe_bl (@pa_cons _ _ _ _ _ (@pe_lst _ _ _ _ (@pa_cons _ _ _ _ _ pe_int pa_nil (by rfl))) (@pa_cons _ _ _ _ _ (@pe_lst _ _ _ _ (@pa_cons _ _ _ _ _ (@pe_tup _ _ _ _ _ (@pa_cons _ _ _ _ _ pe_int (@pa_cons _ _ _ _ _ pe_int (@pa_cons _ _ _ _ _ pe_bl pa_nil (by rfl)) (by rfl)) (by rfl))) pa_nil (by rfl))) pa_nil (by rfl)) (by rfl)) (by rfl)) (by rfl)) (by rfl))) (nomark _)) (pss_one (ps_ret pe_bl)) pss_nil)
      (pss_cons (ps_if (PW.pt (pw_or (pt_cmpR op_ne (pe_meth0 (pv 3) T.cl_Phones T.mt_Phones_gone G_Phones_gone (hr.mono (by decide)) T.b_Phones_gone .nil pass0) pe_int (nomark _)) (pw_or (pt_cmpR (op_neDK K hr.units) (pe_meth0 (pv 3) T.cl_Phones T.mt_Phones_knowing G_Phones_knowing (hr.mono (by decide)) T.b_Phones_knowing .nil pass0) (@pe_lst _ _ _ _ (@pa_cons _ _ _ _ _ pe_int pa_nil (by rfl))) (nomark _)) (pw_or (pt_cmpR (op_neDK K hr.units) (pe_meth (pv 3) T.cl_Phones T.mt_Phones_row G_Phones_row (hr.mono (by decide)) T.b_Phones_row .nil pass0 (@pa_cons _ _ _ _ _ pe_int pa_nil (by rfl))) (@pe_lst _ _ _ _ (@pa_cons _ _ _ _ _ pe_int (@pa_cons _ _ _ _ _ pe_int pa_nil (by rfl)) (by rfl))) (nomark _)) (pw_or1 (pt_cmpR (op_neDK K hr.units) (pv 0) (@pe_lst _ _ _ _ (@pa_cons _ _ _ _ _ (@pe_lst _ _ _ _ (@pa_cons _ _ _ _ _ pe_int (@pa_cons _ _ _ _ _ pe_int pa_nil (by rfl)) (by rfl))) (@pa_cons _ _ _ _ _ (@pe_lst _ _ _ _ (@pa_cons _ _ _ _ _ pe_int pa_nil (by rfl))) (@pa_cons _ _ _ _ _ (@pe_lst _ _ _ _ pa_nil) (@pa_cons _ _ _ _ _ (@pe_lst _ _ _ _ pa_nil) pa_nil (by rfl)) (by rfl)) (by rfl)) (by rfl))) (nomark _))))))) (pss_one (ps_ret pe_bl)) pss_nil)
      (pss_cons (ps_if (PW.pt (pw_or (pt_cmpR (op_neDK K hr.units) (pe_meth (pv 3) T.cl_Phones T.mt_Phones_pass_round G_Phones_pass_round (hr.mono (by decide)) T.b_Phones_pass_round .nil pass0 (@pa_cons _ _ _ _ _ (@pe_lst _ _ _ _ pa_nil) pa_nil (by rfl))) (@pe_lst _ _ _ _ (@pa_cons _ _ _ _ _ (@pe_tup _ _ _ _ _ (@pa_cons _ _ _ _ _ pe_int (@pa_cons _ _ _ _ _ pe_int (@pa_cons _ _ _ _ _ pe_bl pa_nil (by rfl)) (by rfl)) (by rfl))) pa_nil (by rfl))) (nomark _)) (pw_or1 (pt_cmpR (op_neDK K hr.units) (pe_meth (pv 3) T.cl_Phones T.mt_Phones_pass_round G_Phones_pass_round (hr.mono (by decide)) T.b_Phones_pass_round .nil pass0 (@pa_cons _ _ _ _ _ (@pe_lst _ _ _ _ (@pa_cons _ _ _ _ _ pe_int pa_nil (by rfl))) pa_nil (by rfl))) (@pe_lst _ _ _ _ (@pa_cons _ _ _ _ _ (@pe_tup _ _ _ _ _ (@pa_cons _ _ _ _ _ pe_int (@pa_cons _ _ _ _ _ pe_int (@pa_cons _ _ _ _ _ pe_bl pa_nil (by rfl)) (by rfl)) (by rfl))) (@pa_cons _ _ _ _ _ (@pe_tup _ _ _ _ _ (@pa_cons _ _ _ _ _ pe_int (@pa_cons _ _ _ _ _ pe_int (@pa_cons _ _ _ _ _ pe_bl pa_nil (by rfl)) (by rfl)) (by rfl))) pa_nil (by rfl)) (by rfl))) (nomark _))))) (pss_one (ps_ret pe_bl)) pss_nil)
      (pss_one (ps_ret (pe_and (pe_cmpR op_isB (pe_meth0 (pv 2) T.cl_Phones T.mt_Phones_is_done G_Phones_is_done (hr.mono (by decide)) T.b_Phones_is_done .nil pass0) pe_bl (nomark _)) (pe_and (pe_cmpR op_isN (pe_meth (pv 2) T.cl_Phones T.mt_Phones_row G_Phones_row (hr.mono (by decide)) T.b_Phones_row .nil pass0 (@pa_cons _ _ _ _ _ pe_int pa_nil (by rfl))) pe_non (nomark _)) (pe_and (pe_cmpR (op_eqDK K hr.units) (pe_meth0 (pv 2) T.cl_Phones T.mt_Phones_knowing G_Phones_knowing (hr.mono (by decide)) T.b_Phones_knowing .nil pass0) (@pe_lst _ _ _ _ (@pa_cons _ _ _ _ _ pe_int (@pa_cons _ _ _ _ _ pe_int (@pa_cons _ _ _ _ _ pe_int pa_nil (by rfl)) (by rfl)) (by rfl))) (nomark _)) (pe_one (pe_cmpR op_eq (pe_meth0 (pv 2) T.cl_Phones T.mt_Phones_gone G_Phones_gone (hr.mono (by decide)) T.b_Phones_gone .nil pass0) pe_int (nomark _)))))))))))))), ?_⟩
    refine ⟨(by show 2 ≤ sizeLine; decide), fun l0 h0 => ⟨(by show 1 ≤ sizeLine; decide), fun l1 h1 => ⟨Nat.zero_le _, fun l2 h2 => ⟨Nat.zero_le _, fun l3 h3 => ⟨(by show 4 ≤ sizeLine; decide), fun o ho => ?_⟩⟩⟩⟩⟩
    obtain ⟨H1, eH, hO1, hOL1⟩ : ∃ H1, upd (upd (upd (upd (upd H l0 (.lst [.int 1, .int 2])) l1 (.lst [.int 3])) l2 (.lst [])) l3 (.lst [])) o (.lst [.ref l0, .ref l1, .ref l2, .ref l3]) = H1 ∧ H1 o = some (.lst [.ref l0, .ref l1, .ref l2, .ref l3]) ∧ OL H1 [.ref l0, .ref l1, .ref l2, .ref l3] os4 := by
      refine ⟨_, rfl, upd_same, ?_⟩
      have a0 : (upd H l0 (.lst [.int 1, .int 2])) l0 = some (.lst [.int 1, .int 2]) := upd_same
      generalize upd H l0 (.lst [.int 1, .int 2]) = G0 at h1 h2 h3 ho a0 ⊢
      have s1 : Same G0 (upd G0 l1 (.lst [.int 3])) := Same.new h1
      have a1 : (upd G0 l1 (.lst [.int 3])) l1 = some (.lst [.int 3]) := upd_same
      generalize upd G0 l1 (.lst [.int 3]) = G1 at h2 h3 ho s1 a1 ⊢
      have s2 : Same G1 (upd G1 l2 (.lst [])) := Same.new h2
      have a2 : (upd G1 l2 (.lst [])) l2 = some (.lst []) := upd_same
      generalize upd G1 l2 (.lst []) = G2 at h3 ho s2 a2 ⊢
      have s3 : Same G2 (upd G2 l3 (.lst [])) := Same.new h3
      have a3 : (upd G2 l3 (.lst [])) l3 = some (.lst []) := upd_same
      generalize upd G2 l3 (.lst []) = G3 at ho s3 a3 ⊢
      have s4 : Same G3 (upd G3 o (.lst [.ref l0, .ref l1, .ref l2, .ref l3])) := Same.new ho
      generalize upd G3 o (.lst [.ref l0, .ref l1, .ref l2, .ref l3]) = G4 at s4 ⊢
      exact RL.cons (RL.cons (RL.cons (RL.cons RL.nil ⟨l3, rfl, s4 _ _ a3⟩) ⟨l2, rfl, s4 _ _ (s3 _ _ a2)⟩) ⟨l1, rfl, s4 _ _ (s3 _ _ (s2 _ _ a1))⟩) ⟨l0, rfl, s4 _ _ (s3 _ _ (s2 _ _ (s1 _ _ a0)))⟩
    rw [eH]
    clear eH h0 h1 h2 h3 ho
    generalize [V.ref l0, V.ref l1, V.ref l2, V.ref l3] = xs at hO1 hOL1
    refine ⟨_, rfl, fun x dx hx0 hdx0 ndx => ?_⟩
    have t1 := mk_same (C := A.C_Phones) hx0 hdx0
    refine ⟨x, dx, o, xs, os4, rfl, upd_same, t1 _ _ hO1, RL.mono hOL1 t1, good4, fun ox rx xo yo H2 b2 px' _ _ _ _ => ⟨rfl, ?_⟩⟩
    rw [f4] at px'
    have px : Ph A.C_Phones H2 x os4 r40 0 := ⟨_, _, _, _, _, px'⟩
    clear px'
    have s2 := mk_keep t1 hx0 b2
    clear b2 t1
    refine ⟨_, rfl, fun y dy hy0 hdy0 ndy => ?_⟩
    have t2 := mk_same (C := A.C_Phones) hy0 hdy0
    refine ⟨y, dy, o, xs, os4, rfl, upd_same, t2 _ _ (s2 _ _ hO1), RL.mono hOL1 (s2.trans t2), good4, fun oy ry xp yp H3 b3 py' _ _ _ _ => ⟨rfl, _, _, rfl, ?_⟩⟩
    rw [f4] at py'
    have py : Ph A.C_Phones H3 y os4 r40 0 := ⟨_, _, _, _, _, py'⟩
    clear py'
    have s3 := mk_keep t2 hy0 b3
    clear b3 t2
    have px3 := px.mono s3
    have nxy : y ≠ x := fun z => by
      obtain ⟨_, _, _, _, _, p⟩ := px
      have := p.hx
      rw [← z, hy0] at this
      cases this
    have Do3 : Dp K H3 (.ref o) (.list [.list [.int 1, .int 2], .list [.int 3], .list [], .list []]) := dp_rows (s3 _ _ (s2 _ _ hO1)) (RL.mono hOL1 (s2.trans s3))
    clear px s2 hx0 hdx0 ndx hy0 hdy0 ndy s3 hO1 hOL1
    obtain ⟨dx, ox, rx, xx, yx, p⟩ := id px3
    refine ⟨_, rfl, x, dx, _, rfl, p.hx, fp_no1 ox rx 0, (by show 1 ≤ sizeLine; decide), fun a1 ha1 => ?_⟩
    have m4 : Same H3 (upd H3 a1 (.lst [.int 2])) := Same.new ha1
    have ha14 : (upd H3 a1 (.lst [.int 2])) a1 = some (.lst ([2].map V.int)) := upd_same
    generalize upd H3 a1 (.lst [.int 2]) = H4 at m4 ha14
    have px4 := px3.mono m4
    refine ⟨x, a1, os4, r40, 0, [2], rfl, px4, good4, w40.rowsIn good4, ha14, ⟨by decide, by decide⟩, fun c1 cs1 H5 b5 hc1 hc15 hC1 _ hph => ?_⟩
    rw [n41] at hC1 hph
    have px5 := hph (.lst (cs1.map V.ref))
    rw [upd_id hc15] at px5
    have py5 := (py.mono m4).but px4 b5 nxy
    have k5 : KT K H3 H5 := ⟨fun a xs h => (px4.kt b5).1 a xs ((KT.of m4).1 a xs h), fun a xs h => (px4.kt b5).2 a xs ((KT.of m4).2 a xs h)⟩
    have Do5 := Dp.kt k5 Do3
    have D15 : Dp K H5 (.ref c1) (.list [.tuple [.int 0, .int 1, .bool true]]) := dp_calls hc15 hC1
    clear hph hC1 hc15 hc1 b5 px4 ha14 m4 ha1 p k5 px3 Do3 py
    obtain ⟨dx, ox, rx, xx, yx, p⟩ := id px5
    refine ⟨_, rfl, x, dx, _, rfl, p.hx, fp_no1 ox rx (0 + 1), (by show 2 ≤ sizeLine; decide), fun a2 ha2 => ?_⟩
    have m6 : Same H5 (upd H5 a2 (.lst [.int 1, .int 2])) := Same.new ha2
    have ha26 : (upd H5 a2 (.lst [.int 1, .int 2])) a2 = some (.lst ([1, 2].map V.int)) := upd_same
    generalize upd H5 a2 (.lst [.int 1, .int 2]) = H6 at m6 ha26
    have px6 := px5.mono m6
    refine ⟨x, a2, os4, r41, 0 + 1, [1, 2], rfl, px6, good4, w41.rowsIn good4, ha26, ⟨by decide, by decide⟩, fun c2 cs2 H7 b7 hc2 hc27 hC2 _ hph => ?_⟩
    rw [n42] at hC2 hph
    have px7 := hph (.lst (cs2.map V.ref))
    rw [upd_id hc27] at px7
    have py7 := (py5.mono m6).but px6 b7 nxy
    have k7 : KT K H5 H7 := ⟨fun a xs h => (px6.kt b7).1 a xs ((KT.of m6).1 a xs h), fun a xs h => (px6.kt b7).2 a xs ((KT.of m6).2 a xs h)⟩
    have Do7 := Dp.kt k7 Do5
    have D17 := Dp.kt k7 D15
    have D27 : Dp K H7 (.ref c2) (.list [.tuple [.int 0, .int 2, .bool false]]) := dp_calls hc27 hC2
    clear hph hC2 hc27 hc2 b7 px6 ha26 m6 ha2 p k7 px5 Do5 py5 D15
    obtain ⟨dx, ox, rx, xx, yx, p⟩ := id px7
    refine ⟨_, rfl, x, dx, _, rfl, p.hx, fp_no5 ox rx (0 + 1 + 1), x, os4, r42, 0 + 1 + 1, rfl, px7, by decide, fun H8 s8 => ?_⟩
    rw [show (idxs hasC r42).isEmpty = false by decide]
    have p8 := p.mono s8
    have px8 := px7.mono s8
    refine ⟨_, rfl, x, dx, _, rfl, p8.hx, fp_no4 ox rx (0 + 1 + 1), x, os4, r42, 0 + 1 + 1, 1, rfl, px8, w42.rowsIn good4, by decide, by decide, fun hn => absurd hn (by decide), fun l hl b4 H9 s9 hb0 hb9 => ?_⟩
    have el : l = [3] := by
      have : some (some [3]) = some (some l) := hl
      cases this
      rfl
    subst el
    have px9 := px8.mono s9
    have p9 := p8.mono s9
    have s79 := s8.trans s9
    refine ⟨_, rfl, x, dx, _, rfl, p9.hx, fp_no1 ox rx (0 + 1 + 1), Nat.zero_le _, fun a5 ha5 => ?_⟩
    have m10 : Same H9 (upd H9 a5 (.lst [])) := Same.new ha5
    have ha510 : (upd H9 a5 (.lst [])) a5 = some (.lst (([] : List Int).map V.int)) := upd_same
    generalize upd H9 a5 (.lst []) = H10 at m10 ha510
    have px10 := px9.mono m10
    refine ⟨x, a5, os4, r42, 0 + 1 + 1, [], rfl, px10, good4, w42.rowsIn good4, ha510, ⟨by decide, by decide⟩, fun c5 cs5 H11 b11 hc5 hc511 hC5 _ hph => ?_⟩
    rw [n43] at hC5 hph
    have px11 := hph (.lst (cs5.map V.ref))
    rw [upd_id hc511] at px11
    have s710 := s79.trans m10
    have py11 := (py7.mono s710).but px10 b11 nxy
    have k11 : KT K H7 H11 := ⟨fun a xs h => (px10.kt b11).1 a xs ((KT.of s710).1 a xs h), fun a xs h => (px10.kt b11).2 a xs ((KT.of s710).2 a xs h)⟩
    have Do11 := Dp.kt k11 Do7
    have D111 := Dp.kt k11 D17
    have D211 := Dp.kt k11 D27
    have D411 : Dp K H11 (.ref b4) (.list [.int 3]) := Dp.kt (px10.kt b11) (dp_ints (SqL.of (m10 _ _ hb9)))
    have D511 : Dp K H11 (.ref c5) (.list [.tuple [.int 1, .int 3, .bool true]]) := dp_calls hc511 hC5
    clear hph hC5 hc511 hc5 b11 px10 ha510 m10 ha5 p9 s79 px9 hb9 hb0 s9 hl px8 p8 s8 p px7 k11 s710 Do7 D17 D27 py7
    refine ⟨(by show 5 ≤ sizeLine; decide), fun sh hsh => ?_⟩
    have m12 : Same H11 (upd H11 sh (.lst [.ref c1, .ref c2, .bl false, .ref b4, .ref c5])) := Same.new hsh
    have Dsh : Dp K (upd H11 sh (.lst [.ref c1, .ref c2, .bl false, .ref b4, .ref c5])) (.ref sh) (.list [.list [.tuple [.int 0, .int 1, .bool true]], .list [.tuple [.int 0, .int 2, .bool false]], .bool false, .list [.int 3], .list [.tuple [.int 1, .int 3, .bool true]]]) :=
      .lst (SqL.of upd_same) (.cons (Dp.kt (KT.of m12) D111) (.cons (Dp.kt (KT.of m12) D211) (.cons (.bl false) (.cons (Dp.kt (KT.of m12) D411) (.cons (Dp.kt (KT.of m12) D511) .nil)))))
    generalize upd H11 sh (.lst [.ref c1, .ref c2, .bl false, .ref b4, .ref c5]) = H12 at m12 Dsh
    have px12 := px11.mono m12
    have py12 := py11.mono m12
    have Do12 := Dp.kt (KT.of m12) Do11
    clear D111 D211 D411 D511 px11 py11 Do11 m12
    refine ⟨_, rfl, (by show 3 ≤ sizeLine; decide), fun t1 ht1 => ?_⟩
    have m13 : Same H12 (upd H12 t1 (.tup [.int 0, .int 1, .bl true])) := Same.new ht1
    have T1 : Dp K (upd H12 t1 (.tup [.int 0, .int 1, .bl true])) (.ref t1) (.tuple [.int 0, .int 1, .bool true]) := .tup (SqT.of upd_same) (.cons (.int 0) (.cons (.int 1) (.cons (.bl true) .nil)))
    generalize upd H12 t1 (.tup [.int 0, .int 1, .bl true]) = H13 at m13 T1
    refine ⟨(by show 1 ≤ sizeLine; decide), fun L1 hL1 => ?_⟩
    have m14 : Same H13 (upd H13 L1 (.lst [.ref t1])) := Same.new hL1
    have E1 : Dp K (upd H13 L1 (.lst [.ref t1])) (.ref L1) (.list [.tuple [.int 0, .int 1, .bool true]]) := .lst (SqL.of upd_same) (.cons (Dp.kt (KT.of m14) T1) .nil)
    generalize upd H13 L1 (.lst [.ref t1]) = H14 at m14 E1
    refine ⟨(by show 3 ≤ sizeLine; decide), fun t2 ht2 => ?_⟩
    have m15 : Same H14 (upd H14 t2 (.tup [.int 0, .int 2, .bl false])) := Same.new ht2
    have T2 : Dp K (upd H14 t2 (.tup [.int 0, .int 2, .bl false])) (.ref t2) (.tuple [.int 0, .int 2, .bool false]) := .tup (SqT.of upd_same) (.cons (.int 0) (.cons (.int 2) (.cons (.bl false) .nil)))
    generalize upd H14 t2 (.tup [.int 0, .int 2, .bl false]) = H15 at m15 T2
    refine ⟨(by show 1 ≤ sizeLine; decide), fun L2' hL2 => ?_⟩
    have m16 : Same H15 (upd H15 L2' (.lst [.ref t2])) := Same.new hL2
    have E2 : Dp K (upd H15 L2' (.lst [.ref t2])) (.ref L2') (.list [.tuple [.int 0, .int 2, .bool false]]) := .lst (SqL.of upd_same) (.cons (Dp.kt (KT.of m16) T2) .nil)
    generalize upd H15 L2' (.lst [.ref t2]) = H16 at m16 E2
    refine ⟨(by show 1 ≤ sizeLine; decide), fun L3' hL3 => ?_⟩
    have m17 : Same H16 (upd H16 L3' (.lst [.int 3])) := Same.new hL3
    have E3 : Dp K (upd H16 L3' (.lst [.int 3])) (.ref L3') (.list [.int 3]) := .lst (SqL.of upd_same) (.cons (.int 3) .nil)
    generalize upd H16 L3' (.lst [.int 3]) = H17 at m17 E3
    refine ⟨(by show 3 ≤ sizeLine; decide), fun t5 ht5 => ?_⟩
    have m18 : Same H17 (upd H17 t5 (.tup [.int 1, .int 3, .bl true])) := Same.new ht5
    have T5 : Dp K (upd H17 t5 (.tup [.int 1, .int 3, .bl true])) (.ref t5) (.tuple [.int 1, .int 3, .bool true]) := .tup (SqT.of upd_same) (.cons (.int 1) (.cons (.int 3) (.cons (.bl true) .nil)))
    generalize upd H17 t5 (.tup [.int 1, .int 3, .bl true]) = H18 at m18 T5
    refine ⟨(by show 1 ≤ sizeLine; decide), fun L5' hL5 => ?_⟩
    have m19 : Same H18 (upd H18 L5' (.lst [.ref t5])) := Same.new hL5
    have E5 : Dp K (upd H18 L5' (.lst [.ref t5])) (.ref L5') (.list [.tuple [.int 1, .int 3, .bool true]]) := .lst (SqL.of upd_same) (.cons (Dp.kt (KT.of m19) T5) .nil)
    generalize upd H18 L5' (.lst [.ref t5]) = H19 at m19 E5
    refine ⟨(by show 5 ≤ sizeLine; decide), fun L6' hL6 => ?_⟩
    have m20 : Same H19 (upd H19 L6' (.lst [.ref L1, .ref L2', .bl false, .ref L3', .ref L5'])) := Same.new hL6
    have u19 := m19.trans m20
    have u18 := m18.trans u19
    have u17 := m17.trans u18
    have u16 := m16.trans u17
    have u15 := m15.trans u16
    have u14 := m14.trans u15
    have u13 := m13.trans u14
    have E6 : Dp K (upd H19 L6' (.lst [.ref L1, .ref L2', .bl false, .ref L3', .ref L5'])) (.ref L6') (.list [.list [.tuple [.int 0, .int 1, .bool true]], .list [.tuple [.int 0, .int 2, .bool false]], .bool false, .list [.int 3], .list [.tuple [.int 1, .int 3, .bool true]]]) :=
      .lst (SqL.of upd_same) (.cons (Dp.kt (KT.of u15) E1) (.cons (Dp.kt (KT.of u17) E2) (.cons (.bl false) (.cons (Dp.kt (KT.of u18) E3) (.cons (Dp.kt (KT.of m20) E5) .nil)))))
    generalize upd H19 L6' (.lst [.ref L1, .ref L2', .bl false, .ref L3', .ref L5']) = H20 at m20 E6 u13
    refine ⟨_, _, Dp.kt (KT.of u13) Dsh, E6, by decide, by decide, _, rfl, ?_⟩
    rw [show PyData.eqv (.list [.list [.tuple [.int 0, .int 1, .bool true]], .list [.tuple [.int 0, .int 2, .bool false]], .bool false, .list [.int 3], .list [.tuple [.int 1, .int 3, .bool true]]]) (.list [.list [.tuple [.int 0, .int 1, .bool true]], .list [.tuple [.int 0, .int 2, .bool false]], .bool false, .list [.int 3], .list [.tuple [.int 1, .int 3, .bool true]]]) = true by simp [PyData.eqv, PyData.eqvAll]]
    refine iteF ?_
    have px20 : Ph A.C_Phones H20 x os4 r43 (0 + 1 + 1 + 1) := px12.mono u13
    have py20 := py12.mono u13
    have Do20 := Dp.kt (KT.of u13) Do12
    clear px12 py12 Do12 Dsh E6 E1 E2 E3 E5 T1 T2 T5 m13 m14 m15 m16 m17 m18 m19 m20 u13 u14 u15 u16 u17 u18 u19 hL6 hL5 ht5 hL3 hL2 ht2 hL1 ht1 hsh
    obtain ⟨dy, oy, ry, xy, yy, p⟩ := id py20
    refine ⟨_, rfl, y, dy, _, rfl, p.hx, fp_no2 oy ry 0, y, os4, r40, 0, rfl, py20, rfl, _, rfl, ?_⟩
    rw [decide_eq_true rfl]
    refine iteF ⟨_, rfl, y, dy, _, rfl, p.hx, fp_no3 oy ry 0, y, os4, r40, 0, rfl, py20, by decide, fun kb H21 s21 hkb0 hkb => ⟨(by show 1 ≤ sizeLine; decide), fun L7 hL7 => ?_⟩⟩
    have hkb : H21 kb = some (.lst ([0].map V.int)) := hkb
    have m22 : Same H21 (upd H21 L7 (.lst [.int 0])) := Same.new hL7
    have E7 : (upd H21 L7 (.lst [.int 0])) L7 = some (.lst ([0].map V.int)) := upd_same
    generalize upd H21 L7 (.lst [.int 0]) = H22 at m22 E7
    refine ⟨_, _, dp_ints (SqL.of (m22 _ _ hkb)), dp_ints (SqL.of E7), shaped_ints _, shaped_ints _, _, rfl, ?_⟩
    rw [eqv_self]
    have u22 := s21.trans m22
    have py22 := py20.mono u22
    have p22 := p.mono u22
    refine iteF ⟨_, rfl, y, dy, _, rfl, p22.hx, fp_no4 oy ry 0, y, os4, r40, 0, 0, rfl, py22, w40.rowsIn good4, by decide, by decide, fun hn => absurd hn (by decide), fun l hl b8 H23 s23 hb80 hb8 => ⟨(by show 2 ≤ sizeLine; decide), fun L8 hL8 => ?_⟩⟩
    have el : l = [1, 2] := by
      have : some (some [1, 2]) = some (some l) := hl
      cases this
      rfl
    subst el
    have m24 : Same H23 (upd H23 L8 (.lst [.int 1, .int 2])) := Same.new hL8
    have E8 : (upd H23 L8 (.lst [.int 1, .int 2])) L8 = some (.lst ([1, 2].map V.int)) := upd_same
    generalize upd H23 L8 (.lst [.int 1, .int 2]) = H24 at m24 E8
    refine ⟨_, _, dp_ints (SqL.of (m24 _ _ hb8)), dp_ints (SqL.of E8), shaped_ints _, shaped_ints _, _, rfl, ?_⟩
    rw [eqv_self]
    have u24 := u22.trans (s23.trans m24)
    have Do24 := Dp.kt (KT.of u24) Do20
    refine iteF ⟨_, rfl, (by show 2 ≤ sizeLine; decide), fun g1 hg1 => ?_⟩
    have m25 : Same H24 (upd H24 g1 (.lst [.int 1, .int 2])) := Same.new hg1
    have F1 : Dp K (upd H24 g1 (.lst [.int 1, .int 2])) (.ref g1) (.list [.int 1, .int 2]) := .lst (SqL.of upd_same) (.cons (.int 1) (.cons (.int 2) .nil))
    generalize upd H24 g1 (.lst [.int 1, .int 2]) = H25 at m25 F1
    refine ⟨(by show 1 ≤ sizeLine; decide), fun g2 hg2 => ?_⟩
    have m26 : Same H25 (upd H25 g2 (.lst [.int 3])) := Same.new hg2
    have F2 : Dp K (upd H25 g2 (.lst [.int 3])) (.ref g2) (.list [.int 3]) := .lst (SqL.of upd_same) (.cons (.int 3) .nil)
    generalize upd H25 g2 (.lst [.int 3]) = H26 at m26 F2
    refine ⟨Nat.zero_le _, fun g3 hg3 => ?_⟩
    have m27 : Same H26 (upd H26 g3 (.lst [])) := Same.new hg3
    have F3 : Dp K (upd H26 g3 (.lst [])) (.ref g3) (.list []) := .lst (SqL.of upd_same) .nil
    generalize upd H26 g3 (.lst []) = H27 at m27 F3
    refine ⟨Nat.zero_le _, fun g4 hg4 => ?_⟩
    have m28 : Same H27 (upd H27 g4 (.lst [])) := Same.new hg4
    have F4 : Dp K (upd H27 g4 (.lst [])) (.ref g4) (.list []) := .lst (SqL.of upd_same) .nil
    generalize upd H27 g4 (.lst []) = H28 at m28 F4
    refine ⟨(by show 4 ≤ sizeLine; decide), fun g5 hg5 => ?_⟩
    have m29 : Same H28 (upd H28 g5 (.lst [.ref g1, .ref g2, .ref g3, .ref g4])) := Same.new hg5
    have v28 := m28.trans m29
    have v27 := m27.trans v28
    have v26 := m26.trans v27
    have v25 := m25.trans v26
    have F5 : Dp K (upd H28 g5 (.lst [.ref g1, .ref g2, .ref g3, .ref g4])) (.ref g5) (.list [.list [.int 1, .int 2], .list [.int 3], .list [], .list []]) :=
      .lst (SqL.of upd_same) (.cons (Dp.kt (KT.of v26) F1) (.cons (Dp.kt (KT.of v27) F2) (.cons (Dp.kt (KT.of v28) F3) (.cons (Dp.kt (KT.of m29) F4) .nil))))
    generalize upd H28 g5 (.lst [.ref g1, .ref g2, .ref g3, .ref g4]) = H29 at m29 F5 v25
    refine ⟨_, _, Dp.kt (KT.of v25) Do24, F5, by decide, by decide, _, rfl, ?_⟩
    rw [show PyData.eqv (.list [.list [.int 1, .int 2], .list [.int 3], .list [], .list []]) (.list [.list [.int 1, .int 2], .list [.int 3], .list [], .list []]) = true by simp [PyData.eqv, PyData.eqvAll]]
    refine iteF ?_
    have u29 := u24.trans v25
    have px29 := px20.mono u29
    have py29 := py20.mono u29
    clear px20 py20 Do20 Do24 F1 F2 F3 F4 F5 E8 E7 m25 m26 m27 m28 m29 v25 v26 v27 v28 u29 u24 u22 m24 m22 s23 s21 hb8 hb80 hl hkb hkb0 hg1 hg2 hg3 hg4 hg5 hL7 hL8 py22 p22 p
    obtain ⟨dy, oy, ry, xy, yy, p⟩ := id py29
    refine ⟨_, rfl, y, dy, _, rfl, p.hx, fp_no1 oy ry 0, Nat.zero_le _, fun a6 ha6 => ?_⟩
    have m30 : Same H29 (upd H29 a6 (.lst [])) := Same.new ha6
    have ha630 : (upd H29 a6 (.lst [])) a6 = some (.lst (([] : List Int).map V.int)) := upd_same
    generalize upd H29 a6 (.lst []) = H30 at m30 ha630
    have py30 := py29.mono m30
    refine ⟨y, a6, os4, r40, 0, [], rfl, py30, good4, w40.rowsIn good4, ha630, ⟨by decide, by decide⟩, fun c6 cs6 H31 b31 hc6 hc631 hC6 _ hph => ?_⟩
    rw [m41] at hC6 hph
    have py31 := hph (.lst (cs6.map V.ref))
    rw [upd_id hc631] at py31
    have px31 := (px29.mono m30).but py30 b31 (Ne.symm nxy)
    have D6 : Dp K H31 (.ref c6) (.list [.tuple [.int 0, .int 1, .bool true]]) := dp_calls hc631 hC6
    clear hph hC6 hc631 hc6 b31 py30 ha630 m30 ha6 p px29 py29
    refine ⟨(by show 3 ≤ sizeLine; decide), fun t6 ht6 => ?_⟩
    have m32 : Same H31 (upd H31 t6 (.tup [.int 0, .int 1, .bl true])) := Same.new ht6
    have T6 : Dp K (upd H31 t6 (.tup [.int 0, .int 1, .bl true])) (.ref t6) (.tuple [.int 0, .int 1, .bool true]) := .tup (SqT.of upd_same) (.cons (.int 0) (.cons (.int 1) (.cons (.bl true) .nil)))
    generalize upd H31 t6 (.tup [.int 0, .int 1, .bl true]) = H32 at m32 T6
    refine ⟨(by show 1 ≤ sizeLine; decide), fun L9 hL9 => ?_⟩
    have m33 : Same H32 (upd H32 L9 (.lst [.ref t6])) := Same.new hL9
    have E9 : Dp K (upd H32 L9 (.lst [.ref t6])) (.ref L9) (.list [.tuple [.int 0, .int 1, .bool true]]) := .lst (SqL.of upd_same) (.cons (Dp.kt (KT.of m33) T6) .nil)
    generalize upd H32 L9 (.lst [.ref t6]) = H33 at m33 E9
    have u33 := m32.trans m33
    refine ⟨_, _, Dp.kt (KT.of u33) D6, E9, by decide, by decide, _, rfl, ?_⟩
    rw [show PyData.eqv (.list [.tuple [.int 0, .int 1, .bool true]]) (.list [.tuple [.int 0, .int 1, .bool true]]) = true by simp [PyData.eqv, PyData.eqvAll]]
    have py33 : Ph A.C_Phones H33 y os4 r41 (0 + 1) := py31.mono u33
    have px33 := px31.mono u33
    clear D6 E9 T6 m32 m33 u33 hL9 ht6 py31 px31
    obtain ⟨dy, oy, ry, xy, yy, p⟩ := id py33
    refine iteF ⟨_, rfl, y, dy, _, rfl, p.hx, fp_no1 oy ry (0 + 1), (by show 1 ≤ sizeLine; decide), fun a7 ha7 => ?_⟩
    have m34 : Same H33 (upd H33 a7 (.lst [.int 3])) := Same.new ha7
    have ha734 : (upd H33 a7 (.lst [.int 3])) a7 = some (.lst ([3].map V.int)) := upd_same
    generalize upd H33 a7 (.lst [.int 3]) = H34 at m34 ha734
    have py34 := py33.mono m34
    refine ⟨y, a7, os4, r41, 0 + 1, [3], rfl, py34, good4, w41.rowsIn good4, ha734, ⟨by decide, by decide⟩, fun c7 cs7 H35 b35 hc7 hc735 hC7 _ hph => ?_⟩
    rw [m42] at hC7
    have px35 := (px33.mono m34).but py34 b35 (Ne.symm nxy)
    have D7 : Dp K H35 (.ref c7) (.list [.tuple [.int 0, .int 2, .bool true], .tuple [.int 1, .int 3, .bool false]]) := dp_calls hc735 hC7
    clear hph hC7 hc735 hc7 b35 py34 ha734 m34 ha7 p px33 py33
    refine ⟨(by show 3 ≤ sizeLine; decide), fun t7 ht7 => ?_⟩
    have m36 : Same H35 (upd H35 t7 (.tup [.int 0, .int 2, .bl true])) := Same.new ht7
    have T7 : Dp K (upd H35 t7 (.tup [.int 0, .int 2, .bl true])) (.ref t7) (.tuple [.int 0, .int 2, .bool true]) := .tup (SqT.of upd_same) (.cons (.int 0) (.cons (.int 2) (.cons (.bl true) .nil)))
    generalize upd H35 t7 (.tup [.int 0, .int 2, .bl true]) = H36 at m36 T7
    refine ⟨(by show 3 ≤ sizeLine; decide), fun t8 ht8 => ?_⟩
    have m37 : Same H36 (upd H36 t8 (.tup [.int 1, .int 3, .bl false])) := Same.new ht8
    have T8 : Dp K (upd H36 t8 (.tup [.int 1, .int 3, .bl false])) (.ref t8) (.tuple [.int 1, .int 3, .bool false]) := .tup (SqT.of upd_same) (.cons (.int 1) (.cons (.int 3) (.cons (.bl false) .nil)))
    generalize upd H36 t8 (.tup [.int 1, .int 3, .bl false]) = H37 at m37 T8
    refine ⟨(by show 2 ≤ sizeLine; decide), fun LA hLA => ?_⟩
    have m38 : Same H37 (upd H37 LA (.lst [.ref t7, .ref t8])) := Same.new hLA
    have EA : Dp K (upd H37 LA (.lst [.ref t7, .ref t8])) (.ref LA) (.list [.tuple [.int 0, .int 2, .bool true], .tuple [.int 1, .int 3, .bool false]]) := .lst (SqL.of upd_same) (.cons (Dp.kt (KT.of (m37.trans m38)) T7) (.cons (Dp.kt (KT.of m38) T8) .nil))
    generalize upd H37 LA (.lst [.ref t7, .ref t8]) = H38 at m38 EA
    have u38 := m36.trans (m37.trans m38)
    refine ⟨_, _, Dp.kt (KT.of u38) D7, EA, by decide, by decide, _, rfl, ?_⟩
    rw [show PyData.eqv (.list [.tuple [.int 0, .int 2, .bool true], .tuple [.int 1, .int 3, .bool false]]) (.list [.tuple [.int 0, .int 2, .bool true], .tuple [.int 1, .int 3, .bool false]]) = true by simp [PyData.eqv, PyData.eqvAll]]
    refine iteF ?_
    have px38 := px35.mono u38
    clear D7 EA T7 T8 m36 m37 m38 u38 hLA ht7 ht8 px35
    obtain ⟨dx, ox, rx, xx, yx, p⟩ := id px38
    refine ⟨_, rfl, x, dx, _, rfl, p.hx, fp_no5 ox rx (0 + 1 + 1 + 1), x, os4, r43, 0 + 1 + 1 + 1, rfl, px38, by decide, fun H39 s39 => ⟨_, _, rfl, rfl, _, rfl, ?_⟩⟩
    rw [show ((idxs hasC r43).isEmpty == true) = true by decide]
    have p39 := p.mono s39
    refine iteT ⟨_, rfl, x, dx, _, rfl, p39.hx, fp_no4 ox rx (0 + 1 + 1 + 1), x, os4, r43, 0 + 1 + 1 + 1, 2, rfl, px38.mono s39, w43.rowsIn good4, by decide, by decide, fun _ => ⟨rfl, _, rfl, ?_⟩, fun l hl => (by cases (show (some none : Option (Option (List Int))) = some (some l) from hl))⟩
    rw [decide_eq_true rfl]
    refine iteT ⟨_, rfl, x, dx, _, rfl, p39.hx, fp_no3 ox rx (0 + 1 + 1 + 1), x, os4, r43, 0 + 1 + 1 + 1, rfl, px38.mono s39, by decide, fun kb H40 s40 hkb0 hkb => ⟨(by show 3 ≤ sizeLine; decide), fun LB hLB => ?_⟩⟩
    have hkb : H40 kb = some (.lst ([0, 1, 3].map V.int)) := hkb
    have m41' : Same H40 (upd H40 LB (.lst [.int 0, .int 1, .int 3])) := Same.new hLB
    have EB : (upd H40 LB (.lst [.int 0, .int 1, .int 3])) LB = some (.lst ([0, 1, 3].map V.int)) := upd_same
    generalize upd H40 LB (.lst [.int 0, .int 1, .int 3]) = H41 at m41' EB
    refine ⟨_, _, dp_ints (SqL.of (m41' _ _ hkb)), dp_ints (SqL.of EB), shaped_ints _, shaped_ints _, _, rfl, ?_⟩
    rw [eqv_self]
    have u41 := s40.trans m41'
    have p41 := p39.mono u41
    refine iteT ⟨_, rfl, x, dx, _, rfl, p41.hx, fp_no2 ox rx (0 + 1 + 1 + 1), x, os4, r43, 0 + 1 + 1 + 1, rfl, (px38.mono s39).mono u41, rfl, k H41⟩
end
end Toy

set_option Elab.async false
set_option linter.all false
set_option maxRecDepth 100000
set_option maxHeartbeats 4000000
namespace Toy
open PySem L2
section
variable {P : Program} {w : World} {K : PySem.W.Frag} {mg : Str → Option Value} {base : Heap} {A : Adr}
def spLaw (K : PySem.W.Frag) : Sp := fun vs H Q _ => ∃ (a : Addr) (ns : List Int), vs = [.ref a] ∧ SqL K H a (ns.map V.int) ∧ ns.length ≤ 63 ∧ ∀ H', Q (.bl true) H'
theorem sc_law : FnScope ["_law_script", "_law_cells", "_law_row", "_law_at", "_law_whole", "_law_orders_here", "_law_handed", "_law_people", "_law_phones", "_law_rows", "_law_gone", "_law_number_here", "_law_wide", "_law_absent", "_law_mine", "_law_found", "_law_due", "_law_one"] ["_law_script"] (defScope s_law) := ⟨rfl, rfl, rfl, by decide +kernel, rfl, by decide +kernel, by decide +kernel⟩
theorem ok_law (T : Txt K mg A) : FnOk P w K mg base CX0 9 A.f_law A.d_law ["_law_script"] (spLaw K) := by
  have G_law_number := ok_law_number (P := P) (w := w) (base := base) T
  have G_law_orders := ok_law_orders (P := P) (w := w) (base := base) T
  have G_law_turn := ok_law_turn (P := P) (w := w) (base := base) T
  have G_law_told := ok_law_told (P := P) (w := w) (base := base) T
  have G_law_two_right := ok_law_two_right (P := P) (w := w) (base := base) T
  have G_Phones_init := ok_Phones_init (P := P) (w := w) (base := base) T
  have G_Phones_pass_round := ok_Phones_pass_roundX (P := P) (w := w) (base := base) T
  refine T.f_law.ok sc_law (fun vs H Q E h => ?_) (fun cdv A' outer s H vs Q E hr h => ?_)
  · obtain ⟨a, ns, rfl, _⟩ := h
    rfl
  · obtain ⟨a, ns, rfl, hS, hlen, k⟩ := h
    have tail2 : ∃ u, PSs (cxOf CX0 P w K mg base ["_law_script", "_law_cells", "_law_row", "_law_at", "_law_whole", "_law_orders_here", "_law_handed", "_law_people", "_law_phones", "_law_rows", "_law_gone", "_law_number_here", "_law_wide", "_law_absent", "_law_mine", "_law_found", "_law_due", "_law_one"] "law" (defScope s_law) A.f_law cdv A' outer s H E).nox ((defBody s_law).drop 2) u ∧ ∀ (cl ob : Addr) (cs : List Int) (wh : Int) (rs : List Addr) (os : List (List Int)) (H1 : Hp), H1 cl = some (.lst (cs.map V.int)) → 0 < cs.length → cs.length ≤ 63 → H1 ob = some (.lst (rs.map V.ref)) → LL H1 rs os → GoodO os →
        u { nx := fun _ H' => Q .non H', rt := Q } [some (.ref a), some (.ref cl), none, none, some (.int wh), some (.ref ob), none, none, none, none, none, none, none, none, none, none, none, none] H1 := by
      refine ⟨_, (pss_cons (ps_par (i := 6) (j := 7) (by rfl) sc_law.nd rfl rfl (by decide) rfl rfl (@pa_cons _ _ _ _ _ (pe_lc (own := [("_law_row", 2)]) rfl sc_law.nd (pi_listK K (pv 5)) (blkOk_by (own := [("_law_row", 2)]) (by kernel_rfl)) (fun _ _ _ _ _ => (pg_name (i := 2) sc_law.nd rfl (Or.inl rfl))) (fun _ _ _ _ _ => pts_nil) (fun _ _ _ _ _ => (pe_callTy (call_list_ofK K) (by rfl) T.n_list (by decide +kernel) (@pa_cons _ _ _ _ _ (pv 2) pa_nil (by rfl))))) (@pa_cons _ _ _ _ _ (pe_callB (call_len_seqK K) (by rfl) T.n_len PySem.boot_len (@pa_cons _ _ _ _ _ (pv 5) pa_nil (by rfl))) pa_nil (by rfl)) (by rfl)) (by rfl))
      (pss_cons (ps_par3 (i := 8) (j := 9) (l := 10) (by rfl) sc_law.nd rfl rfl rfl (by decide) (by decide) (by decide) rfl rfl rfl (@pa_cons _ _ _ _ _ (pe_make T.k_Phones G_Phones_init (hr.mono (by decide)) (by rfl) T.c_Phones T.b_Phones_init .nil pass0 (@pa_cons _ _ _ _ _ (pv 6) pa_nil (by rfl))) (@pa_cons _ _ _ _ _ pe_dnewK (@pa_cons _ _ _ _ _ pe_int pa_nil (by rfl)) (by rfl)) (by rfl)) (by rfl))
      (pss_cons (ps_dput hr.unit1 (pv 9) pe_int (pe_callTy (call_list_ofK K) (by rfl) T.n_list (by decide +kernel) (@pa_cons _ _ _ _ _ (pe_ix (ix_listK K) (pv 5) pe_int (fun _ _ => rfl)) pa_nil (by rfl))) rfl)
      (pss_cons (ps_for PassesOwn.never rfl (pi_listK K (pv 6)) (pg_name (i := 2) sc_law.nd rfl (Or.inl rfl)) (pss_one (ps_expr (pe_bmK K PySem.F.plainAttrs_list PySem.F.slot_list_append PySem.F.type_list_append mt_append (pv 2) (@pa_cons _ _ _ _ _ pe_int pa_nil (by rfl))))))
      (pss_cons (ps_if (pt_not (pt_val (pe_call G_law_told (hr.mono (by decide)) (by rfl) T.m_law_told T.k_law_told T.b_law_told .nil pass0 (@pa_cons _ _ _ _ _ (pv 8) (@pa_cons _ _ _ _ _ (pv 9) (@pa_cons _ _ _ _ _ (pv 7) (@pa_cons _ _ _ _ _ pe_int pa_nil (by rfl)) (by rfl)) (by rfl)) (by rfl))))) (pss_one (ps_ret pe_bl)) pss_nil)
      (pss_cons (ps_for PassesOwn.never rfl (pi_range1 (by rfl) T.n_range (@pa_cons _ _ _ _ _ (pe_callB (call_min2 rfl) (by rfl) T.n_min (by decide +kernel) (@pa_cons _ _ _ _ _ pe_int (@pa_cons _ _ _ _ _ (pe_op op_mulB pe_int (pv 7)) pa_nil (by rfl)) (by rfl))) pa_nil (by rfl))) (pg_name (i := 3) sc_law.nd rfl (Or.inl rfl)) (pss_cons (ps_set (i := 11) sc_law.nd rfl (Or.inr rfl) (pe_op op_fdiv (pe_call G_law_number (hr.mono (by decide)) (by rfl) T.m_law_number T.k_law_number T.b_law_number .nil pass0 (@pa_cons _ _ _ _ _ (pe_op op_add (pe_ix (ix_listK K) (pv 1) (pe_op op_mod (pv 3) (pe_callB (call_len_seqK K) (by rfl) T.n_len PySem.boot_len (@pa_cons _ _ _ _ _ (pv 1) pa_nil (by rfl)))) (fun _ _ => rfl)) (pe_op op_mulB pe_int (pv 3))) (@pa_cons _ _ _ _ _ (pv 3) (@pa_cons _ _ _ _ _ (pv 4) pa_nil (by rfl)) (by rfl)) (by rfl))) pe_int))
      (pss_cons (ps_set (i := 12) sc_law.nd rfl (Or.inr rfl) (pe_ix (ix_tupK K) (@pe_tup _ _ _ _ _ (@pa_cons _ _ _ _ _ pe_int (@pa_cons _ _ _ _ _ pe_int (@pa_cons _ _ _ _ _ pe_int (@pa_cons _ _ _ _ _ pe_int pa_nil (by rfl)) (by rfl)) (by rfl)) (by rfl))) (pe_op op_mod (pv 11) pe_int) (fun _ _ => rfl)))
      (pss_cons (ps_setLc (i := 13) (own := [("_law_one", 17)]) rfl sc_law.nd rfl rfl (sw_true rfl rfl rfl (by decide +kernel)) (pi_range2 (by rfl) T.n_range (@pa_cons _ _ _ _ _ pe_int (@pa_cons _ _ _ _ _ (pv 7) pa_nil (by rfl)) (by rfl))) (blkOk_by (own := [("_law_one", 17)]) (by kernel_rfl)) (fun _ _ _ _ _ => (pg_name (i := 17) sc_law.nd rfl (Or.inl rfl))) (fun _ _ _ _ _ => (pts_one (PW.pt (pw_and (pt_cmpR op_gt (pv 12) pe_int (nomark _)) (pw_and1 (pt_cmpR op_eq (pe_op op_mod (pe_op op_add (pe_op op_fdiv (pv 11) pe_int) (pe_op op_mulB (pv 17) (pv 17))) (pv 12)) pe_int (nomark _))))))) (fun _ _ _ _ _ => (pv 17)))
      (pss_cons (ps_par (i := 14) (j := 10) (by rfl) sc_law.nd rfl rfl (by decide) rfl rfl (@pa_cons _ _ _ _ _ (pe_callTy (call_list_ofK K) (by rfl) T.n_list (by decide +kernel) (@pa_cons _ _ _ _ _ (pv 13) pa_nil (by rfl))) (@pa_cons _ _ _ _ _ (pe_op op_add (pv 10) pe_int) pa_nil (by rfl)) (by rfl)) (by rfl))
      (pss_cons (ps_par (i := 15) (j := 16) (by rfl) sc_law.nd rfl rfl (by decide) rfl rfl (@pa_cons _ _ _ _ _ (pe_meth (pv 8) T.cl_Phones T.mt_Phones_pass_round G_Phones_pass_round (hr.mono (by decide)) T.b_Phones_pass_round .nil pass0 (@pa_cons _ _ _ _ _ (pv 14) pa_nil (by rfl))) (@pa_cons _ _ _ _ _ (pe_call G_law_turn (hr.mono (by decide)) (by rfl) T.m_law_turn T.k_law_turn T.b_law_turn .nil pass0 (@pa_cons _ _ _ _ _ (pv 5) (@pa_cons _ _ _ _ _ (pv 9) (@pa_cons _ _ _ _ _ (pv 13) pa_nil (by rfl)) (by rfl)) (by rfl))) pa_nil (by rfl)) (by rfl)) (by rfl))
      (pss_cons (ps_if (PW.pt (pw_or (pt_cmpR (op_neDK K hr.units) (pv 15) (pv 16) (nomark _)) (pw_or (pt_cmpR (op_neDK K hr.units) (pv 14) (pv 13) (nomark _)) (pw_or1 (pt_not (pt_val (pe_callB (cr_isiK K) (by rfl) T.n_isinstance (by decide +kernel) (@pa_cons _ _ _ _ _ (pv 15) (@pa_cons _ _ _ _ _ (pe_bltn (v := .ty "list") (by rfl) T.n_list (by decide +kernel) rfl) pa_nil (by rfl)) (by rfl))))))))) (pss_one (ps_ret pe_bl)) pss_nil)
      (pss_cons (ps_expr (pe_bmK K PySem.F.plainAttrs_list PySem.F.slot_list_append PySem.F.type_list_append mt_append (pv 15) (@pa_cons _ _ _ _ _ (@pe_tup _ _ _ _ _ pa_nil) pa_nil (by rfl))))
      (pss_cons (ps_expr (pe_bmK K PySem.F.plainAttrs_list PySem.F.slot_list_append PySem.F.type_list_append mt_append (pv 14) (@pa_cons _ _ _ _ _ pe_int pa_nil (by rfl))))
      (pss_one (ps_if (PW.pt (pw_and (pt_cmpR op_eq (pe_op op_mod (pv 3) pe_int) (pe_op op_mod (pv 4) pe_int) (nomark _)) (pw_and1 (pt_not (pt_val (pe_call G_law_told (hr.mono (by decide)) (by rfl) T.m_law_told T.k_law_told T.b_law_told .nil pass0 (@pa_cons _ _ _ _ _ (pv 8) (@pa_cons _ _ _ _ _ (pv 9) (@pa_cons _ _ _ _ _ (pv 7) (@pa_cons _ _ _ _ _ (pv 10) pa_nil (by rfl)) (by rfl)) (by rfl)) (by rfl)))))))) (pss_one (ps_ret pe_bl)) pss_nil)))))))))))
      (pss_cons (ps_if (pt_not (pt_val (pe_call G_law_told (hr.mono (by decide)) (by rfl) T.m_law_told T.k_law_told T.b_law_told .nil pass0 (@pa_cons _ _ _ _ _ (pv 8) (@pa_cons _ _ _ _ _ (pv 9) (@pa_cons _ _ _ _ _ (pv 7) (@pa_cons _ _ _ _ _ (pv 10) pa_nil (by rfl)) (by rfl)) (by rfl)) (by rfl))))) (pss_one (ps_ret pe_bl)) pss_nil)
      (pss_one (ps_ret (pe_call0 G_law_two_right (hr.mono (by decide)) (by rfl) T.m_law_two_right T.k_law_two_right T.b_law_two_right .nil pass0)))))))))), ?_⟩
      intro cl ob cs wh rs os H1 hc1 hc0 hc63 hob hLo g
      have n1 := g.n1
      have n40 := g.n40
      have hrl : rs.length = os.length := hLo.1
      refine ⟨_, rfl, ob, rfl, ⟨_, SqL.of hob⟩, fun D hD => ?_⟩
      refine lc_list (K := K) (a := ob) (xs := rs.map V.ref) (fun q H2 => Same H1 H2 ∧ ∃ hs : List Addr, hs.length = q ∧ H2 D = some (.lst (hs.map V.ref)) ∧ LL H2 hs (os.take q) ∧ hs.Nodup ∧ D ∉ hs ∧ ∀ m ∈ hs, H1 m = none)
        ⟨Same.new hD, [], rfl, upd_same, by simpa using LL.nil, List.nodup_nil, by simp, by simp⟩ (fun q H2 _ ⟨s2, _⟩ => SqL.of (s2 _ _ hob)) ?_ ?_
      · rintro q x H2 hq ⟨s2, hs, hhl, hD2, hL2, hnd, hDn, hhn⟩
        obtain ⟨r, hr1, rfl⟩ := ref_get hq
        have hql := (List.getElem?_eq_some_iff.mp hr1).1
        obtain ⟨l, hl⟩ : ∃ l, os[q]? = some l := ⟨_, List.getElem?_eq_getElem (by omega)⟩
        refine ⟨rfl, yesT ⟨_, rfl, r, _, rfl, .inl (SqL.of (s2 _ _ (hLo.2 q r l hr1 hl))), fun b hb => ?_⟩⟩
        have m3 : Same H2 (upd H2 b (.lst (l.map V.int))) := Same.new hb
        have nDb : D ≠ b := ne_of_none hD2 hb
        have nb : b ∉ hs := hL2.notin hb
        have nDr : D ∉ hs ++ [b] := fun h1 => by
          rcases List.mem_append.mp h1 with h1 | h1
          · exact hDn h1
          · exact nDb (List.mem_singleton.mp h1)
        refine ⟨hs.map V.ref, m3 _ _ hD2, ?_, (s2.trans m3).upd hD, hs ++ [b], ?_, ?_, ?_, ?_, nDr, ?_⟩
        · rw [List.length_map]
          exact small1000 (by omega)
        · rw [List.length_append, hhl]
          rfl
        · rw [upd_same, List.map_append]
          rfl
        · rw [take_snoc hl]
          exact ((hL2.mono m3).snoc upd_same).upd nDr
        · exact List.nodup_append.mpr ⟨hnd, by simp, fun x hx y hy z => nb (by rw [← List.mem_singleton.mp hy, ← z]; exact hx)⟩
        · intro m hm
          rcases List.mem_append.mp hm with h1 | h1
          · exact hhn m h1
          · rw [List.mem_singleton.mp h1]
            exact s2.free hb
      · rintro H2 ⟨s2, hs, hhl, hD2, hL2, hnd, hDn, hhn⟩
        rw [List.length_map] at hhl
        rw [List.length_map, hrl, List.take_length] at hL2
        have hob2 := s2 _ _ hob
        have hLo2 := hLo.mono s2
        refine ⟨_, rfl, ob, _, rfl, .inl (SqL.of hob2), _, _, rfl, ?_⟩
        rw [List.length_map, hrl]
        refine ⟨_, rfl, fun x dx hx0 hdx0 ndx => ?_⟩
        have t1 := mk_same (C := A.C_Phones) hx0 hdx0
        refine ⟨x, dx, D, hs.map V.ref, os, rfl, upd_same, t1 _ _ hD2, RL.mono hL2.ol t1, g, fun po pr xo yo H3 b3 ph3 hpo hpr hxo hyo => ⟨rfl, fun d hd0 => ⟨_, _, _, rfl, ?_⟩⟩⟩
        have s23 : Same H2 H3 := mk_keep t1 hx0 b3
        have fre : ∀ {r : Addr}, (upd (upd H2 dx (.own x)) x (.ins A.C_Phones dx [])) r = none → H2 r = none := fun {r} e => t1.free e
        have hpo := fre hpo
        have hpr := fre hpr
        have hxo : ∀ r, V.ref r ∈ xo → H2 r = none := fun r hr' => fre (hxo r hr')
        have hyo : ∀ r, V.ref r ∈ yo → H2 r = none := fun r hr' => fre (hyo r hr')
        clear b3 t1 fre
        have m4 : Same H3 (upd H3 d (.dK [])) := Same.new hd0
        have hd4 : (upd H3 d (.dK [])) d = some (.dK []) := upd_same
        generalize upd H3 d (.dK []) = H4 at m4 hd4
        have s24 : Same H2 H4 := s23.trans m4
        have ph4 := ph3.mono m4
        have hdx : d ≠ x := Ne.symm (ne_of_none ph3.hx hd0)
        have hos0 : os[0]? = some (ch os 0) := ch_get (os := os) (x := 0) (by omega) (by omega)
        obtain ⟨r0, hr0⟩ : ∃ r0, rs[0]? = some r0 := ⟨_, List.getElem?_eq_getElem (by omega)⟩
        refine ⟨_, rfl, ob, _, _, _, rfl, rfl, SqL.of (s24 _ _ hob2), at_of (j := 0) rfl (by rw [List.getElem?_map, hr0]; rfl), r0, _, rfl, .inl (SqL.of (s24 _ _ (hLo2.2 0 r0 _ hr0 hos0))), fun q1 hq1 => ?_⟩
        have m5 : Same H4 (upd H4 q1 (.lst ((ch os 0).map V.int))) := Same.new hq1
        have hq15 : (upd H4 q1 (.lst ((ch os 0).map V.int))) q1 = some (.lst ((ch os 0).map V.int)) := upd_same
        generalize upd H4 q1 (.lst ((ch os 0).map V.int)) = H5 at m5 hq15
        refine ⟨_, rfl, d, _, rfl, DPut.k (k := .inl 0) (m5 _ _ hd4) (by show 0 < sizeLine; decide), ?_⟩
        have kl6 : KL H5 (upd H5 d (.dK (putK [] (.inl 0) (.ref q1)))) := KL.dK (m5 _ _ hd4)
        have hd6 : (upd H5 d (.dK (putK [] (.inl 0) (.ref q1)))) d = some (.dK (putK [] (.inl 0) (.ref q1))) := upd_same
        have b6 : But d H5 (upd H5 d (.dK (putK [] (.inl 0) (.ref q1)))) := But.upd
        generalize upd H5 d (.dK (putK [] (.inl 0) (.ref q1))) = H6 at kl6 hd6 b6
        have s25 : Same H2 H5 := s24.trans m5
        have hd2 : H2 d = none := s23.free hd0
        have s26 : Same H2 H6 := fun c u e => b6 c u (ne_of_none e hd2) (s25 c u e)
        have ph5 := ph4.mono m5
        have ph6 : PhAt A.C_Phones H6 x dx po pr xo yo os (firstM os) 0 := ⟨b6 _ _ (Ne.symm hdx) ph5.hx, kl6 _ _ ph5.ho, RL.kl ph5.hO kl6, kl6 _ _ ph5.hr, RL.kl ph5.hR kl6⟩
        have hq16 := kl6 _ _ hq15
        have hhs2 : ∀ m ∈ hs, ∃ o', H2 m = some o' := fun m hm => by
          obtain ⟨p, hp⟩ := List.getElem?_of_mem hm
          have hpl := (List.getElem?_eq_some_iff.mp hp).1
          exact ⟨_, hL2.2 p m _ hp (List.getElem?_eq_getElem (by omega))⟩
        have nh : ∀ {b : Addr}, H2 b = none → b ∉ hs := fun {b} e hm => by
          obtain ⟨o', ho'⟩ := hhs2 b hm
          rw [e] at ho'
          cases ho'
        have nh1 : ∀ {b : Addr} {o' : HO}, H1 b = some o' → b ∉ hs := fun {b o'} e hm => by
          rw [hhn b hm] at e
          cases e
        have nq1 : q1 ∉ hs := nh (s24.free hq1)
        refine ⟨_, rfl, D, rfl, ⟨_, SqL.of (s26 _ _ hD2)⟩, for_list (K := K) (a := D) (xs := hs.map V.ref)
          (fun i σ H7 => ∃ x2, σ = [some (.ref a), some (.ref cl), x2, none, some (.int wh), some (.ref ob), some (.ref D), some (.int os.length), some (.ref x), some (.ref d), some (.int 0), none, none, none, none, none, none, none] ∧ (∀ b u, b ∉ hs → H6 b = some u → H7 b = some u) ∧ ∀ m ∈ hs, ∃ ys, H7 m = some (.lst ys) ∧ ys.length ≤ 50 + i)
          ⟨_, rfl, fun b u _ e => e, fun m hm => ?_⟩ (fun i σ H7 _ ⟨_, _, q, _⟩ => SqL.of (q _ _ hDn (s26 _ _ hD2))) ?_ ?_⟩
        · obtain ⟨p, hp⟩ := List.getElem?_of_mem hm
          have hpl := (List.getElem?_eq_some_iff.mp hp).1
          have hl : os[p]? = some (os[p]'(by omega)) := List.getElem?_eq_getElem _
          refine ⟨_, s26 _ _ (hL2.2 p m _ hp hl), ?_⟩
          rw [List.length_map]
          have := Nat.le_trans (nodup_len (n := os.length) (g.row hl).1 fun y hy => by have := (g.row hl).2 y hy; omega) n40
          omega
        · rintro i v σ H7 hi ⟨x2, rfl, k7, l7⟩
          obtain ⟨m, hm, rfl⟩ := ref_get hi
          have hmm := List.mem_of_getElem? hm
          have hil := (List.getElem?_eq_some_iff.mp hm).1
          obtain ⟨ys, hys, hyl⟩ := l7 m hmm
          refine ⟨_, rfl, .inl ⟨rfl, _, SqL.of hys⟩, m, _, _, rfl, rfl, hys, small1000 (by omega), _, rfl, fun b u hb e => ?_, fun m' hm' => ?_⟩
          · rw [upd_ne (fun z => hb (by rw [z]; exact hmm))]
            exact k7 b u hb e
          · by_cases e : m' = m
            · exact ⟨_, by rw [e, upd_same], by rw [List.length_append]; show ys.length + 1 ≤ _; omega⟩
            · obtain ⟨ys', h1, h2⟩ := l7 m' hm'
              exact ⟨ys', by rw [upd_ne e]; exact h1, by omega⟩
        · rintro σ H7 ⟨x2, rfl, k7, l7⟩
          have hc7 : H7 cl = some (.lst (cs.map V.int)) := k7 _ _ (nh1 hc1) (s26 _ _ (s2 _ _ hc1))
          have hob7 : H7 ob = some (.lst (rs.map V.ref)) := k7 _ _ (nh1 hob) (s26 _ _ hob2)
          have hLo7 : LL H7 rs os := ⟨hLo.1, fun p r l hp hl => k7 _ _ (nh1 (hLo.2 p r l hp hl)) (s26 _ _ (hLo2.2 p r l hp hl))⟩
          have rlk : ∀ {vs : List V} {rows : Rws}, RL H6 vs rows → (∀ r, V.ref r ∈ vs → H2 r = none) → RL H7 vs rows := fun {vs rows} h hn => ⟨h.len, fun p v row hp hr' => by
            have q := h.at' p v row hp hr'
            cases row with
            | none => exact q
            | some l =>
              obtain ⟨r, e, q⟩ := q
              exact ⟨r, e, k7 _ _ (nh (hn r (by rw [← e]; exact List.mem_of_getElem? hp))) q⟩⟩
          have ph7 : PhAt A.C_Phones H7 x dx po pr xo yo os (firstM os) 0 := ⟨k7 _ _ (nh hx0) ph6.hx, k7 _ _ (nh hpo) ph6.ho, rlk ph6.hO hxo, k7 _ _ (nh hpr) ph6.hr, rlk ph6.hR hyo⟩
          have hd7 : H7 d = some (.dK (putK [] (.inl 0) (.ref q1))) := k7 _ _ (nh hd2) hd6
          have hD7 : DR H7 (putK [] (.inl 0) (.ref q1)) (firstM os) := by
            have d0 : DR H7 [] (List.replicate os.length none) := ⟨List.nodup_nil, fun k hk => by simp at hk, fun p _ => rfl, fun p l hl => by
              have := List.eq_of_mem_replicate (List.mem_of_getElem? hl)
              cases this⟩
            have := d0.put (p := 0) (l := ch os 0) (by rw [List.length_replicate]; omega) (k7 _ _ nq1 hq16)
            have e : (List.replicate os.length (none : Option (List Int))).set 0 (some (ch os 0)) = firstM os := by
              unfold firstM
              cases h : os.length with
              | zero => omega
              | succ m => rfl
            rw [e] at this
            exact this
          clear l7 k7 rlk nh nh1 hhs2 ph6 ph5 ph4 ph3 hLo2 hob2 hL2 hD2 hLo hob hc1
          refine ⟨_, rfl, _, rfl, _, rfl, x, d, _, os, firstM os, 0, rfl, ⟨dx, po, pr, xo, yo, ph7⟩, g, (WInv.first g).rowsIn g, hd7, hD7, fun H8 s8 => ⟨true, rfl, iteF ?_⟩⟩
          have e40 : 0 ≤ (if 2 * (os.length : Int) < 40 then 2 * (os.length : Int) else 40) ∧ (if 2 * (os.length : Int) < 40 then 2 * (os.length : Int) else 40) ≤ 40 := by split <;> omega
          refine ⟨_, rfl, _, _, rfl, rfl, mulB (m := 20) (n := 20) (bits_of (by decide)) (bits_of (by omega)) (by decide) (by decide), _, _, rfl, _, rfl, by omega, by omega, ?_⟩
          refine for_range (lo := 0) (n := (if 2 * (os.length : Int) < 40 then 2 * (os.length : Int) else 40).toNat) (fun i σ H9 => ∃ (x3 x11 x12 x13 x14 x15 x16 : Option V) (kvs : List (Key × V)) (rows : Rws) (t : Int), σ = [some (.ref a), some (.ref cl), x2, x3, some (.int wh), some (.ref ob), some (.ref D), some (.int os.length), some (.ref x), some (.ref d), some (.int t), x11, x12, x13, x14, x15, x16, none] ∧ H9 cl = some (.lst (cs.map V.int)) ∧ H9 ob = some (.lst (rs.map V.ref)) ∧ LL H9 rs os ∧ Ph A.C_Phones H9 x os rows t ∧ H9 d = some (.dK kvs) ∧ DR H9 kvs rows ∧ WInv os rows)
            ⟨none, none, none, none, none, none, none, _, firstM os, 0, rfl, s8 _ _ hc7, s8 _ _ hob7, hLo7.mono s8, ⟨dx, po, pr, xo, yo, ph7.mono s8⟩, s8 _ _ hd7, hD7.mono (KL.of s8), WInv.first g⟩ ?_ ?_
          · clear e40 s8 hD7 hd7 ph7 hLo7 hob7 hc7 nq1 hq16 s26 hd2 s25 b6 hd6 kl6 hq15 m5 hq1 hr0 hos0 s24 hd4 m4 hyo hxo hpr hpo s23 hd0 hx0 hdx0 s2 hD hnd hhn
            rintro i σ H9 hi ⟨x3, x11, x12, x13, x14, x15, x16, kvs, rows, t, rfl, hc9, hob9, hLo9, ph9, hd9, hD9, hW9⟩
            have hi40 : i < 40 := by
              revert hi
              split <;> omega
            have hcl0 : 0 < (((cs.map V.int).length : Nat) : Int) := by
              rw [List.length_map]
              omega
            have hidx : 0 ≤ ((0 : Int) + i) % (((cs.map V.int).length : Nat) : Int) ∧ ((0 : Int) + i) % (((cs.map V.int).length : Nat) : Int) < (((cs.map V.int).length : Nat) : Int) := ⟨Int.emod_nonneg _ (by omega), Int.emod_lt_of_pos _ hcl0⟩
            obtain ⟨z, hz⟩ : ∃ z, cs[(((0 : Int) + i) % (((cs.map V.int).length : Nat) : Int)).toNat]? = some z := ⟨_, List.getElem?_eq_getElem (by have := hidx.2; rw [List.length_map] at this; rw [List.length_map]; omega)⟩
            refine ⟨_, rfl, _, rfl, _, rfl, cl, _, rfl, .inl (SqL.of hc9), _, _, rfl, rfl, hcl0, cl, cs.map V.int, _, .int z, rfl, rfl, SqL.of hc9, at_of (j := (((0 : Int) + i) % (((cs.map V.int).length : Nat) : Int)).toNat) (by omega) (by rw [List.getElem?_map, hz]; rfl), ?_⟩
            refine ⟨_, rfl, _, _, rfl, rfl, mulB (m := 20) (n := 20) (bits_of (by decide)) (bits_of (by omega)) (by decide) (by decide), _, _, rfl, rfl, _, rfl, _, rfl, _, _, _, rfl, by omega, by omega, fun r => ?_⟩
            refine ⟨_, _, rfl, rfl, ⟨by decide, by decide⟩, ?_⟩
            refine ⟨(by show 4 ≤ sizeLine; decide), fun tw htw => ?_⟩
            have m10 : Same H9 (upd H9 tw (.tup [.int 1, .int 2, .int 3, .int 7])) := Same.new htw
            have htw10 : (upd H9 tw (.tup [.int 1, .int 2, .int 3, .int 7])) tw = some (.tup [.int 1, .int 2, .int 3, .int 7]) := upd_same
            generalize upd H9 tw (.tup [.int 1, .int 2, .int 3, .int 7]) = H10 at m10 htw10
            obtain ⟨wd, hwd0, hwd⟩ : ∃ wd : Int, 0 < wd ∧ ([1, 2, 3, 7] : List Int)[(r / 3 % 4).toNat]? = some wd := by
              have c : (r / 3 % 4).toNat = 0 ∨ (r / 3 % 4).toNat = 1 ∨ (r / 3 % 4).toNat = 2 ∨ (r / 3 % 4).toNat = 3 := by omega
              rcases c with e | e | e | e <;> rw [e]
              · exact ⟨1, by decide, rfl⟩
              · exact ⟨2, by decide, rfl⟩
              · exact ⟨3, by decide, rfl⟩
              · exact ⟨7, by decide, rfl⟩
            refine ⟨_, rfl, _, _, rfl, rfl, (by show (0 : Int) < 4; decide), tw, [.int 1, .int 2, .int 3, .int 7], _, .int wd, rfl, rfl, SqT.of htw10, at_of (j := (r / 3 % 4).toNat) (by omega) (by show (([1, 2, 3, 7] : List Int).map V.int)[(r / 3 % 4).toNat]? = _; rw [List.getElem?_map, hwd]; rfl), ?_⟩
            refine ⟨_, rfl, 1, _, rfl, ⟨by decide, by decide, by omega, by omega⟩, fun D2 hD2 => ?_⟩
            refine lc_range (lo := 1) (n := ((os.length : Int) - 1).toNat) (fun q H11 => Same H10 H11 ∧ ∃ as : List Int, H11 D2 = some (.lst (as.map V.int)) ∧ as.length ≤ q ∧ as.Pairwise (· < ·) ∧ ∀ y ∈ as, 0 < y ∧ y < 1 + (q : Int))
              ⟨Same.new hD2, [], upd_same, Nat.le_refl _, List.Pairwise.nil, by simp⟩ ?_ ?_
            · rintro q H11 hq ⟨s11, as, hDa, hal, hasc, hain⟩
              have no : Same H10 H11 ∧ ∃ as : List Int, H11 D2 = some (.lst (as.map V.int)) ∧ as.length ≤ q + 1 ∧ as.Pairwise (· < ·) ∧ ∀ y ∈ as, 0 < y ∧ y < 1 + ((q + 1 : Nat) : Int) := ⟨s11, as, hDa, by omega, hasc, fun y hy => by have := hain y hy; omega⟩
              refine ⟨rfl, _, rfl, _, _, rfl, rfl, _, rfl, ?_⟩
              refine ite2 (fun _ => ?_) (fun _ => iteF no)
              refine ⟨_, rfl, _, _, rfl, rfl, ⟨by decide, by decide⟩, _, rfl, _, rfl, _, _, rfl, rfl, mulB (m := 20) (n := 20) (bits_of (by omega)) (bits_of (by omega)) (by decide) (by decide), _, _, rfl, rfl, _, rfl, _, _, rfl, rfl, hwd0, rfl, _, rfl, ?_⟩
              refine ite2 (fun _ => ?_) (fun _ => no)
              refine ⟨_, rfl, as.map V.int, hDa, ?_, s11.upd hD2, as ++ [1 + (q : Int)], ?_, ?_, ?_, fun y hy => ?_⟩
              · rw [List.length_map]
                exact small1000 (by omega)
              · rw [upd_same, List.map_append]
                rfl
              · rw [List.length_append]
                show as.length + 1 ≤ q + 1
                omega
              · exact List.pairwise_append.mpr ⟨hasc, List.pairwise_singleton _ _, fun u hu v hv => by rw [List.mem_singleton.mp hv]; exact (hain u hu).2⟩
              · rcases List.mem_append.mp hy with h1 | h1
                · have := hain y h1
                  omega
                · rw [List.mem_singleton.mp h1]
                  omega
            · rintro Ha ⟨s11, as, hDa, hal, hasc, hain⟩
              have hAbs : Abs as os.length := ⟨hasc, fun y hy => by have := hain y hy; omega⟩
              have hal40 : as.length ≤ 40 := by omega
              have sa : Same H9 Ha := m10.trans s11
              refine ⟨_, rfl, D2, _, rfl, .inl (SqL.of hDa), fun mi hmi => ⟨_, rfl, _, _, rfl, rfl, _, _, rfl, ?_⟩⟩
              have mb : Same Ha (upd Ha mi (.lst (as.map V.int))) := Same.new hmi
              have hmib : (upd Ha mi (.lst (as.map V.int))) mi = some (.lst (as.map V.int)) := upd_same
              generalize upd Ha mi (.lst (as.map V.int)) = Hb at mb hmib
              have sb : Same H9 Hb := sa.trans mb
              have hDb := mb _ _ hDa
              have hmi9 : H9 mi = none := sa.free hmi
              obtain ⟨dx, o, rr, xs, ys, p9⟩ := ph9
              have pb := p9.mono sb
              refine ⟨_, rfl, x, dx, _, rfl, pb.hx, fp_no1 o rr t, _, rfl, x, mi, dx, o, rr, xs, ys, os, rows, t, as, rfl, pb, g, hW9.rowsIn g, hmib, hAbs, fun c b ccs zs Hc bc hc0 hcc hCc ncc phc hb0 ncb ncz hzn => ?_⟩
              have klb : KL Hb Hc := KL.but pb.hx bc
              have nxd : d ≠ x := fun z => by
                have := p9.hx
                rw [← z, hd9] at this
                cases this
              have hdc : Hc d = some (.dK kvs) := bc _ _ nxd (sb _ _ hd9)
              refine ⟨_, rfl, _, rfl, _, rfl, ob, d, D2, rs.map V.ref, kvs, os, rows, as, rfl, klb _ _ (sb _ _ hob9), RL.kl (hLo9.mono sb).ol klb, g, hdc, (hD9.mono (KL.of sb)).mono klb, hW9, klb _ _ hDb, fun tt ts kvs' Hd bd htt0 htt hCt hdd hDd ntt hval => ⟨_, _, rfl, ?_⟩⟩
              have kld : KL Hc Hd := fun b' xs' e => bd b' _ (fun z => by rw [z, hdc] at e; cases e) e
              have hcd := kld _ _ hcc
              have hCd : CL Hd ccs (nextM os rows as).1 := hCc.but fun b' xs' e => bd b' _ (fun z => by rw [z, hdc] at e; cases e) e
              have hmid := kld _ _ (klb _ _ hmib)
              have hD2d := kld _ _ (klb _ _ hDb)
              refine ⟨_, rfl, _, rfl, _, _, dp_calls hcd hCd, dp_calls htt hCt, shaped_calls _, shaped_calls _, _, rfl, ?_⟩
              rw [eqv_calls]
              refine iteF ⟨_, rfl, _, rfl, _, _, dp_ints (SqL.of hmid), dp_ints (SqL.of hD2d), shaped_ints _, shaped_ints _, _, rfl, ?_⟩
              rw [eqv_self]
              refine iteF ⟨_, rfl, .ref c, .ty "list", _, true, rfl, .lst hcd, (fun u hu => kitL hu), true, rfl, iteF ?_⟩
              refine ⟨_, rfl, .inl ⟨rfl, _, SqL.of hcd⟩, Nat.zero_le _, fun e he => ?_⟩
              have me : Same Hd (upd Hd e (.tup [])) := Same.new he
              generalize upd Hd e (.tup []) = He at me
              have hccl : ccs.length ≤ 100 := by
                have h1 := (foldP_len (os := os) (rows := rows) (as := as) (idxs hasC rows) ([], rows)).2
                have h2 := idxs_len hasC rows
                have h3 := hCc.len
                have h4 := hW9.len
                have h5 : (nextM os rows as).1.length ≤ 0 + (idxs hasC rows).length := h1
                omega
              refine ⟨c, _, _, rfl, rfl, me _ _ hcd, ?_, ?_⟩
              · rw [List.length_map]
                exact small1000 (by omega)
              have hf1 : ∀ u, (upd He c (.lst (ccs.map V.ref ++ [.ref e]))) c = u → u = some (.lst (ccs.map V.ref ++ [.ref e])) := fun u h => by rw [← h, upd_same]
              have ncm : mi ≠ c := fun z => by rw [z, hc0] at hmib; cases hmib
              have hmie : (upd He c (.lst (ccs.map V.ref ++ [.ref e]))) mi = some (.lst (as.map V.int)) := by
                rw [upd_ne ncm]
                exact me _ _ hmid
              refine ⟨_, rfl, .inl ⟨rfl, _, SqL.of hmie⟩, mi, _, _, rfl, rfl, hmie, ?_, ?_⟩
              · rw [List.length_map]
                exact small1000 (by omega)
              have keep : ∀ (b' : Addr) (u : HO), b' ≠ c → b' ≠ mi → Hd b' = some u → (upd (upd He c (.lst (ccs.map V.ref ++ [.ref e]))) mi (.lst (as.map V.int ++ [.int 0]))) b' = some u := fun b' u n1 n2 h => by
                rw [upd_ne n2, upd_ne n1]
                exact me _ _ h
              generalize upd (upd He c (.lst (ccs.map V.ref ++ [.ref e]))) mi (.lst (as.map V.int ++ [.int 0])) = Hf at keep
              have kl9 : KL H9 Hf := fun b' xs' h => keep b' _ (ne_of_none (sb _ _ h) hc0) (ne_of_none h hmi9) (kld _ _ (klb _ _ (sb _ _ h)))
              have phf : Ph A.C_Phones Hf x os (nextM os rows as).2 (t + 1) := by
                refine ⟨dx, o, b, xs, zs, keep _ _ (ne_of_none pb.hx hc0) (ne_of_none p9.hx hmi9) (bd _ _ (Ne.symm nxd) phc.hx), kl9 _ _ p9.ho, RL.kl p9.hO kl9, keep _ _ (Ne.symm ncb) (Ne.symm (ne_of_none hmib hb0)) (kld _ _ phc.hr), ⟨phc.hR.len, fun p' v row hp hr' => ?_⟩⟩
                have q := phc.hR.at' p' v row hp hr'
                cases row with
                | none => exact q
                | some l =>
                  obtain ⟨r', e', q⟩ := q
                  have hm := List.mem_of_getElem? hp
                  rw [e'] at hm
                  exact ⟨r', e', keep _ _ (fun z => ncz (by rw [← z]; exact hm)) (Ne.symm (ne_of_none hmib (hzn r' hm))) (kld _ _ q)⟩
              have hdf : Hf d = some (.dK kvs') := keep _ _ (fun z => by rw [z, hcd] at hdd; cases hdd) (fun z => by rw [z, hmid] at hdd; cases hdd) hdd
              have hDf : DR Hf kvs' (nextM os rows as).2 := by
                refine ⟨hDd.nd, hDd.key, hDd.no, fun p' l hl => ?_⟩
                obtain ⟨r', h1, h2⟩ := hDd.yes p' l hl
                refine ⟨r', h1, ?_⟩
                obtain ⟨q, hq, e1⟩ := val_mem h1
                rcases hval q hq with ⟨q0, hq0, e0⟩ | ⟨r2, e2, h3⟩
                · obtain ⟨r3, l3, e3, h3⟩ := hD9.vals hq0
                  have e4 : r3 = r' := by
                    rw [e3, e1] at e0
                    injection e0
                  subst e4
                  exact keep _ _ (ne_of_none (sb _ _ h3) hc0) (ne_of_none h3 hmi9) h2
                · have e4 : r' = r2 := by
                    rw [e1] at e2
                    injection e2
                  subst e4
                  exact keep _ _ (Ne.symm (ne_of_none hcc h3)) (Ne.symm (ne_of_none (klb _ _ hmib) h3)) h2
              have hWf := (next_law (as := as) g hW9).1
              clear keep hf1 hmie me hccl hCd hD2d hmid hcd kld hval ntt hdd hDd hCt htt htt0 bd hdc klb hzn ncz ncb hb0 phc ncc hCc hcc hc0 bc pb hDb hmib mb s11 hDa
              refine ⟨_, rfl, _, _, rfl, rfl, (by show (0 : Int) < 5; decide), _, rfl, _, _, rfl, rfl, (by show (0 : Int) < 5; decide), rfl, _, rfl, ?_⟩
              refine ite2 (fun _ => ?_) (fun _ => iteF ?_)
              · refine ⟨_, rfl, _, rfl, _, rfl, _, rfl, x, d, kvs', os, _, _, rfl, phf, g, hWf.rowsIn g, hdf, hDf, fun Hg sg => ⟨true, rfl, iteF ?_⟩⟩
                exact ⟨_, _, _, _, _, _, _, kvs', _, t + 1, rfl, sg _ _ (kl9 _ _ hc9), sg _ _ (kl9 _ _ hob9), ⟨hLo9.1, fun p' r' l h1 h2 => sg _ _ (kl9 _ _ (hLo9.2 p' r' l h1 h2))⟩, phf.mono sg, sg _ _ hdf, hDf.mono (KL.of sg), hWf⟩
              · exact ⟨_, _, _, _, _, _, _, kvs', _, t + 1, rfl, kl9 _ _ hc9, kl9 _ _ hob9, ⟨hLo9.1, fun p' r' l h1 h2 => kl9 _ _ (hLo9.2 p' r' l h1 h2)⟩, phf, hdf, hDf, hWf⟩
          · rintro σ Hz ⟨x3, x11, x12, x13, x14, x15, x16, kvs, rows, t, rfl, hcz, hobz, hLoz, phz, hdz, hDz, hWz⟩
            refine ⟨_, rfl, _, rfl, _, rfl, _, rfl, x, d, kvs, os, rows, t, rfl, phz, g, hWz.rowsIn g, hdz, hDz, fun Hy sy => ⟨true, rfl, iteF ?_⟩⟩
            exact ⟨rfl, fun H' => k H'⟩
    obtain ⟨u2, hu2, rest2⟩ := tail2
    have tail : ∃ u, PSs (cxOf CX0 P w K mg base ["_law_script", "_law_cells", "_law_row", "_law_at", "_law_whole", "_law_orders_here", "_law_handed", "_law_people", "_law_phones", "_law_rows", "_law_gone", "_law_number_here", "_law_wide", "_law_absent", "_law_mine", "_law_found", "_law_due", "_law_one"] "law" (defScope s_law) A.f_law cdv A' outer s H E).nox ((defBody s_law).drop 1) u ∧ ∀ (cl : Addr) (cs : List Int) (H1 : Hp), Same H H1 → H cl = none → H1 cl = some (.lst (cs.map V.int)) → 0 < cs.length → cs.length ≤ 63 →
        u { nx := fun _ H' => Q .non H', rt := Q } [some (.ref a), some (.ref cl), none, none, none, none, none, none, none, none, none, none, none, none, none, none, none, none] H1 := by
      refine ⟨_, pss_cons (ps_par (i := 4) (j := 5) (by rfl) sc_law.nd rfl rfl (by decide) rfl rfl (@pa_cons _ _ _ _ _ (pe_callB (cr_sumK K rfl) (by rfl) T.n_sum (by decide +kernel) (@pa_cons _ _ _ _ _ (pv 1) pa_nil (by rfl))) (@pa_cons _ _ _ _ _ (pe_call G_law_orders (hr.mono (by decide)) (by rfl) T.m_law_orders T.k_law_orders T.b_law_orders .nil pass0 (@pa_cons _ _ _ _ _ (pv 0) (@pa_cons _ _ _ _ _ pe_int (@pa_cons _ _ _ _ _ (pe_ifExp (pt_cmpR op_eq (pe_op op_mod (pe_callB (cr_sumK K rfl) (by rfl) T.n_sum (by decide +kernel) (@pa_cons _ _ _ _ _ (pv 1) pa_nil (by rfl))) pe_int) pe_int (nomark _)) pe_int pe_int) pa_nil (by rfl)) (by rfl)) (by rfl))) pa_nil (by rfl)) (by rfl)) (by rfl)) hu2, ?_⟩
      intro cl cs H1 s1 hcn hc1 hc0 hc63
      refine ⟨_, rfl, cl, cs, rfl, SqL.of hc1, _, rfl, _, rfl, cl, cs, rfl, SqL.of hc1, _, _, rfl, rfl, (by show (0 : Int) < 4; decide), rfl, _, rfl, ?_⟩
      refine ite2 (fun _ => ?_) (fun _ => ?_)
      · refine ⟨a, ns, 0, 40, rfl, s1.seq hS, hlen, by decide, by decide, by decide, by decide, fun ob rs os H2 s2 _ hob hL _ _ _ g _ => ⟨_, _, rfl, ?_⟩⟩
        exact rest2 cl ob cs _ rs os H2 (s2 _ _ hc1) hc0 hc63 hob hL g
      · refine ⟨a, ns, 0, 12, rfl, s1.seq hS, hlen, by decide, by decide, by decide, by decide, fun ob rs os H2 s2 _ hob hL _ _ _ g _ => ⟨_, _, rfl, ?_⟩⟩
        exact rest2 cl ob cs _ rs os H2 (s2 _ _ hc1) hc0 hc63 hob hL g
    obtain ⟨u, hu, rest⟩ := tail
    refine ⟨_, pss_cons (ps_set (i := 1) sc_law.nd rfl (Or.inl rfl) (pe_ifExp (pt_cmpR (op_neDK K hr.units) (pv 0) (@pe_lst _ _ _ _ pa_nil) (nomark _)) (pe_slice (sl_listK K) (pv 0) po_none (po_some pe_int)) (@pe_lst _ _ _ _ (@pa_cons _ _ _ _ _ pe_int pa_nil (by rfl))))) hu, ?_⟩
    refine ⟨_, rfl, Nat.zero_le _, fun e he => ⟨.list (ns.map PyData.int), .list [], dp_ints ((Same.new he).seq hS), .lst (SqL.of upd_same) .nil, shaped_ints ns, shaped_ints [], _, rfl, ?_⟩⟩
    rw [eqv_nil]
    by_cases hn : ns = []
    · rw [decide_eq_true hn]
      refine iteF ?_
      refine ⟨(by show 1 ≤ sizeLine; decide), fun cl hcl => ?_⟩
      exact rest cl [5] _ ((Same.new he).upd ((Same.new he).free hcl)) ((Same.new he).free hcl) upd_same (by decide) (by decide)
    · rw [decide_eq_false hn]
      refine iteT ?_
      refine ⟨_, rfl, _, rfl, a, ns.map V.int, rfl, (Same.new he).seq hS, fun cl hcl => ?_⟩
      rw [cut63 hlen]
      exact rest cl ns _ ((Same.new he).upd ((Same.new he).free hcl)) ((Same.new he).free hcl) upd_same (List.length_pos_iff.mpr hn) hlen
end
end Toy

namespace Toy
open PySem L2 PyProof.Rows
theorem all_mk {l : PySem.W.OpenLaw} {w : World} {K : PySem.W.Frag} {h : Heap} {mg : Str → Option Value} {fa : Addr}
    {t_MOST_PEOPLE : Tok}
    {f_is_number : Addr} {od_is_number an_is_number : Option Addr} {sl_is_number : Array (Option Value)} {oc_is_number kV_is_number dc_is_number pm_is_number cd_is_number ct_is_number : Value}
    {f_is_person : Addr} {od_is_person an_is_person : Option Addr} {sl_is_person : Array (Option Value)} {oc_is_person kV_is_person dc_is_person pm_is_person cd_is_person ct_is_person : Value}
    {f_is_orders : Addr} {od_is_orders an_is_orders : Option Addr} {sl_is_orders : Array (Option Value)} {oc_is_orders kV_is_orders dc_is_orders pm_is_orders cd_is_orders ct_is_orders : Value}
    {f_nobody_is_called_twice : Addr} {od_nobody_is_called_twice an_nobody_is_called_twice : Option Addr} {sl_nobody_is_called_twice : Array (Option Value)} {oc_nobody_is_called_twice kV_nobody_is_called_twice dc_nobody_is_called_twice pm_nobody_is_called_twice cd_nobody_is_called_twice ct_nobody_is_called_twice : Value}
    {f_all_are_come_to : Addr} {od_all_are_come_to an_all_are_come_to : Option Addr} {sl_all_are_come_to : Array (Option Value)} {oc_all_are_come_to kV_all_are_come_to dc_all_are_come_to pm_all_are_come_to cd_all_are_come_to ct_all_are_come_to : Value}
    {f_is_absent : Addr} {od_is_absent an_is_absent : Option Addr} {sl_is_absent : Array (Option Value)} {oc_is_absent kV_is_absent dc_is_absent pm_is_absent cd_is_absent ct_is_absent : Value}
    {f_copied : Addr} {od_copied an_copied : Option Addr} {sl_copied : Array (Option Value)} {oc_copied kV_copied dc_copied pm_copied cd_copied ct_copied : Value}
    {f_take_orders : Addr} {od_take_orders an_take_orders : Option Addr} {sl_take_orders : Array (Option Value)} {oc_take_orders kV_take_orders dc_take_orders pm_take_orders cd_take_orders ct_take_orders : Value}
    {f_take_absent : Addr} {od_take_absent an_take_absent : Option Addr} {sl_take_absent : Array (Option Value)} {oc_take_absent kV_take_absent dc_take_absent pm_take_absent cd_take_absent ct_take_absent : Value}
    {f_take_person : Addr} {od_take_person an_take_person : Option Addr} {sl_take_person : Array (Option Value)} {oc_take_person kV_take_person dc_take_person pm_take_person cd_take_person ct_take_person : Value}
    {f_first_rows : Addr} {od_first_rows an_first_rows : Option Addr} {sl_first_rows : Array (Option Value)} {oc_first_rows kV_first_rows dc_first_rows pm_first_rows cd_first_rows ct_first_rows : Value}
    {f_callers : Addr} {od_callers an_callers : Option Addr} {sl_callers : Array (Option Value)} {oc_callers kV_callers dc_callers pm_callers cd_callers ct_callers : Value}
    {f_next_round : Addr} {od_next_round an_next_round : Option Addr} {sl_next_round : Array (Option Value)} {oc_next_round kV_next_round dc_next_round pm_next_round cd_next_round ct_next_round : Value}
    {f_law_number : Addr} {od_law_number an_law_number : Option Addr} {sl_law_number : Array (Option Value)} {oc_law_number kV_law_number dc_law_number pm_law_number cd_law_number ct_law_number : Value}
    {f_law_ups : Addr} {od_law_ups an_law_ups : Option Addr} {sl_law_ups : Array (Option Value)} {oc_law_ups kV_law_ups dc_law_ups pm_law_ups cd_law_ups ct_law_ups : Value}
    {f_law_orders : Addr} {od_law_orders an_law_orders : Option Addr} {sl_law_orders : Array (Option Value)} {oc_law_orders kV_law_orders dc_law_orders pm_law_orders cd_law_orders ct_law_orders : Value}
    {f_law_turn : Addr} {od_law_turn an_law_turn : Option Addr} {sl_law_turn : Array (Option Value)} {oc_law_turn kV_law_turn dc_law_turn pm_law_turn cd_law_turn ct_law_turn : Value}
    {f_law_told : Addr} {od_law_told an_law_told : Option Addr} {sl_law_told : Array (Option Value)} {oc_law_told kV_law_told dc_law_told pm_law_told cd_law_told ct_law_told : Value}
    {f_law_two_right : Addr} {od_law_two_right an_law_two_right : Option Addr} {sl_law_two_right : Array (Option Value)} {oc_law_two_right kV_law_two_right dc_law_two_right pm_law_two_right cd_law_two_right ct_law_two_right : Value}
    {f_law : Addr} {od_law an_law : Option Addr} {sl_law : Array (Option Value)} {oc_law kV_law dc_law pm_law cd_law ct_law : Value}
    {C_Phones : Addr}
    {f_Phones_init : Addr} {od_Phones_init an_Phones_init : Option Addr} {sl_Phones_init : Array (Option Value)} {oc_Phones_init kV_Phones_init dc_Phones_init pm_Phones_init cd_Phones_init ct_Phones_init : Value}
    {f_Phones_pass_round : Addr} {od_Phones_pass_round an_Phones_pass_round : Option Addr} {sl_Phones_pass_round : Array (Option Value)} {oc_Phones_pass_round kV_Phones_pass_round dc_Phones_pass_round pm_Phones_pass_round cd_Phones_pass_round ct_Phones_pass_round : Value}
    {f_Phones_gone : Addr} {od_Phones_gone an_Phones_gone : Option Addr} {sl_Phones_gone : Array (Option Value)} {oc_Phones_gone kV_Phones_gone dc_Phones_gone pm_Phones_gone cd_Phones_gone ct_Phones_gone : Value}
    {f_Phones_knowing : Addr} {od_Phones_knowing an_Phones_knowing : Option Addr} {sl_Phones_knowing : Array (Option Value)} {oc_Phones_knowing kV_Phones_knowing dc_Phones_knowing pm_Phones_knowing cd_Phones_knowing ct_Phones_knowing : Value}
    {f_Phones_row : Addr} {od_Phones_row an_Phones_row : Option Addr} {sl_Phones_row : Array (Option Value)} {oc_Phones_row kV_Phones_row dc_Phones_row pm_Phones_row cd_Phones_row ct_Phones_row : Value}
    {f_Phones_is_done : Addr} {od_Phones_is_done an_Phones_is_done : Option Addr} {sl_Phones_is_done : Array (Option Value)} {oc_Phones_is_done kV_Phones_is_done dc_Phones_is_done pm_Phones_is_done cd_Phones_is_done ct_Phones_is_done : Value}
    (X : K.In h) (G : h.Ns mainGlobals mg) (hfa : mg "law" = some (.ref fa))
    (z_all : PySem.W.nsIn K mainGlobals "all" = some none)
    (z_bool : PySem.W.nsIn K mainGlobals "bool" = some none)
    (z_enumerate : PySem.W.nsIn K mainGlobals "enumerate" = some none)
    (z_int : PySem.W.nsIn K mainGlobals "int" = some none)
    (z_isinstance : PySem.W.nsIn K mainGlobals "isinstance" = some none)
    (z_len : PySem.W.nsIn K mainGlobals "len" = some none)
    (z_list : PySem.W.nsIn K mainGlobals "list" = some none)
    (z_min : PySem.W.nsIn K mainGlobals "min" = some none)
    (z_range : PySem.W.nsIn K mainGlobals "range" = some none)
    (z_set : PySem.W.nsIn K mainGlobals "set" = some none)
    (z_sorted : PySem.W.nsIn K mainGlobals "sorted" = some none)
    (z_sum : PySem.W.nsIn K mainGlobals "sum" = some none)
    (g_MOST_PEOPLE : PySem.W.nsIn K mainGlobals "MOST_PEOPLE" = some (some (.int 40 t_MOST_PEOPLE)))
    (a_is_number : PySem.W.nsIn K mainGlobals "is_number" = some (some (.ref f_is_number)))
    (l_is_number : K.lookup f_is_number = some ⟨oc_is_number, od_is_number, .func (PySem.W.fnOf "is_number" "is_number" (defArgs s_is_number) (defBody s_is_number) (defScope s_is_number) .none kV_is_number dc_is_number pm_is_number an_is_number cd_is_number ct_is_number), sl_is_number⟩)
    (cc_is_number : PySem.W.codeIn K cd_is_number "is_number" = true)
    (k_is_number : PySem.W.keepIn K (.ref f_is_number) = true)
    (a_is_person : PySem.W.nsIn K mainGlobals "is_person" = some (some (.ref f_is_person)))
    (l_is_person : K.lookup f_is_person = some ⟨oc_is_person, od_is_person, .func (PySem.W.fnOf "is_person" "is_person" (defArgs s_is_person) (defBody s_is_person) (defScope s_is_person) .none kV_is_person dc_is_person pm_is_person an_is_person cd_is_person ct_is_person), sl_is_person⟩)
    (cc_is_person : PySem.W.codeIn K cd_is_person "is_person" = true)
    (k_is_person : PySem.W.keepIn K (.ref f_is_person) = true)
    (a_is_orders : PySem.W.nsIn K mainGlobals "is_orders" = some (some (.ref f_is_orders)))
    (l_is_orders : K.lookup f_is_orders = some ⟨oc_is_orders, od_is_orders, .func (PySem.W.fnOf "is_orders" "is_orders" (defArgs s_is_orders) (defBody s_is_orders) (defScope s_is_orders) .none kV_is_orders dc_is_orders pm_is_orders an_is_orders cd_is_orders ct_is_orders), sl_is_orders⟩)
    (cc_is_orders : PySem.W.codeIn K cd_is_orders "is_orders" = true)
    (k_is_orders : PySem.W.keepIn K (.ref f_is_orders) = true)
    (a_nobody_is_called_twice : PySem.W.nsIn K mainGlobals "nobody_is_called_twice" = some (some (.ref f_nobody_is_called_twice)))
    (l_nobody_is_called_twice : K.lookup f_nobody_is_called_twice = some ⟨oc_nobody_is_called_twice, od_nobody_is_called_twice, .func (PySem.W.fnOf "nobody_is_called_twice" "nobody_is_called_twice" (defArgs s_nobody_is_called_twice) (defBody s_nobody_is_called_twice) (defScope s_nobody_is_called_twice) .none kV_nobody_is_called_twice dc_nobody_is_called_twice pm_nobody_is_called_twice an_nobody_is_called_twice cd_nobody_is_called_twice ct_nobody_is_called_twice), sl_nobody_is_called_twice⟩)
    (cc_nobody_is_called_twice : PySem.W.codeIn K cd_nobody_is_called_twice "nobody_is_called_twice" = true)
    (k_nobody_is_called_twice : PySem.W.keepIn K (.ref f_nobody_is_called_twice) = true)
    (a_all_are_come_to : PySem.W.nsIn K mainGlobals "all_are_come_to" = some (some (.ref f_all_are_come_to)))
    (l_all_are_come_to : K.lookup f_all_are_come_to = some ⟨oc_all_are_come_to, od_all_are_come_to, .func (PySem.W.fnOf "all_are_come_to" "all_are_come_to" (defArgs s_all_are_come_to) (defBody s_all_are_come_to) (defScope s_all_are_come_to) .none kV_all_are_come_to dc_all_are_come_to pm_all_are_come_to an_all_are_come_to cd_all_are_come_to ct_all_are_come_to), sl_all_are_come_to⟩)
    (cc_all_are_come_to : PySem.W.codeIn K cd_all_are_come_to "all_are_come_to" = true)
    (k_all_are_come_to : PySem.W.keepIn K (.ref f_all_are_come_to) = true)
    (a_is_absent : PySem.W.nsIn K mainGlobals "is_absent" = some (some (.ref f_is_absent)))
    (l_is_absent : K.lookup f_is_absent = some ⟨oc_is_absent, od_is_absent, .func (PySem.W.fnOf "is_absent" "is_absent" (defArgs s_is_absent) (defBody s_is_absent) (defScope s_is_absent) .none kV_is_absent dc_is_absent pm_is_absent an_is_absent cd_is_absent ct_is_absent), sl_is_absent⟩)
    (cc_is_absent : PySem.W.codeIn K cd_is_absent "is_absent" = true)
    (k_is_absent : PySem.W.keepIn K (.ref f_is_absent) = true)
    (a_copied : PySem.W.nsIn K mainGlobals "copied" = some (some (.ref f_copied)))
    (l_copied : K.lookup f_copied = some ⟨oc_copied, od_copied, .func (PySem.W.fnOf "copied" "copied" (defArgs s_copied) (defBody s_copied) (defScope s_copied) .none kV_copied dc_copied pm_copied an_copied cd_copied ct_copied), sl_copied⟩)
    (cc_copied : PySem.W.codeIn K cd_copied "copied" = true)
    (k_copied : PySem.W.keepIn K (.ref f_copied) = true)
    (a_take_orders : PySem.W.nsIn K mainGlobals "take_orders" = some (some (.ref f_take_orders)))
    (l_take_orders : K.lookup f_take_orders = some ⟨oc_take_orders, od_take_orders, .func (PySem.W.fnOf "take_orders" "take_orders" (defArgs s_take_orders) (defBody s_take_orders) (defScope s_take_orders) .none kV_take_orders dc_take_orders pm_take_orders an_take_orders cd_take_orders ct_take_orders), sl_take_orders⟩)
    (cc_take_orders : PySem.W.codeIn K cd_take_orders "take_orders" = true)
    (k_take_orders : PySem.W.keepIn K (.ref f_take_orders) = true)
    (a_take_absent : PySem.W.nsIn K mainGlobals "take_absent" = some (some (.ref f_take_absent)))
    (l_take_absent : K.lookup f_take_absent = some ⟨oc_take_absent, od_take_absent, .func (PySem.W.fnOf "take_absent" "take_absent" (defArgs s_take_absent) (defBody s_take_absent) (defScope s_take_absent) .none kV_take_absent dc_take_absent pm_take_absent an_take_absent cd_take_absent ct_take_absent), sl_take_absent⟩)
    (cc_take_absent : PySem.W.codeIn K cd_take_absent "take_absent" = true)
    (k_take_absent : PySem.W.keepIn K (.ref f_take_absent) = true)
    (a_take_person : PySem.W.nsIn K mainGlobals "take_person" = some (some (.ref f_take_person)))
    (l_take_person : K.lookup f_take_person = some ⟨oc_take_person, od_take_person, .func (PySem.W.fnOf "take_person" "take_person" (defArgs s_take_person) (defBody s_take_person) (defScope s_take_person) .none kV_take_person dc_take_person pm_take_person an_take_person cd_take_person ct_take_person), sl_take_person⟩)
    (cc_take_person : PySem.W.codeIn K cd_take_person "take_person" = true)
    (k_take_person : PySem.W.keepIn K (.ref f_take_person) = true)
    (a_first_rows : PySem.W.nsIn K mainGlobals "first_rows" = some (some (.ref f_first_rows)))
    (l_first_rows : K.lookup f_first_rows = some ⟨oc_first_rows, od_first_rows, .func (PySem.W.fnOf "first_rows" "first_rows" (defArgs s_first_rows) (defBody s_first_rows) (defScope s_first_rows) .none kV_first_rows dc_first_rows pm_first_rows an_first_rows cd_first_rows ct_first_rows), sl_first_rows⟩)
    (cc_first_rows : PySem.W.codeIn K cd_first_rows "first_rows" = true)
    (k_first_rows : PySem.W.keepIn K (.ref f_first_rows) = true)
    (a_callers : PySem.W.nsIn K mainGlobals "callers" = some (some (.ref f_callers)))
    (l_callers : K.lookup f_callers = some ⟨oc_callers, od_callers, .func (PySem.W.fnOf "callers" "callers" (defArgs s_callers) (defBody s_callers) (defScope s_callers) .none kV_callers dc_callers pm_callers an_callers cd_callers ct_callers), sl_callers⟩)
    (cc_callers : PySem.W.codeIn K cd_callers "callers" = true)
    (k_callers : PySem.W.keepIn K (.ref f_callers) = true)
    (a_next_round : PySem.W.nsIn K mainGlobals "next_round" = some (some (.ref f_next_round)))
    (l_next_round : K.lookup f_next_round = some ⟨oc_next_round, od_next_round, .func (PySem.W.fnOf "next_round" "next_round" (defArgs s_next_round) (defBody s_next_round) (defScope s_next_round) .none kV_next_round dc_next_round pm_next_round an_next_round cd_next_round ct_next_round), sl_next_round⟩)
    (cc_next_round : PySem.W.codeIn K cd_next_round "next_round" = true)
    (k_next_round : PySem.W.keepIn K (.ref f_next_round) = true)
    (a_law_number : PySem.W.nsIn K mainGlobals "_law_number" = some (some (.ref f_law_number)))
    (l_law_number : K.lookup f_law_number = some ⟨oc_law_number, od_law_number, .func (PySem.W.fnOf "_law_number" "_law_number" (defArgs s_law_number) (defBody s_law_number) (defScope s_law_number) .none kV_law_number dc_law_number pm_law_number an_law_number cd_law_number ct_law_number), sl_law_number⟩)
    (cc_law_number : PySem.W.codeIn K cd_law_number "_law_number" = true)
    (k_law_number : PySem.W.keepIn K (.ref f_law_number) = true)
    (a_law_ups : PySem.W.nsIn K mainGlobals "_law_ups" = some (some (.ref f_law_ups)))
    (l_law_ups : K.lookup f_law_ups = some ⟨oc_law_ups, od_law_ups, .func (PySem.W.fnOf "_law_ups" "_law_ups" (defArgs s_law_ups) (defBody s_law_ups) (defScope s_law_ups) .none kV_law_ups dc_law_ups pm_law_ups an_law_ups cd_law_ups ct_law_ups), sl_law_ups⟩)
    (cc_law_ups : PySem.W.codeIn K cd_law_ups "_law_ups" = true)
    (k_law_ups : PySem.W.keepIn K (.ref f_law_ups) = true)
    (a_law_orders : PySem.W.nsIn K mainGlobals "_law_orders" = some (some (.ref f_law_orders)))
    (l_law_orders : K.lookup f_law_orders = some ⟨oc_law_orders, od_law_orders, .func (PySem.W.fnOf "_law_orders" "_law_orders" (defArgs s_law_orders) (defBody s_law_orders) (defScope s_law_orders) .none kV_law_orders dc_law_orders pm_law_orders an_law_orders cd_law_orders ct_law_orders), sl_law_orders⟩)
    (cc_law_orders : PySem.W.codeIn K cd_law_orders "_law_orders" = true)
    (k_law_orders : PySem.W.keepIn K (.ref f_law_orders) = true)
    (a_law_turn : PySem.W.nsIn K mainGlobals "_law_turn" = some (some (.ref f_law_turn)))
    (l_law_turn : K.lookup f_law_turn = some ⟨oc_law_turn, od_law_turn, .func (PySem.W.fnOf "_law_turn" "_law_turn" (defArgs s_law_turn) (defBody s_law_turn) (defScope s_law_turn) .none kV_law_turn dc_law_turn pm_law_turn an_law_turn cd_law_turn ct_law_turn), sl_law_turn⟩)
    (cc_law_turn : PySem.W.codeIn K cd_law_turn "_law_turn" = true)
    (k_law_turn : PySem.W.keepIn K (.ref f_law_turn) = true)
    (a_law_told : PySem.W.nsIn K mainGlobals "_law_told" = some (some (.ref f_law_told)))
    (l_law_told : K.lookup f_law_told = some ⟨oc_law_told, od_law_told, .func (PySem.W.fnOf "_law_told" "_law_told" (defArgs s_law_told) (defBody s_law_told) (defScope s_law_told) .none kV_law_told dc_law_told pm_law_told an_law_told cd_law_told ct_law_told), sl_law_told⟩)
    (cc_law_told : PySem.W.codeIn K cd_law_told "_law_told" = true)
    (k_law_told : PySem.W.keepIn K (.ref f_law_told) = true)
    (a_law_two_right : PySem.W.nsIn K mainGlobals "_law_two_right" = some (some (.ref f_law_two_right)))
    (l_law_two_right : K.lookup f_law_two_right = some ⟨oc_law_two_right, od_law_two_right, .func (PySem.W.fnOf "_law_two_right" "_law_two_right" (defArgs s_law_two_right) (defBody s_law_two_right) (defScope s_law_two_right) .none kV_law_two_right dc_law_two_right pm_law_two_right an_law_two_right cd_law_two_right ct_law_two_right), sl_law_two_right⟩)
    (cc_law_two_right : PySem.W.codeIn K cd_law_two_right "_law_two_right" = true)
    (k_law_two_right : PySem.W.keepIn K (.ref f_law_two_right) = true)
    (a_law : PySem.W.nsIn K mainGlobals "law" = some (some (.ref f_law)))
    (l_law : K.lookup f_law = some ⟨oc_law, od_law, .func (PySem.W.fnOf "law" "law" (defArgs s_law) (defBody s_law) (defScope s_law) .none kV_law dc_law pm_law an_law cd_law ct_law), sl_law⟩)
    (cc_law : PySem.W.codeIn K cd_law "law" = true)
    (k_law : PySem.W.keepIn K (.ref f_law) = true)
    (aC_Phones : PySem.W.nsIn K mainGlobals "Phones" = some (some (.ref C_Phones)))
    (a_Phones_init : PySem.W.findIn K (.ref C_Phones) "__init__" = some (some (.ref f_Phones_init)))
    (i_Phones_init : PySem.W.isFn K (.ref f_Phones_init) = true)
    (l_Phones_init : K.lookup f_Phones_init = some ⟨oc_Phones_init, od_Phones_init, .func (PySem.W.fnOf "__init__" "Phones.__init__" (defArgs s_Phones_init) (defBody s_Phones_init) (defScope s_Phones_init) .none kV_Phones_init dc_Phones_init pm_Phones_init an_Phones_init cd_Phones_init ct_Phones_init), sl_Phones_init⟩)
    (cc_Phones_init : PySem.W.codeIn K cd_Phones_init "Phones.__init__" = true)
    (k_Phones_init : PySem.W.keepIn K (.ref f_Phones_init) = true)
    (a_Phones_pass_round : PySem.W.findIn K (.ref C_Phones) "pass_round" = some (some (.ref f_Phones_pass_round)))
    (i_Phones_pass_round : PySem.W.isFn K (.ref f_Phones_pass_round) = true)
    (l_Phones_pass_round : K.lookup f_Phones_pass_round = some ⟨oc_Phones_pass_round, od_Phones_pass_round, .func (PySem.W.fnOf "pass_round" "Phones.pass_round" (defArgs s_Phones_pass_round) (defBody s_Phones_pass_round) (defScope s_Phones_pass_round) .none kV_Phones_pass_round dc_Phones_pass_round pm_Phones_pass_round an_Phones_pass_round cd_Phones_pass_round ct_Phones_pass_round), sl_Phones_pass_round⟩)
    (cc_Phones_pass_round : PySem.W.codeIn K cd_Phones_pass_round "Phones.pass_round" = true)
    (k_Phones_pass_round : PySem.W.keepIn K (.ref f_Phones_pass_round) = true)
    (a_Phones_gone : PySem.W.findIn K (.ref C_Phones) "gone" = some (some (.ref f_Phones_gone)))
    (i_Phones_gone : PySem.W.isFn K (.ref f_Phones_gone) = true)
    (l_Phones_gone : K.lookup f_Phones_gone = some ⟨oc_Phones_gone, od_Phones_gone, .func (PySem.W.fnOf "gone" "Phones.gone" (defArgs s_Phones_gone) (defBody s_Phones_gone) (defScope s_Phones_gone) .none kV_Phones_gone dc_Phones_gone pm_Phones_gone an_Phones_gone cd_Phones_gone ct_Phones_gone), sl_Phones_gone⟩)
    (cc_Phones_gone : PySem.W.codeIn K cd_Phones_gone "Phones.gone" = true)
    (k_Phones_gone : PySem.W.keepIn K (.ref f_Phones_gone) = true)
    (a_Phones_knowing : PySem.W.findIn K (.ref C_Phones) "knowing" = some (some (.ref f_Phones_knowing)))
    (i_Phones_knowing : PySem.W.isFn K (.ref f_Phones_knowing) = true)
    (l_Phones_knowing : K.lookup f_Phones_knowing = some ⟨oc_Phones_knowing, od_Phones_knowing, .func (PySem.W.fnOf "knowing" "Phones.knowing" (defArgs s_Phones_knowing) (defBody s_Phones_knowing) (defScope s_Phones_knowing) .none kV_Phones_knowing dc_Phones_knowing pm_Phones_knowing an_Phones_knowing cd_Phones_knowing ct_Phones_knowing), sl_Phones_knowing⟩)
    (cc_Phones_knowing : PySem.W.codeIn K cd_Phones_knowing "Phones.knowing" = true)
    (k_Phones_knowing : PySem.W.keepIn K (.ref f_Phones_knowing) = true)
    (a_Phones_row : PySem.W.findIn K (.ref C_Phones) "row" = some (some (.ref f_Phones_row)))
    (i_Phones_row : PySem.W.isFn K (.ref f_Phones_row) = true)
    (l_Phones_row : K.lookup f_Phones_row = some ⟨oc_Phones_row, od_Phones_row, .func (PySem.W.fnOf "row" "Phones.row" (defArgs s_Phones_row) (defBody s_Phones_row) (defScope s_Phones_row) .none kV_Phones_row dc_Phones_row pm_Phones_row an_Phones_row cd_Phones_row ct_Phones_row), sl_Phones_row⟩)
    (cc_Phones_row : PySem.W.codeIn K cd_Phones_row "Phones.row" = true)
    (k_Phones_row : PySem.W.keepIn K (.ref f_Phones_row) = true)
    (a_Phones_is_done : PySem.W.findIn K (.ref C_Phones) "is_done" = some (some (.ref f_Phones_is_done)))
    (i_Phones_is_done : PySem.W.isFn K (.ref f_Phones_is_done) = true)
    (l_Phones_is_done : K.lookup f_Phones_is_done = some ⟨oc_Phones_is_done, od_Phones_is_done, .func (PySem.W.fnOf "is_done" "Phones.is_done" (defArgs s_Phones_is_done) (defBody s_Phones_is_done) (defScope s_Phones_is_done) .none kV_Phones_is_done dc_Phones_is_done pm_Phones_is_done an_Phones_is_done cd_Phones_is_done ct_Phones_is_done), sl_Phones_is_done⟩)
    (cc_Phones_is_done : PySem.W.codeIn K cd_Phones_is_done "Phones.is_done" = true)
    (k_Phones_is_done : PySem.W.keepIn K (.ref f_Phones_is_done) = true)
    (pg_Phones : PySem.W.plainGet K C_Phones Str.empty = true)
    (hd_Phones : PySem.W.hasDictIn K C_Phones = true)
    (po_Phones : PySem.W.plainOver K C_Phones = true)
    (sa_Phones : PySem.W.findIn K (.ref C_Phones) "__setattr__" = some (some (.builtin "object.__setattr__")))
    (mk_Phones : PySem.W.makesIn K C_Phones = true)
    (kc_Phones : PySem.W.keepIn K (.ref C_Phones) = true)
    (na_Phones_orders : PySem.W.findIn K (.ref C_Phones) "orders" = some none)
    (na_Phones_rows : PySem.W.findIn K (.ref C_Phones) "rows" = some none)
    (na_Phones_turns : PySem.W.findIn K (.ref C_Phones) "turns" = some none)
    : ∃ fd : FuncData, (∀ (s : Shared) (u : Value), BindsTo s fd ⟨[u], []⟩ [("_law_script", u)]) ∧ ∀ base : Heap, K.In base → base.Ns mainGlobals mg → FnOk l.prog w K mg base CX0 9 fa fd ["_law_script"] (spLaw K) := by
  have e := hfa.symm.trans (PySem.W.mg_of X G a_law)
  cases e
  have F_is_number := fun_mk (st := s_is_number) l_is_number cc_is_number k_is_number
  have B_is_number := F_is_number.binds (ps := ["thing"]) fun _ _ _ _ _ _ us hl => match us, hl with | [_], _ => rfl
  have F_is_person := fun_mk (st := s_is_person) l_is_person cc_is_person k_is_person
  have B_is_person := F_is_person.binds (ps := ["thing", "people"]) fun _ _ _ _ _ _ us hl => match us, hl with | [_, _], _ => rfl
  have F_is_orders := fun_mk (st := s_is_orders) l_is_orders cc_is_orders k_is_orders
  have B_is_orders := F_is_orders.binds (ps := ["orders"]) fun _ _ _ _ _ _ us hl => match us, hl with | [_], _ => rfl
  have F_nobody_is_called_twice := fun_mk (st := s_nobody_is_called_twice) l_nobody_is_called_twice cc_nobody_is_called_twice k_nobody_is_called_twice
  have B_nobody_is_called_twice := F_nobody_is_called_twice.binds (ps := ["orders"]) fun _ _ _ _ _ _ us hl => match us, hl with | [_], _ => rfl
  have F_all_are_come_to := fun_mk (st := s_all_are_come_to) l_all_are_come_to cc_all_are_come_to k_all_are_come_to
  have B_all_are_come_to := F_all_are_come_to.binds (ps := ["orders"]) fun _ _ _ _ _ _ us hl => match us, hl with | [_], _ => rfl
  have F_is_absent := fun_mk (st := s_is_absent) l_is_absent cc_is_absent k_is_absent
  have B_is_absent := F_is_absent.binds (ps := ["absent", "people"]) fun _ _ _ _ _ _ us hl => match us, hl with | [_, _], _ => rfl
  have F_copied := fun_mk (st := s_copied) l_copied cc_copied k_copied
  have B_copied := F_copied.binds (ps := ["thing"]) fun _ _ _ _ _ _ us hl => match us, hl with | [_], _ => rfl
  have F_take_orders := fun_mk (st := s_take_orders) l_take_orders cc_take_orders k_take_orders
  have B_take_orders := F_take_orders.binds (ps := ["orders"]) fun _ _ _ _ _ _ us hl => match us, hl with | [_], _ => rfl
  have F_take_absent := fun_mk (st := s_take_absent) l_take_absent cc_take_absent k_take_absent
  have B_take_absent := F_take_absent.binds (ps := ["absent", "people"]) fun _ _ _ _ _ _ us hl => match us, hl with | [_, _], _ => rfl
  have F_take_person := fun_mk (st := s_take_person) l_take_person cc_take_person k_take_person
  have B_take_person := F_take_person.binds (ps := ["person", "people"]) fun _ _ _ _ _ _ us hl => match us, hl with | [_, _], _ => rfl
  have F_first_rows := fun_mk (st := s_first_rows) l_first_rows cc_first_rows k_first_rows
  have B_first_rows := F_first_rows.binds (ps := ["orders"]) fun _ _ _ _ _ _ us hl => match us, hl with | [_], _ => rfl
  have F_callers := fun_mk (st := s_callers) l_callers cc_callers k_callers
  have B_callers := F_callers.binds (ps := ["rows"]) fun _ _ _ _ _ _ us hl => match us, hl with | [_], _ => rfl
  have F_next_round := fun_mk (st := s_next_round) l_next_round cc_next_round k_next_round
  have B_next_round := F_next_round.binds (ps := ["orders", "rows", "absent"]) fun _ _ _ _ _ _ us hl => match us, hl with | [_, _, _], _ => rfl
  have F_law_number := fun_mk (st := s_law_number) l_law_number cc_law_number k_law_number
  have B_law_number := F_law_number.binds (ps := ["_law_cell", "_law_at", "_law_whole"]) fun _ _ _ _ _ _ us hl => match us, hl with | [_, _, _], _ => rfl
  have F_law_ups := fun_mk (st := s_law_ups) l_law_ups cc_law_ups k_law_ups
  have B_law_ups := F_law_ups.binds (ps := ["_law_script", "_law_by", "_law_most"]) fun _ _ _ _ _ _ us hl => match us, hl with | [_, _, _], _ => rfl
  have F_law_orders := fun_mk (st := s_law_orders) l_law_orders cc_law_orders k_law_orders
  have B_law_orders := F_law_orders.binds (ps := ["_law_script", "_law_by", "_law_most"]) fun _ _ _ _ _ _ us hl => match us, hl with | [_, _, _], _ => rfl
  have F_law_turn := fun_mk (st := s_law_turn) l_law_turn cc_law_turn k_law_turn
  have B_law_turn := F_law_turn.binds (ps := ["_law_orders_here", "_law_rows", "_law_absent"]) fun _ _ _ _ _ _ us hl => match us, hl with | [_, _, _], _ => rfl
  have F_law_told := fun_mk (st := s_law_told) l_law_told cc_law_told k_law_told
  have B_law_told := F_law_told.binds (ps := ["_law_phones", "_law_rows", "_law_people", "_law_gone"]) fun _ _ _ _ _ _ us hl => match us, hl with | [_, _, _, _], _ => rfl
  have F_law_two_right := fun_mk (st := s_law_two_right) l_law_two_right cc_law_two_right k_law_two_right
  have B_law_two_right := F_law_two_right.binds (ps := []) fun _ _ _ _ _ _ us hl => match us, hl with | [], _ => rfl
  have F_law := fun_mk (st := s_law) l_law cc_law k_law
  have B_law := F_law.binds (ps := ["_law_script"]) fun _ _ _ _ _ _ us hl => match us, hl with | [_], _ => rfl
  have F_Phones_init := fun_mk (st := s_Phones_init) l_Phones_init cc_Phones_init k_Phones_init
  have B_Phones_init := F_Phones_init.binds (ps := ["self", "orders"]) fun _ _ _ _ _ _ us hl => match us, hl with | [_, _], _ => rfl
  have F_Phones_pass_round := fun_mk (st := s_Phones_pass_round) l_Phones_pass_round cc_Phones_pass_round k_Phones_pass_round
  have B_Phones_pass_round := F_Phones_pass_round.binds (ps := ["self", "absent"]) fun _ _ _ _ _ _ us hl => match us, hl with | [_, _], _ => rfl
  have F_Phones_gone := fun_mk (st := s_Phones_gone) l_Phones_gone cc_Phones_gone k_Phones_gone
  have B_Phones_gone := F_Phones_gone.binds (ps := ["self"]) fun _ _ _ _ _ _ us hl => match us, hl with | [_], _ => rfl
  have F_Phones_knowing := fun_mk (st := s_Phones_knowing) l_Phones_knowing cc_Phones_knowing k_Phones_knowing
  have B_Phones_knowing := F_Phones_knowing.binds (ps := ["self"]) fun _ _ _ _ _ _ us hl => match us, hl with | [_], _ => rfl
  have F_Phones_row := fun_mk (st := s_Phones_row) l_Phones_row cc_Phones_row k_Phones_row
  have B_Phones_row := F_Phones_row.binds (ps := ["self", "person"]) fun _ _ _ _ _ _ us hl => match us, hl with | [_, _], _ => rfl
  have F_Phones_is_done := fun_mk (st := s_Phones_is_done) l_Phones_is_done cc_Phones_is_done k_Phones_is_done
  have B_Phones_is_done := F_Phones_is_done.binds (ps := ["self"]) fun _ _ _ _ _ _ us hl => match us, hl with | [_], _ => rfl
  have T : Txt K mg ⟨f_is_number, (PySem.W.fnOf "is_number" "is_number" (defArgs s_is_number) (defBody s_is_number) (defScope s_is_number) .none kV_is_number dc_is_number pm_is_number an_is_number cd_is_number ct_is_number), f_is_person, (PySem.W.fnOf "is_person" "is_person" (defArgs s_is_person) (defBody s_is_person) (defScope s_is_person) .none kV_is_person dc_is_person pm_is_person an_is_person cd_is_person ct_is_person), f_is_orders, (PySem.W.fnOf "is_orders" "is_orders" (defArgs s_is_orders) (defBody s_is_orders) (defScope s_is_orders) .none kV_is_orders dc_is_orders pm_is_orders an_is_orders cd_is_orders ct_is_orders), f_nobody_is_called_twice, (PySem.W.fnOf "nobody_is_called_twice" "nobody_is_called_twice" (defArgs s_nobody_is_called_twice) (defBody s_nobody_is_called_twice) (defScope s_nobody_is_called_twice) .none kV_nobody_is_called_twice dc_nobody_is_called_twice pm_nobody_is_called_twice an_nobody_is_called_twice cd_nobody_is_called_twice ct_nobody_is_called_twice), f_all_are_come_to, (PySem.W.fnOf "all_are_come_to" "all_are_come_to" (defArgs s_all_are_come_to) (defBody s_all_are_come_to) (defScope s_all_are_come_to) .none kV_all_are_come_to dc_all_are_come_to pm_all_are_come_to an_all_are_come_to cd_all_are_come_to ct_all_are_come_to), f_is_absent, (PySem.W.fnOf "is_absent" "is_absent" (defArgs s_is_absent) (defBody s_is_absent) (defScope s_is_absent) .none kV_is_absent dc_is_absent pm_is_absent an_is_absent cd_is_absent ct_is_absent), f_copied, (PySem.W.fnOf "copied" "copied" (defArgs s_copied) (defBody s_copied) (defScope s_copied) .none kV_copied dc_copied pm_copied an_copied cd_copied ct_copied), f_take_orders, (PySem.W.fnOf "take_orders" "take_orders" (defArgs s_take_orders) (defBody s_take_orders) (defScope s_take_orders) .none kV_take_orders dc_take_orders pm_take_orders an_take_orders cd_take_orders ct_take_orders), f_take_absent, (PySem.W.fnOf "take_absent" "take_absent" (defArgs s_take_absent) (defBody s_take_absent) (defScope s_take_absent) .none kV_take_absent dc_take_absent pm_take_absent an_take_absent cd_take_absent ct_take_absent), f_take_person, (PySem.W.fnOf "take_person" "take_person" (defArgs s_take_person) (defBody s_take_person) (defScope s_take_person) .none kV_take_person dc_take_person pm_take_person an_take_person cd_take_person ct_take_person), f_first_rows, (PySem.W.fnOf "first_rows" "first_rows" (defArgs s_first_rows) (defBody s_first_rows) (defScope s_first_rows) .none kV_first_rows dc_first_rows pm_first_rows an_first_rows cd_first_rows ct_first_rows), f_callers, (PySem.W.fnOf "callers" "callers" (defArgs s_callers) (defBody s_callers) (defScope s_callers) .none kV_callers dc_callers pm_callers an_callers cd_callers ct_callers), f_next_round, (PySem.W.fnOf "next_round" "next_round" (defArgs s_next_round) (defBody s_next_round) (defScope s_next_round) .none kV_next_round dc_next_round pm_next_round an_next_round cd_next_round ct_next_round), f_law_number, (PySem.W.fnOf "_law_number" "_law_number" (defArgs s_law_number) (defBody s_law_number) (defScope s_law_number) .none kV_law_number dc_law_number pm_law_number an_law_number cd_law_number ct_law_number), f_law_ups, (PySem.W.fnOf "_law_ups" "_law_ups" (defArgs s_law_ups) (defBody s_law_ups) (defScope s_law_ups) .none kV_law_ups dc_law_ups pm_law_ups an_law_ups cd_law_ups ct_law_ups), f_law_orders, (PySem.W.fnOf "_law_orders" "_law_orders" (defArgs s_law_orders) (defBody s_law_orders) (defScope s_law_orders) .none kV_law_orders dc_law_orders pm_law_orders an_law_orders cd_law_orders ct_law_orders), f_law_turn, (PySem.W.fnOf "_law_turn" "_law_turn" (defArgs s_law_turn) (defBody s_law_turn) (defScope s_law_turn) .none kV_law_turn dc_law_turn pm_law_turn an_law_turn cd_law_turn ct_law_turn), f_law_told, (PySem.W.fnOf "_law_told" "_law_told" (defArgs s_law_told) (defBody s_law_told) (defScope s_law_told) .none kV_law_told dc_law_told pm_law_told an_law_told cd_law_told ct_law_told), f_law_two_right, (PySem.W.fnOf "_law_two_right" "_law_two_right" (defArgs s_law_two_right) (defBody s_law_two_right) (defScope s_law_two_right) .none kV_law_two_right dc_law_two_right pm_law_two_right an_law_two_right cd_law_two_right ct_law_two_right), fa, (PySem.W.fnOf "law" "law" (defArgs s_law) (defBody s_law) (defScope s_law) .none kV_law dc_law pm_law an_law cd_law ct_law), f_Phones_init, (PySem.W.fnOf "__init__" "Phones.__init__" (defArgs s_Phones_init) (defBody s_Phones_init) (defScope s_Phones_init) .none kV_Phones_init dc_Phones_init pm_Phones_init an_Phones_init cd_Phones_init ct_Phones_init), f_Phones_pass_round, (PySem.W.fnOf "pass_round" "Phones.pass_round" (defArgs s_Phones_pass_round) (defBody s_Phones_pass_round) (defScope s_Phones_pass_round) .none kV_Phones_pass_round dc_Phones_pass_round pm_Phones_pass_round an_Phones_pass_round cd_Phones_pass_round ct_Phones_pass_round), f_Phones_gone, (PySem.W.fnOf "gone" "Phones.gone" (defArgs s_Phones_gone) (defBody s_Phones_gone) (defScope s_Phones_gone) .none kV_Phones_gone dc_Phones_gone pm_Phones_gone an_Phones_gone cd_Phones_gone ct_Phones_gone), f_Phones_knowing, (PySem.W.fnOf "knowing" "Phones.knowing" (defArgs s_Phones_knowing) (defBody s_Phones_knowing) (defScope s_Phones_knowing) .none kV_Phones_knowing dc_Phones_knowing pm_Phones_knowing an_Phones_knowing cd_Phones_knowing ct_Phones_knowing), f_Phones_row, (PySem.W.fnOf "row" "Phones.row" (defArgs s_Phones_row) (defBody s_Phones_row) (defScope s_Phones_row) .none kV_Phones_row dc_Phones_row pm_Phones_row an_Phones_row cd_Phones_row ct_Phones_row), f_Phones_is_done, (PySem.W.fnOf "is_done" "Phones.is_done" (defArgs s_Phones_is_done) (defBody s_Phones_is_done) (defScope s_Phones_is_done) .none kV_Phones_is_done dc_Phones_is_done pm_Phones_is_done an_Phones_is_done cd_Phones_is_done ct_Phones_is_done), C_Phones, C_Phones, C_Phones, C_Phones, C_Phones, t_MOST_PEOPLE⟩ := {
    n_all := PySem.W.mg_none_of X G z_all
    n_bool := PySem.W.mg_none_of X G z_bool
    n_enumerate := PySem.W.mg_none_of X G z_enumerate
    n_int := PySem.W.mg_none_of X G z_int
    n_isinstance := PySem.W.mg_none_of X G z_isinstance
    n_len := PySem.W.mg_none_of X G z_len
    n_list := PySem.W.mg_none_of X G z_list
    n_min := PySem.W.mg_none_of X G z_min
    n_range := PySem.W.mg_none_of X G z_range
    n_set := PySem.W.mg_none_of X G z_set
    n_sorted := PySem.W.mg_none_of X G z_sorted
    n_sum := PySem.W.mg_none_of X G z_sum
    g_MOST_PEOPLE := PySem.W.mg_of X G g_MOST_PEOPLE
    f_is_number := F_is_number
    b_is_number := B_is_number
    m_is_number := PySem.W.mg_of X G a_is_number
    k_is_number := k_is_number
    f_is_person := F_is_person
    b_is_person := B_is_person
    m_is_person := PySem.W.mg_of X G a_is_person
    k_is_person := k_is_person
    f_is_orders := F_is_orders
    b_is_orders := B_is_orders
    m_is_orders := PySem.W.mg_of X G a_is_orders
    k_is_orders := k_is_orders
    f_nobody_is_called_twice := F_nobody_is_called_twice
    b_nobody_is_called_twice := B_nobody_is_called_twice
    m_nobody_is_called_twice := PySem.W.mg_of X G a_nobody_is_called_twice
    k_nobody_is_called_twice := k_nobody_is_called_twice
    f_all_are_come_to := F_all_are_come_to
    b_all_are_come_to := B_all_are_come_to
    m_all_are_come_to := PySem.W.mg_of X G a_all_are_come_to
    k_all_are_come_to := k_all_are_come_to
    f_is_absent := F_is_absent
    b_is_absent := B_is_absent
    m_is_absent := PySem.W.mg_of X G a_is_absent
    k_is_absent := k_is_absent
    f_copied := F_copied
    b_copied := B_copied
    m_copied := PySem.W.mg_of X G a_copied
    k_copied := k_copied
    f_take_orders := F_take_orders
    b_take_orders := B_take_orders
    m_take_orders := PySem.W.mg_of X G a_take_orders
    k_take_orders := k_take_orders
    f_take_absent := F_take_absent
    b_take_absent := B_take_absent
    m_take_absent := PySem.W.mg_of X G a_take_absent
    k_take_absent := k_take_absent
    f_take_person := F_take_person
    b_take_person := B_take_person
    m_take_person := PySem.W.mg_of X G a_take_person
    k_take_person := k_take_person
    f_first_rows := F_first_rows
    b_first_rows := B_first_rows
    m_first_rows := PySem.W.mg_of X G a_first_rows
    k_first_rows := k_first_rows
    f_callers := F_callers
    b_callers := B_callers
    m_callers := PySem.W.mg_of X G a_callers
    k_callers := k_callers
    f_next_round := F_next_round
    b_next_round := B_next_round
    m_next_round := PySem.W.mg_of X G a_next_round
    k_next_round := k_next_round
    f_law_number := F_law_number
    b_law_number := B_law_number
    m_law_number := PySem.W.mg_of X G a_law_number
    k_law_number := k_law_number
    f_law_ups := F_law_ups
    b_law_ups := B_law_ups
    m_law_ups := PySem.W.mg_of X G a_law_ups
    k_law_ups := k_law_ups
    f_law_orders := F_law_orders
    b_law_orders := B_law_orders
    m_law_orders := PySem.W.mg_of X G a_law_orders
    k_law_orders := k_law_orders
    f_law_turn := F_law_turn
    b_law_turn := B_law_turn
    m_law_turn := PySem.W.mg_of X G a_law_turn
    k_law_turn := k_law_turn
    f_law_told := F_law_told
    b_law_told := B_law_told
    m_law_told := PySem.W.mg_of X G a_law_told
    k_law_told := k_law_told
    f_law_two_right := F_law_two_right
    b_law_two_right := B_law_two_right
    m_law_two_right := PySem.W.mg_of X G a_law_two_right
    k_law_two_right := k_law_two_right
    f_law := F_law
    b_law := B_law
    m_law := PySem.W.mg_of X G a_law
    k_law := k_law
    f_Phones_init := F_Phones_init
    b_Phones_init := B_Phones_init
    f_Phones_pass_round := F_Phones_pass_round
    b_Phones_pass_round := B_Phones_pass_round
    mt_Phones_pass_round := ⟨a_Phones_pass_round, i_Phones_pass_round, k_Phones_pass_round⟩
    f_Phones_gone := F_Phones_gone
    b_Phones_gone := B_Phones_gone
    mt_Phones_gone := ⟨a_Phones_gone, i_Phones_gone, k_Phones_gone⟩
    f_Phones_knowing := F_Phones_knowing
    b_Phones_knowing := B_Phones_knowing
    mt_Phones_knowing := ⟨a_Phones_knowing, i_Phones_knowing, k_Phones_knowing⟩
    f_Phones_row := F_Phones_row
    b_Phones_row := B_Phones_row
    mt_Phones_row := ⟨a_Phones_row, i_Phones_row, k_Phones_row⟩
    f_Phones_is_done := F_Phones_is_done
    b_Phones_is_done := B_Phones_is_done
    mt_Phones_is_done := ⟨a_Phones_is_done, i_Phones_is_done, k_Phones_is_done⟩
    cl_Phones := ⟨pg_Phones, hd_Phones, po_Phones, sa_Phones⟩
    k_Phones := ⟨mk_Phones, a_Phones_init, i_Phones_init, kc_Phones⟩
    c_Phones := PySem.W.mg_of X G aC_Phones
    na_Phones_orders := na_Phones_orders
    na_Phones_rows := na_Phones_rows
    na_Phones_turns := na_Phones_turns }
  exact ⟨_, fun s u => .of_eq rfl, fun base kb nb => ok_law T⟩
theorem walk {l : PySem.W.OpenLaw} {q : Program} {loose : List Str} {XP : (Str → Option Value) → Heap → Prop} {YP : World → Heap → Prop} {d : DefRec} {K : Params → PySem.W.Frag} (hn : l.most = some 63) (hdf : d.params.defaults = [])
    (hY : ∀ (w : World) (h : Heap), YP w h → (K w.params).In h)
    (F : ∀ (w : World) (mg : Str → Option Value) (fa : Addr) (h : Heap), (K w.params).In h → h.Ns mainGlobals mg → mg d.name = some (.ref fa) →
      ∃ fd : FuncData, (∀ (s : Shared) (u : Value), BindsTo s fd ⟨[u], []⟩ [("_law_script", u)]) ∧
        ∀ base : Heap, (K w.params).In base → base.Ns mainGlobals mg → FnOk l.prog w (K w.params) mg base CX0 9 fa fd ["_law_script"] (spLaw (K w.params))) :
    PySem.W.WalkO q loose XP YP l.row.toRowW d [] (fun f vs => PySem.call f vs) :=
  L2.walk_ofK (n := 63) (k := 9) (x := "_law_script") (CX := CX0) (sp := spLaw) hn (by decide) hdf ⟨rfl, by decide, by decide⟩ hY F (fun _ H a ns hl hO hS => ⟨a, ns, rfl, hS, hl, fun _ => rfl⟩) fun _ _ _ _ z => z
end Toy
open PySem PySem.W PyProof.Rows
set_option maxRecDepth 100000 in
set_option maxHeartbeats 0 in
theorem PySem.Challenge.cw_callchain_k10_whole_phones_holds : PySem.Challenge.rw_callchain_k10_whole_phones.Holds := by
  w_on; o_law; k_head; (case hw => w_witness2)
  k_fill
  refine Toy.walk (l := PySem.Challenge.rw_callchain_k10_whole_phones) rfl rfl (fun w h Y => by first | exact PySem.W.kIn_of Y | exact PySem.W.km_in_of Y) ?F
  case F =>
    intro w mg fa h KX G hmg
    refine' Toy.all_mk KX G hmg ?z_all ?z_bool ?z_enumerate ?z_int ?z_isinstance ?z_len ?z_list ?z_min ?z_range ?z_set ?z_sorted ?z_sum ?g_MOST_PEOPLE ?a_is_number ?l_is_number ?cc_is_number ?k_is_number ?a_is_person ?l_is_person ?cc_is_person ?k_is_person ?a_is_orders ?l_is_orders ?cc_is_orders ?k_is_orders ?a_nobody_is_called_twice ?l_nobody_is_called_twice ?cc_nobody_is_called_twice ?k_nobody_is_called_twice ?a_all_are_come_to ?l_all_are_come_to ?cc_all_are_come_to ?k_all_are_come_to ?a_is_absent ?l_is_absent ?cc_is_absent ?k_is_absent ?a_copied ?l_copied ?cc_copied ?k_copied ?a_take_orders ?l_take_orders ?cc_take_orders ?k_take_orders ?a_take_absent ?l_take_absent ?cc_take_absent ?k_take_absent ?a_take_person ?l_take_person ?cc_take_person ?k_take_person ?a_first_rows ?l_first_rows ?cc_first_rows ?k_first_rows ?a_callers ?l_callers ?cc_callers ?k_callers ?a_next_round ?l_next_round ?cc_next_round ?k_next_round ?a_law_number ?l_law_number ?cc_law_number ?k_law_number ?a_law_ups ?l_law_ups ?cc_law_ups ?k_law_ups ?a_law_orders ?l_law_orders ?cc_law_orders ?k_law_orders ?a_law_turn ?l_law_turn ?cc_law_turn ?k_law_turn ?a_law_told ?l_law_told ?cc_law_told ?k_law_told ?a_law_two_right ?l_law_two_right ?cc_law_two_right ?k_law_two_right ?a_law ?l_law ?cc_law ?k_law ?aC_Phones ?a_Phones_init ?i_Phones_init ?l_Phones_init ?cc_Phones_init ?k_Phones_init ?a_Phones_pass_round ?i_Phones_pass_round ?l_Phones_pass_round ?cc_Phones_pass_round ?k_Phones_pass_round ?a_Phones_gone ?i_Phones_gone ?l_Phones_gone ?cc_Phones_gone ?k_Phones_gone ?a_Phones_knowing ?i_Phones_knowing ?l_Phones_knowing ?cc_Phones_knowing ?k_Phones_knowing ?a_Phones_row ?i_Phones_row ?l_Phones_row ?cc_Phones_row ?k_Phones_row ?a_Phones_is_done ?i_Phones_is_done ?l_Phones_is_done ?cc_Phones_is_done ?k_Phones_is_done ?pg_Phones ?hd_Phones ?po_Phones ?sa_Phones ?mk_Phones ?kc_Phones ?na_Phones_orders ?na_Phones_rows ?na_Phones_turns
    (case z_all => k_is)
    (case z_bool => k_is)
    (case z_enumerate => k_is)
    (case z_int => k_is)
    (case z_isinstance => k_is)
    (case z_len => k_is)
    (case z_list => k_is)
    (case z_min => k_is)
    (case z_range => k_is)
    (case z_set => k_is)
    (case z_sorted => k_is)
    (case z_sum => k_is)
    (case g_MOST_PEOPLE => k_is)
    (case a_is_number => k_is)
    (case l_is_number => k_is)
    (case cc_is_number => k_is)
    (case k_is_number => k_is)
    (case a_is_person => k_is)
    (case l_is_person => k_is)
    (case cc_is_person => k_is)
    (case k_is_person => k_is)
    (case a_is_orders => k_is)
    (case l_is_orders => k_is)
    (case cc_is_orders => k_is)
    (case k_is_orders => k_is)
    (case a_nobody_is_called_twice => k_is)
    (case l_nobody_is_called_twice => k_is)
    (case cc_nobody_is_called_twice => k_is)
    (case k_nobody_is_called_twice => k_is)
    (case a_all_are_come_to => k_is)
    (case l_all_are_come_to => k_is)
    (case cc_all_are_come_to => k_is)
    (case k_all_are_come_to => k_is)
    (case a_is_absent => k_is)
    (case l_is_absent => k_is)
    (case cc_is_absent => k_is)
    (case k_is_absent => k_is)
    (case a_copied => k_is)
    (case l_copied => k_is)
    (case cc_copied => k_is)
    (case k_copied => k_is)
    (case a_take_orders => k_is)
    (case l_take_orders => k_is)
    (case cc_take_orders => k_is)
    (case k_take_orders => k_is)
    (case a_take_absent => k_is)
    (case l_take_absent => k_is)
    (case cc_take_absent => k_is)
    (case k_take_absent => k_is)
    (case a_take_person => k_is)
    (case l_take_person => k_is)
    (case cc_take_person => k_is)
    (case k_take_person => k_is)
    (case a_first_rows => k_is)
    (case l_first_rows => k_is)
    (case cc_first_rows => k_is)
    (case k_first_rows => k_is)
    (case a_callers => k_is)
    (case l_callers => k_is)
    (case cc_callers => k_is)
    (case k_callers => k_is)
    (case a_next_round => k_is)
    (case l_next_round => k_is)
    (case cc_next_round => k_is)
    (case k_next_round => k_is)
    (case a_law_number => k_is)
    (case l_law_number => k_is)
    (case cc_law_number => k_is)
    (case k_law_number => k_is)
    (case a_law_ups => k_is)
    (case l_law_ups => k_is)
    (case cc_law_ups => k_is)
    (case k_law_ups => k_is)
    (case a_law_orders => k_is)
    (case l_law_orders => k_is)
    (case cc_law_orders => k_is)
    (case k_law_orders => k_is)
    (case a_law_turn => k_is)
    (case l_law_turn => k_is)
    (case cc_law_turn => k_is)
    (case k_law_turn => k_is)
    (case a_law_told => k_is)
    (case l_law_told => k_is)
    (case cc_law_told => k_is)
    (case k_law_told => k_is)
    (case a_law_two_right => k_is)
    (case l_law_two_right => k_is)
    (case cc_law_two_right => k_is)
    (case k_law_two_right => k_is)
    (case a_law => k_is)
    (case l_law => k_is)
    (case cc_law => k_is)
    (case k_law => k_is)
    (case aC_Phones => k_is)
    (case a_Phones_init => k_is)
    (case i_Phones_init => k_is)
    (case l_Phones_init => k_is)
    (case cc_Phones_init => k_is)
    (case k_Phones_init => k_is)
    (case a_Phones_pass_round => k_is)
    (case i_Phones_pass_round => k_is)
    (case l_Phones_pass_round => k_is)
    (case cc_Phones_pass_round => k_is)
    (case k_Phones_pass_round => k_is)
    (case a_Phones_gone => k_is)
    (case i_Phones_gone => k_is)
    (case l_Phones_gone => k_is)
    (case cc_Phones_gone => k_is)
    (case k_Phones_gone => k_is)
    (case a_Phones_knowing => k_is)
    (case i_Phones_knowing => k_is)
    (case l_Phones_knowing => k_is)
    (case cc_Phones_knowing => k_is)
    (case k_Phones_knowing => k_is)
    (case a_Phones_row => k_is)
    (case i_Phones_row => k_is)
    (case l_Phones_row => k_is)
    (case cc_Phones_row => k_is)
    (case k_Phones_row => k_is)
    (case a_Phones_is_done => k_is)
    (case i_Phones_is_done => k_is)
    (case l_Phones_is_done => k_is)
    (case cc_Phones_is_done => k_is)
    (case k_Phones_is_done => k_is)
    (case pg_Phones => k_is)
    (case hd_Phones => k_is)
    (case po_Phones => k_is)
    (case sa_Phones => k_is)
    (case mk_Phones => k_is)
    (case kc_Phones => k_is)
    (case na_Phones_orders => k_is)
    (case na_Phones_rows => k_is)
    (case na_Phones_turns => k_is)
