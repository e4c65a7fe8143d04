import PyProof.Rows.All
import Wide.All
import OpenK.AllK
import Wide.FinOn
import PyProof.EqAt
import PyProof.EqKinds
import PyProof.TupleCall
import KE.BitLaws
import PySem.Challenge.RW_callchain_k06_judged_by_hand
set_option Elab.async false
set_option linter.all false
set_option maxRecDepth 100000
namespace L2
open PySem PySem.Spec PyProof.Rows

abbrev Key := Sum Int Str
def keyIs : Key → Value → Bool
  | .inl k, v => Value.isInt k v
  | .inr x, v => Value.isStrOf x v
def keyH (w : World) : Key → Int
  | .inl k => hashInt k
  | .inr x => hashStr w x
theorem keyIs_shape : ∀ {k : Key} {v : Value}, keyIs k v = true → (∃ i t, k = Sum.inl i ∧ v = Value.int i t) ∨ (∃ x t, k = Sum.inr x ∧ v = Value.str x t)
  | .inl i, v, h => by
    obtain ⟨t, e⟩ := Value.isInt_shape (k := i) (v := v) h
    exact .inl ⟨i, t, rfl, e⟩
  | .inr x, v, h => by
    obtain ⟨t, e⟩ := Value.isStrOf_shape (x := x) (v := v) h
    exact .inr ⟨x, t, rfl, e⟩
theorem keyIs_int (i : Int) (t : Tok) : keyIs (.inl i) (.int i t) = true := by simp [keyIs, Value.isInt]
theorem keyIs_str (x : Str) (t : Tok) : keyIs (.inr x) (.str x t) = true := by simp [keyIs, Value.isStrOf]
theorem key_ll (a b : Int) : decide ((Sum.inl a : Key) = Sum.inl b) = (a == b) := by
  by_cases e : a = b
  · subst e; simp
  · have h : ¬ (Sum.inl a : Key) = Sum.inl b := fun q => e (Sum.inl.inj q)
    rw [decide_eq_false h]
    exact (beq_eq_false_iff_ne.mpr e).symm
theorem key_rr (a b : Str) : decide ((Sum.inr a : Key) = Sum.inr b) = decide (a = b) := by
  by_cases e : a = b
  · subst e; simp
  · have h : ¬ (Sum.inr a : Key) = Sum.inr b := fun q => e (Sum.inr.inj q)
    rw [decide_eq_false h, decide_eq_false e]
theorem key_lr (a : Int) (b : Str) : decide ((Sum.inl a : Key) = Sum.inr b) = false := decide_eq_false (fun q => nomatch q)
theorem key_rl (a : Str) (b : Int) : decide ((Sum.inr a : Key) = Sum.inl b) = false := decide_eq_false (fun q => nomatch q)

def mixKind (prog : Program) (w : World) : PySem.KeyKind prog w Key where
  is := keyIs
  hash := keyH w
  inj := fun v a b ha hb => by
    rcases keyIs_shape ha with ⟨i, t, rfl, rfl⟩ | ⟨x, t, rfl, rfl⟩
    · rcases keyIs_shape hb with ⟨j, u, rfl, e⟩ | ⟨y, u, rfl, e⟩
      · injection e with e1 _; rw [e1]
      · exact nomatch e
    · rcases keyIs_shape hb with ⟨j, u, rfl, e⟩ | ⟨y, u, rfl, e⟩
      · exact nomatch e
      · injection e with e1 _; rw [e1]
  byValue := fun k v h => by
    rcases keyIs_shape h with ⟨i, t, rfl, rfl⟩ | ⟨x, t, rfl, rfl⟩ <;> rfl
  pyHash := fun hv h => by
    rcases keyIs_shape hv with ⟨i, t, rfl, rfl⟩ | ⟨x, t, rfl, rfl⟩
    · exact wpAny_pyHash_int h
    · exact wpAny_pyHash_str h
  eqBool := fun hu hv h => by
    rcases keyIs_shape hu with ⟨i, t, rfl, rfl⟩ | ⟨x, t, rfl, rfl⟩
    · rcases keyIs_shape hv with ⟨j, u, rfl, rfl⟩ | ⟨y, u, rfl, rfl⟩
      · rw [key_ll] at h; exact wpAny_eqBool_int h
      · rw [key_lr] at h; exact SeqAt.EqAt.int_str i t y u _ _ _ _ h
    · rcases keyIs_shape hv with ⟨j, u, rfl, rfl⟩ | ⟨y, u, rfl, rfl⟩
      · rw [key_rl] at h; exact SeqAt.EqAt.str_int x t j u _ _ _ _ h
      · rw [key_rr] at h; exact wpAny_eqBool_str h
  «strs» := fun k x t v h => by
    rcases keyIs_shape h with ⟨i, u, rfl, e⟩ | ⟨y, u, rfl, e⟩
    · exact nomatch e
    · injection e with e1 _
      subst e1
      cases v <;> rfl

theorem mixKind_int (prog : Program) (w : World) (i : Int) (t : Tok) : (mixKind prog w).is (.inl i) (.int i t) = true := keyIs_int i t
theorem mixKind_str (prog : Program) (w : World) (x : Str) (t : Tok) : (mixKind prog w).is (.inr x) (.str x t) = true := keyIs_str x t
end L2

namespace L2
open PySem PySem.Spec PyProof.Rows

inductive V where
  | non | bl (b : Bool) | int (i : Int) | str (x : Str) | byt (b : Array UInt8) | flt (b : UInt64) | ref (a : Addr) | ty (n : String)
  deriving DecidableEq

def RelV : V → Value → Prop
  | .non, u => u = Value.none
  | .bl b, u => u = Value.bool b
  | .int i, u => ∃ t, u = Value.int i t
  | .str x, u => ∃ t, u = Value.str x t
  | .byt b, u => ∃ t, u = Value.bytes b t
  | .flt b, u => ∃ t, u = Value.float b t
  | .ref a, u => u = Value.ref a
  | .ty n, u => u = Value.type n

abbrev Vals : List V → List Value → Prop := Paired RelV
theorem Vals.length {xs : List V} {us : List Value} (r : Vals xs us) : xs.length = us.length := Paired.length r
theorem Vals.get : ∀ {xs : List V} {us : List Value} {i : Nat} {x : V}, Vals xs us → xs[i]? = some x → ∃ u, us[i]? = some u ∧ RelV x u
  | _, _, _, _, .nil, e => by simp at e
  | _, _, 0, _, .cons r _, e => by simp at e; subst e; exact ⟨_, rfl, r⟩
  | _, _, i + 1, x, .cons _ t, e => by
    obtain ⟨u, h1, h2⟩ := Vals.get (i := i) (x := x) t (by simpa using e)
    exact ⟨u, by simpa using h1, h2⟩
theorem Vals.set {x : V} {u : Value} (r : RelV x u) : ∀ {xs : List V} {us : List Value} (i : Nat), Vals xs us → Vals (xs.set i x) (us.set i u)
  | _, _, _, .nil => .nil
  | _, _, 0, .cons _ t => .cons r t
  | _, _, i + 1, .cons q t => .cons q (Vals.set r i t)
theorem Vals.append : ∀ {xs ys : List V} {us ws : List Value}, Vals xs us → Vals ys ws → Vals (xs ++ ys) (us ++ ws)
  | _, _, _, _, .nil, s => s
  | _, _, _, _, .cons r t, s => .cons r (Vals.append t s)
theorem Vals.take : ∀ {xs : List V} {us : List Value} (n : Nat), Vals xs us → Vals (xs.take n) (us.take n)
  | _, _, 0, _ => .nil
  | _, _, _ + 1, .nil => .nil
  | _, _, n + 1, .cons r t => .cons r (Vals.take n t)
theorem Vals.drop : ∀ {xs : List V} {us : List Value} (n : Nat), Vals xs us → Vals (xs.drop n) (us.drop n)
  | _, _, 0, r => r
  | _, _, _ + 1, .nil => .nil
  | _, _, n + 1, .cons _ t => Vals.drop n t
theorem Vals.none_of : ∀ {xs : List V} {us : List Value} {i : Nat}, Vals xs us → xs[i]? = none → us[i]? = none := fun {xs us i} r e => by
  have h1 := r.length
  have h2 : xs.length ≤ i := List.getElem?_eq_none_iff.mp e
  exact List.getElem?_eq_none_iff.mpr (by omega)

def RelO : Option V → Option Value → Prop
  | some v, some u => RelV v u
  | none, none => True
  | _, _ => False
def KV {κ : Type} : List (κ × V) → List (κ × Value) → Prop := Paired fun (p : κ × V) (q : κ × Value) => p.1 = q.1 ∧ RelV p.2 q.2

def kV : Key → V
  | .inl i => .int i
  | .inr x => .str x

inductive HO where
    | lst (xs : List V)
    | tup (xs : List V)
    | dK (kvs : List (Key × V)) | dT (kvs : List (List Key × V))
    | set (S : Int → Bool) (n : Nat)
    | ins (C dx : Addr) (fs : List (Str × V))
    | own (x : Addr)
    | xd (fs : List (Str × V))
    | met (f x : Addr)
    | rng (lo hi : Int)
    | frz (o : Obj) (u : HO)
    | tbl (ps : Array Value)
    | ext (φ : Heap → Prop)

abbrev Hp := Addr → Option HO
def upd (H : Hp) (a : Addr) (o : HO) : Hp := fun b => if b = a then some o else H b
theorem upd_same {H : Hp} {a : Addr} {o : HO} : upd H a o a = some o := by unfold upd; rw [if_pos rfl]
theorem upd_ne {H : Hp} {a b : Addr} {o : HO} (h : b ≠ a) : upd H a o b = H b := by unfold upd; rw [if_neg h]
theorem ne_of {H : Hp} {a b : Addr} {o u : HO} (h : H a = some o) (h' : H b = some u) (d : o ≠ u) : a ≠ b := by
  intro e; subst e; rw [h] at h'; exact d (Option.some.inj h')
theorem ne_of_none {H : Hp} {a b : Addr} {o : HO} (h : H a = some o) (h' : H b = none) : a ≠ b := by
  intro e; subst e; rw [h] at h'; cases h'

section
variable (P : Program) (w : World)
def ObjOk (H : Hp) (h : Heap) (a : Addr) : HO → Prop
  | .lst xs => xs.length ≤ sizeLine ∧ ∃ (its : List Value) (n : Nat), Vals xs its ∧ h.get? a = some { cls := .type "list", data := .seq its.toArray n }
  | .tup xs => xs.length ≤ sizeLine ∧ ∃ its : List Value, Vals xs its ∧ IsTup h a its.toArray
  | .dK kvs => kvs.length ≤ sizeLine ∧ (a == sysModules) = false ∧ ∃ vs, KV kvs vs ∧ h.DictOf (mixKind P w) a vs
  | .dT kvs => kvs.length ≤ sizeLine ∧ (a == sysModules) = false ∧ ∃ xs : List (List Key × Addr × Value),
      Paired (fun (p : List Key × V) (q : List Key × Addr × Value) => p.1 = q.1 ∧ H q.2.1 = some (.tup (p.1.map kV)) ∧ RelV p.2 q.2.2) kvs xs ∧
      ∃ o es ep, h.get? a = some o ∧ o.ExactDict ∧ o.data = .dict es ep ∧ es.toList = xs.map (entryOfKey (tupleKind (mixKind P w))) ∧ (xs.map (·.1)).Nodup
  | .set S n => h.SetOf (intKind P w) a S n
  | .ins C dx fs => H dx = some (.own a) ∧ fs.length ≤ 1000 ∧ dx ≠ a ∧ h.get? a = some (PySem.W.instObj C dx) ∧
      ∃ mA, h.Ns1 dx mA ∧ (∀ f, RelO (fs.lookup f) (mA f)) ∧ PySem.Within mA (fs.map (·.1))
  | .own _ => ∃ o, h.get? a = some o
  | .xd fs => ∃ mA, h.Ns1 a mA ∧ ∀ f, RelO (fs.lookup f) (mA f)
  | .rng lo hi => ∃ t u v, h.get? a = some { cls := .type "range", data := .fields #[.int lo t, .int hi u, .int 1 v] }
  | .frz o u => h.get? a = some o ∧ ObjOk H h a u
  | .tbl ps => h.get? a = some { cls := .none, data := .fields ps }
  | .met f x => h.get? a = some (PySem.W.methodObj (.ref f) (.ref x))
  | .ext φ => φ h ∧ (∃ o, h.get? a = some o) ∧ ∀ h1 h2 : Heap, φ h1 → (∀ o, h1.get? a = some o → h2.get? a = some o) → φ h2
def HOk (H : Hp) (h : Heap) : Prop := ∀ a o, H a = some o → ObjOk P w H h a o
end

section
variable {P : Program} {w : World} {H H' : Hp} {h h' : Heap} {a : Addr} {o : HO}
theorem ObjOk.lt (x : ObjOk P w H h a o) : a < h.objs.size := by
  cases o with
  | lst xs => obtain ⟨_, _, _, _, e⟩ := x; exact Heap.lt_size e
  | tup xs => obtain ⟨_, _, _, p⟩ := x; exact p.lt
  | dK kvs => obtain ⟨_, _, _, _, o, _, _, e, _⟩ := x; exact Heap.lt_size e
  | dT kvs => obtain ⟨_, _, _, _, o, _, _, e, _⟩ := x; exact Heap.lt_size e
  | set S n => obtain ⟨o, _, _, _, e, _⟩ := x; exact Heap.lt_size e
  | ins C dx fs => obtain ⟨_, _, _, e, _⟩ := x; exact Heap.lt_size e
  | own y => obtain ⟨_, e⟩ := x; exact Heap.lt_size e
  | xd fs => obtain ⟨_, ⟨_, _, _, e, _⟩, _⟩ := x; exact Heap.lt_size e
  | rng lo hi => obtain ⟨_, _, _, e⟩ := x; exact Heap.lt_size e
  | frz ob u => obtain ⟨e, _⟩ := x; exact Heap.lt_size e
  | tbl ps => exact Heap.lt_size (show h.get? a = some _ from x)
  | met f y => exact Heap.lt_size (show h.get? a = some _ from x)
  | ext φ => obtain ⟨_, ⟨_, e⟩, _⟩ := x; exact Heap.lt_size e
theorem Paired.mapP {α β : Type} {F G : α → β → Prop} : ∀ {l₁ : List α} {l₂ : List β}, Paired F l₁ l₂ → (∀ a b, F a b → G a b) → Paired G l₁ l₂
  | _, _, .nil, _ => .nil
  | _, _, .cons r t, f => .cons (f _ _ r) (Paired.mapP t f)
theorem ObjOk.stay (x : ObjOk P w H h a o) (k : ∀ b u, (b = a ∨ H b = some (.own a)) → h.get? b = some u → h'.get? b = some u)
    (ho : ∀ b, H b = some (.own a) → H' b = some (.own a)) (ht : ∀ b xs, H b = some (.tup xs) → H' b = some (.tup xs)) : ObjOk P w H' h' a o := by
  induction o with
  | lst xs => obtain ⟨z, its, n, r, e⟩ := x; exact ⟨z, its, n, r, k _ _ (.inl rfl) e⟩
  | tup xs => obtain ⟨z, its, r, ob, e, c⟩ := x; exact ⟨z, its, r, ob, k _ _ (.inl rfl) e, c⟩
  | dK kvs => obtain ⟨z, y, vs, r, ob, es, ep, e, c⟩ := x; exact ⟨z, y, vs, r, ob, es, ep, k _ _ (.inl rfl) e, c⟩
  | dT kvs =>
    obtain ⟨z, y, xs, r, ob, es, ep, e, c⟩ := x
    exact ⟨z, y, xs, Paired.mapP r fun p q z => ⟨z.1, ht _ _ z.2.1, z.2.2⟩, ob, es, ep, k _ _ (.inl rfl) e, c⟩
  | set S n => obtain ⟨ob, es, ep, t, e, c⟩ := x; exact ⟨ob, es, ep, t, k _ _ (.inl rfl) e, c⟩
  | ins C dx fs =>
    obtain ⟨d, z, ne, e, mA, ⟨od, es, ep, e2, c⟩, r⟩ := x
    exact ⟨ho _ d, z, ne, k _ _ (.inl rfl) e, mA, ⟨od, es, ep, k _ _ (.inr d) e2, c⟩, r⟩
  | own y => obtain ⟨ob, e⟩ := x; exact ⟨ob, k _ _ (.inl rfl) e⟩
  | xd fs => obtain ⟨mA, ⟨od, es, ep, e, c⟩, r⟩ := x; exact ⟨mA, ⟨od, es, ep, k _ _ (.inl rfl) e, c⟩, r⟩
  | rng lo hi => obtain ⟨t, u, v, e⟩ := x; exact ⟨t, u, v, k _ _ (.inl rfl) e⟩
  | frz ob u ih => obtain ⟨e, q⟩ := x; exact ⟨k _ _ (.inl rfl) e, ih q⟩
  | tbl ps =>
    have e : h.get? a = some { cls := .none, data := .fields ps } := x
    show h'.get? a = some { cls := .none, data := .fields ps }
    exact k a _ (.inl rfl) e
  | met f y =>
    have e : h.get? a = some (PySem.W.methodObj (.ref f) (.ref y)) := x
    show h'.get? a = some (PySem.W.methodObj (.ref f) (.ref y))
    exact k a _ (.inl rfl) e
  | ext φ => obtain ⟨p, ⟨o, e⟩, st⟩ := x; exact ⟨st _ _ p fun o q => k _ _ (.inl rfl) q, ⟨o, k _ _ (.inl rfl) e⟩, st⟩
theorem HOk.lt (x : HOk P w H h) (e : H a = some o) : a < h.objs.size := (x a o e).lt
theorem HOk.fresh (x : HOk P w H h) (e : h.objs.size ≤ a) : H a = none := by
  cases q : H a with
  | none => rfl
  | some u => exact absurd (Nat.lt_of_lt_of_le (x.lt q) e) (Nat.lt_irrefl _)
theorem HOk.kept (x : HOk P w H h) (k : ∀ b u, h.get? b = some u → h'.get? b = some u) : HOk P w H h' := fun a o e =>
  (x a o e).stay (fun b u _ q => k b u q) (fun _ q => q) fun _ _ q => q
theorem HOk.laid (x : HOk P w H h) (k : ∀ b u, h.get? b = some u → h'.get? b = some u) (hp : h.objs.size ≤ a) (new : ObjOk P w (upd H a o) h' a o) : HOk P w (upd H a o) h' := fun b u e => by
  have hn := x.fresh hp
  by_cases hb : b = a
  · subst hb; rw [upd_same] at e; cases e; exact new
  · rw [upd_ne hb] at e
    exact (x b u e).stay (fun c v _ q => k c v q) (fun c q => by rw [upd_ne (ne_of_none q hn)]; exact q) fun c xs q => by rw [upd_ne (ne_of_none q hn)]; exact q
end

def Rd (H : Hp) (a : Addr) (u : HO) : Prop := H a = some u ∨ ∃ o, H a = some (.frz o u)
theorem Rd.of {H : Hp} {a : Addr} {u : HO} (h : H a = some u) : Rd H a u := .inl h
theorem Rd.ok {P : Program} {w : World} {H : Hp} {h : Heap} {a : Addr} {u : HO} (r : Rd H a u) (x : HOk P w H h) : ObjOk P w H h a u := by
  rcases r with r | ⟨o, r⟩
  · exact x a u r
  · obtain ⟨_, q⟩ := x a _ r
    exact q
def Mut : Option HO → Prop
  | some (.lst _) => True
  | some (.dK _) => True
  | some (.dT _) => True
  | some (.set _ _) => True
  | some (.ins _ _ _) => True
  | some (.ext _) => True
  | _ => False
section
variable {P : Program} {w : World} {H : Hp} {h h' : Heap} {x e : Addr} {o' : HO}
theorem HOk.write (ok : HOk P w H h) (mu : Mut (H x)) (he : e = x ∨ H e = some (.own x)) (k : ∀ b u, b ≠ e → h.get? b = some u → h'.get? b = some u) (heo : ∃ u, h'.get? e = some u)
    (new : ObjOk P w (upd H x o') h' x o') : HOk P w (upd H x o') h' := fun b u q => by
  have nown : ∀ c y, H c = some (.own y) → c ≠ x := fun c y r z => by subst z; rw [r] at mu; exact mu
  have ntup : ∀ c xs, H c = some (.tup xs) → c ≠ x := fun c xs r z => by subst z; rw [r] at mu; exact mu
  by_cases hb : b = x
  · subst hb; rw [upd_same] at q; cases q; exact new
  · rw [upd_ne hb] at q
    by_cases hbe : b = e
    · have q' : H b = some (.own x) := by
        rcases he with z | z
        · exact absurd (hbe.trans z) hb
        · rw [hbe]; exact z
      rw [q] at q'; cases q'
      obtain ⟨v, hv⟩ := heo
      exact ⟨v, by rw [hbe]; exact hv⟩
    · refine (ok b u q).stay (fun c v hc r => k c v ?_ r) (fun c r => by rw [upd_ne (nown c b r)]; exact r) fun c xs r => by rw [upd_ne (ntup c xs r)]; exact r
      rcases hc with rfl | hc
      · exact hbe
      · rintro rfl
        rcases he with z | z
        · exact nown c b hc z
        · rw [hc] at z; cases z; exact hb rfl
end

structure Un (fs ex : List Addr) (H H' : Hp) (h h' : Heap) : Prop where
  keep : ∀ b o, h.get? b = some o → H b = none → b ∉ fs → b ∉ ex → h'.get? b = some o
  slot : ∀ b o, h.get? b = some o → H b = none → b ∈ fs → b ∉ ex → ∃ sl, h'.get? b = some { o with slots := sl }
  free : ∀ b o, h.get? b = some o → H b = none → b ∉ ex → H' b = none
  there : ∀ b o, h.get? b = some o → b ∉ ex → ∃ o', h'.get? b = some o'
  tups : ∀ b xs, H b = some (.tup xs) → H' b = some (.tup xs)
  frzs : ∀ b o u, H b = some (.frz o u) → H' b = some (.frz o u)
  tbls : ∀ b ps, H b = some (.tbl ps) → ∃ more, H' b = some (.tbl (ps ++ more))
section
variable {fs fs' ex ex' : List Addr} {H H1 H2 : Hp} {h h1 h2 h' : Heap} {a x e : Addr} {o : HO}
theorem Un.any (u : Un fs ex H H1 h h1) {b : Addr} {ob : Obj} (q : h.get? b = some ob) (n : H b = none) (hx : b ∉ ex) : ∃ sl, h1.get? b = some { ob with slots := sl } := by
  by_cases hb : b ∈ fs
  · exact u.slot b ob q n hb hx
  · exact ⟨ob.slots, u.keep b ob q n hb hx⟩
theorem Un.trans (a : Un fs ex H H1 h h1) (b : Un fs ex H1 H2 h1 h2) : Un fs ex H H2 h h2 where
  keep := fun c ob q n hc hx => b.keep c ob (a.keep c ob q n hc hx) (a.free c ob q n hx) hc hx
  slot := fun c ob q n hc hx => by
    obtain ⟨sl, e1⟩ := a.slot c ob q n hc hx
    obtain ⟨sl', e2⟩ := b.slot c _ e1 (a.free c ob q n hx) hc hx
    exact ⟨sl', e2⟩
  free := fun c ob q n hx => by
    obtain ⟨o', e1⟩ := a.there c ob q hx
    exact b.free c o' e1 (a.free c ob q n hx) hx
  there := fun c ob q hx => by
    obtain ⟨o', e1⟩ := a.there c ob q hx
    exact b.there c o' e1 hx
  tups := fun c xs q => b.tups c xs (a.tups c xs q)
  frzs := fun c ob xs q => b.frzs c ob xs (a.frzs c ob xs q)
  tbls := fun c ps q => by
    obtain ⟨m1, e1⟩ := a.tbls c ps q
    obtain ⟨m2, e2⟩ := b.tbls c _ e1
    exact ⟨m1 ++ m2, by rw [e2, Array.append_assoc]⟩
theorem Un.kept (k : ∀ b u, h.get? b = some u → h'.get? b = some u) : Un fs ex H H h h' :=
  ⟨fun b ob q _ _ _ => k b ob q, fun b ob q _ _ _ => ⟨ob.slots, k b ob q⟩, fun _ _ _ n _ => n, fun b ob q _ => ⟨ob, k b ob q⟩, fun _ _ q => q, fun _ _ _ q => q, fun _ ps q => ⟨#[], by rw [q]; simp⟩⟩
theorem Un.refl : Un fs ex H H h h := Un.kept fun _ _ q => q
theorem Un.laid (k : ∀ b u, h.get? b = some u → h'.get? b = some u) (hp : h.objs.size ≤ a) (hn : H a = none) : Un fs ex H (upd H a o) h h' where
  keep := fun b u q _ _ _ => k b u q
  slot := fun b u q _ _ _ => ⟨u.slots, k b u q⟩
  free := fun b u q n _ => by rw [upd_ne (Nat.ne_of_lt (Nat.lt_of_lt_of_le (Heap.lt_size q) hp))]; exact n
  there := fun b u q _ => ⟨u, k b u q⟩
  tups := fun b xs q => by rw [upd_ne (ne_of_none q hn)]; exact q
  frzs := fun b u xs q => by rw [upd_ne (ne_of_none q hn)]; exact q
  tbls := fun b ps q => ⟨#[], by rw [upd_ne (ne_of_none q hn), q]; simp⟩
theorem Un.write (mu : Mut (H x)) (he : e = x ∨ H e = some (.own x)) (k : ∀ b u, b ≠ e → h.get? b = some u → h'.get? b = some u) (heo : ∃ u, h'.get? e = some u) : Un fs ex H (upd H x o) h h' := by
  have hx : ∀ b, H b = none → b ≠ x := fun b n z => by subst z; rw [n] at mu; exact mu
  have hb : ∀ b, H b = none → b ≠ e := fun b n z => by
    subst z
    rcases he with r | r
    · exact hx b n r
    · rw [n] at r; cases r
  have hm : ∀ b u, H b = some u → ¬ Mut (some u) → b ≠ x := fun b u q nm z => by subst z; rw [q] at mu; exact nm mu
  refine ⟨fun b u q n _ _ => k b u (hb b n) q, fun b u q n _ _ => ⟨u.slots, k b u (hb b n) q⟩, fun b u q n _ => by rw [upd_ne (hx b n)]; exact n, fun b u q _ => ?_,
    fun b xs q => by rw [upd_ne (hm b _ q fun z => z)]; exact q, fun b u xs q => by rw [upd_ne (hm b _ q fun z => z)]; exact q, fun b ps q => ⟨#[], by rw [upd_ne (hm b _ q fun z => z), q]; simp⟩⟩
  by_cases hbe : b = e
  · subst hbe; exact heo
  · exact ⟨u, k b u hbe q⟩
theorem Un.mono (u : Un fs ex H H1 h h1) (hs : ∀ b ∈ fs, b ∈ fs') (hx : ∀ b ∈ ex, b ∈ ex') : Un fs' ex' H H1 h h1 :=
  ⟨fun b ob q n hb he => u.keep b ob q n (fun z => hb (hs b z)) fun z => he (hx b z), fun _ _ q n _ he => u.any q n fun z => he (hx _ z), fun b ob q n he => u.free b ob q n fun z => he (hx b z), fun b ob q he => u.there b ob q fun z => he (hx b z), u.tups, u.frzs, u.tbls⟩
end

def trk (h : Heap) (H : Hp) : List Addr := (List.range h.objs.size).filter fun a => (H a).isSome
def hidT (h : Heap) (H : Hp) : Heap := PySem.W.hideAll h (trk h H)
theorem hidT_size (h : Heap) (H : Hp) : (hidT h H).objs.size = h.objs.size := PySem.W.hideAll_size _ _
theorem hidT_get {h : Heap} {H : Hp} {b : Addr} {o : Obj} (e : h.get? b = some o) (n : H b = none) : (hidT h H).get? b = some o :=
  PySem.W.hideAll_get _ e fun hm => by
    have q : (H b).isSome = true := (List.mem_filter.mp hm).2
    rw [n] at q; simp at q
theorem of_hidT {h : Heap} {H : Hp} {b : Addr} {o : Obj} (e : (hidT h H).get? b = some o) : h.get? b = some o ∧ H b = none := by
  have e' : h.get? b = some o := PySem.W.of_hideAll (trk h H) e
  refine ⟨e', ?_⟩
  cases q : H b with
  | none => rfl
  | some x =>
    have hm : b ∈ trk h H := List.mem_filter.mpr ⟨List.mem_range.mpr (Heap.lt_size e'), by simp [q]⟩
    have z : (hidT h H).get? b = none := PySem.W.hideAll_none (trk h H) hm
    rw [z] at e; cases e

def allNews (g h : Heap) (L : Addr) : List (Addr × Obj) := (List.range h.objs.size).filterMap fun a => if a = L ∨ (g.get? a).isSome = true then none else (h.get? a).map fun o => (a, o)
def rest (g h : Heap) (L d : Addr) : List (Addr × Obj) := (allNews g h L).filter fun p => decide (p.1 ≠ d)
end L2

namespace L2
open PySem PySem.Spec PyProof.Rows

structure Mod (K : PySem.W.Frag) (mg : Str → Option Value) (base : Heap) : Prop where
  kin : K.In base
  glob : base.Ns mainGlobals mg
  blt : ∃ mb, base.Ns builtinsNs mb ∧ ∀ x : Str, x ≠ "__name__" → mb x = bootBuiltins x
  nolimit : base.NoLimit

structure Cx where
  prog : Program
  w : World
  K : PySem.W.Frag
  mg : Str → Option Value
  base : Heap
  A : Around
  N : List Str
  s_0 : Shared
  H_0 : Hp
  env : Env
  outer : List Env
  stack : List Env
  ex : List Addr
  fn : Str → Bool
  calm : Bool
  pn : List (Addr × Obj)
  xe : Value → Shared → Prop
def frs (l : List Env) : List Addr := l.filterMap (·.frame)
abbrev Cx.fs (X : Cx) : List Addr := frs X.outer

def Vis (sc : Scope) (x : Str) : Prop := sc.names.lookup x = some .local ∨ sc.names.lookup x = some .cell ∨ sc.names.lookup x = some .free
def Loc (sc : Scope) (x : Str) : Prop := sc.names.lookup x = some .local ∨ sc.names.lookup x = some .cell
def Look (env : Env) (h : Heap) (m : Str → Option Value) (x : Str) (u : Value) : Prop :=
  (env.kindOf x = some .local ∧ m x = some u) ∨ ((env.kindOf x = some .cell ∨ env.kindOf x = some .free) ∧ ∃ c, env.cells.lookup x = some c ∧ h.IsCell c (some u))

structure Cx.Ok (X : Cx) : Prop where
  mod : Mod X.K X.mg X.base
  kind : X.env.scope.kind = .function
  glob : X.env.globals = mainGlobals
  blt : X.env.builtins = builtinsNs
  above : X.s_0.heap.objs.size ≤ X.env.locals
  inj : ∀ x y c, X.env.cells.lookup x = some c → X.env.cells.lookup y = some c → x = y
  has : ∀ x, (X.env.kindOf x = some .cell ∨ X.env.kindOf x = some .free) → ∃ c, X.env.cells.lookup x = some c
  cab : ∀ x c, X.fn x = true → X.env.cells.lookup x = some c → X.s_0.heap.objs.size ≤ c
  hd : X.calm = true → X.A.handled = none
  frames : X.A.frames = some X.stack
  stk : X.stack = X.outer ∨ (X.stack = X.env :: X.outer ∧ X.env.frame = some X.env.locals)
  exf : ∀ b ∈ X.ex, b ≠ X.env.locals ∧ ∀ x c, X.env.cells.lookup x = some c → c ≠ b
  bs : ∀ b o, X.base.get? b = some o → X.s_0.heap.get? b = some o ∧ X.H_0 b = none
  bsz : X.base.objs.size ≤ X.s_0.heap.objs.size
  noex : ∀ b o, X.base.get? b = some o → b ∉ X.ex
  exfs : ∀ b ∈ X.ex, b ∉ X.fs
  funs : X.s_0.heap.FunFrames X.base X.outer
  frf : ∀ b ∈ X.fs, X.H_0 b = none

structure Inv (X : Cx) (pins : List (Addr × Obj)) (σ : List (Option V)) (H : Hp) (s : Shared) : Prop where
  ok : X.Ok
  os : s.os = X.s_0.os
  bare : AllBare s.gens
  base : Un X.fs X.ex X.H_0 H X.s_0.heap s.heap
  loc : ∃ m, s.heap.Ns X.env.locals m ∧ ∀ (i : Nat) (x : Str) (v : V), X.N[i]? = some x → σ[i]? = some (some v) → Vis X.env.scope x → ∃ u, RelV v u ∧ Look X.env s.heap m x u
  cell : ∀ x c, X.env.cells.lookup x = some c → ∃ v, s.heap.IsCell c v
  free : H X.env.locals = none
  freeC : ∀ x c, X.env.cells.lookup x = some c → H c = none
  pin : ∀ p ∈ X.pn ++ pins, s.heap.get? p.1 = some p.2 ∧ H p.1 = none ∧ p.1 ≠ X.env.locals ∧ p.1 ∉ X.fs ∧ ∀ v, p.2.data ≠ .cell v
  hok : HOk X.prog X.w H s.heap
  len : σ.length = X.N.length

section
variable {X : Cx} {pins : List (Addr × Obj)} {σ : List (Option V)} {H H' : Hp} {s : Shared} {h' : Heap}

theorem Cx.Ok.nofr (ok : X.Ok) {b : Addr} {o : Obj} (e : X.base.get? b = some o) : b ∉ X.fs := fun hb => by
  have := (ok.funs.mem hb).1
  rw [e] at this; cases this
theorem Inv.bs (I : Inv X pins σ H s) : ∀ b o, X.base.get? b = some o → s.heap.get? b = some o ∧ H b = none := fun b o e =>
  ⟨I.base.keep b o (I.ok.bs b o e).1 (I.ok.bs b o e).2 (I.ok.nofr e) (I.ok.noex b o e), I.base.free b o (I.ok.bs b o e).1 (I.ok.bs b o e).2 (I.ok.noex b o e)⟩
theorem Inv.bk (I : Inv X pins σ H s) : ∀ b o, X.base.get? b = some o → s.heap.get? b = some o := fun b o e => (I.bs b o e).1
theorem Inv.mod (I : Inv X pins σ H s) : Mod X.K X.mg X.base := I.ok.mod
theorem Inv.kIn (I : Inv X pins σ H s) : X.K.In s.heap := I.ok.mod.kin.keeps I.bk
theorem Inv.nolimit (I : Inv X pins σ H s) : s.heap.NoLimit := I.ok.mod.nolimit.keeps I.bk
theorem Inv.lt (I : Inv X pins σ H s) : X.env.locals < s.heap.objs.size := let ⟨_, hn, _⟩ := I.loc; hn.lt
theorem Inv.sz (I : Inv X pins σ H s) : X.s_0.heap.objs.size ≤ s.heap.objs.size := Nat.le_trans I.ok.above (Nat.le_of_lt I.lt)
theorem Inv.nofs (I : Inv X pins σ H s) {a : Addr} (h : s.heap.objs.size ≤ a) : a ∉ X.fs := fun hb => by
  obtain ⟨_, o, ho, _⟩ := I.ok.funs.mem hb
  exact absurd (Nat.lt_of_lt_of_le (Heap.lt_size ho) (Nat.le_trans I.sz h)) (Nat.lt_irrefl _)
theorem Inv.cne (I : Inv X pins σ H s) : ∀ x c, X.env.cells.lookup x = some c → c ≠ X.env.locals := fun x c e z => by
  obtain ⟨v, o, ho, hd⟩ := I.cell x c e
  obtain ⟨m, ⟨o', es, ep, ho', hd', _⟩, _⟩ := I.loc
  rw [z, ho'] at ho; cases ho; rw [hd'] at hd; cases hd
theorem Inv.funs (I : Inv X pins σ H s) : s.heap.FunFrames X.base X.outer := by
  have all : ∀ (l : List Env), (∀ b ∈ frs l, b ∈ X.fs) → X.s_0.heap.FunFrames X.base l → s.heap.FunFrames X.base l := by
    intro l
    induction l with
    | nil => intro _ _; trivial
    | cons env r ih =>
      intro hs hl
      obtain ⟨hk, ⟨L, o, hf, hn, ho, hd⟩, hr⟩ := hl
      have hL : L ∈ X.fs := hs L (by unfold frs; rw [List.filterMap_cons, hf]; exact List.mem_cons_self)
      obtain ⟨sl, e⟩ := I.base.slot L o ho (I.ok.frf L hL) hL fun z => I.ok.exfs L z hL
      exact ⟨hk, ⟨L, _, hf, hn, e, hd⟩, ih (fun b hb => hs b (by unfold frs; rw [List.filterMap_cons, hf]; exact List.mem_cons_of_mem _ hb)) hr⟩
  exact all X.outer (fun _ hb => hb) I.ok.funs

theorem Inv.stack (I : Inv X pins σ H s) : s.heap.FunFrames X.base X.stack := by
  rcases I.ok.stk with e | ⟨e, hf⟩
  · rw [e]; exact I.funs
  · rw [e]
    obtain ⟨m, hn, _⟩ := I.loc
    refine .cons (by rw [I.ok.kind]; decide) hf hn ?_ I.funs
    exact Heap.get?_none_of_le (Nat.le_trans I.ok.bsz I.ok.above)
theorem Inv.stkSub (I : Inv X pins σ H s) : ∀ b ∈ frs X.stack, b ∈ X.env.locals :: X.fs := fun b hb => by
  rcases I.ok.stk with e | ⟨e, hf⟩
  · rw [e] at hb; exact List.mem_cons_of_mem _ hb
  · rw [e] at hb
    unfold frs at hb
    rw [List.filterMap_cons, hf] at hb
    exact hb
theorem Inv.stkFree (I : Inv X pins σ H s) : ∀ b ∈ frs X.stack, H b = none := fun b hb => by
  rcases List.mem_cons.mp (I.stkSub b hb) with e | hb
  · rw [e]; exact I.free
  · obtain ⟨_, o, ho, _⟩ := I.ok.funs.mem hb
    exact I.base.free b o ho (I.ok.frf b hb) fun z => I.ok.exfs b z hb

theorem Inv.step {g' : Array GenState} {t' : Nat} {d' : Drawn} {ch : List Addr} (I : Inv X pins σ H s)
    (hch : ∀ b ∈ ch, (b ∈ X.ex ∨ X.s_0.heap.objs.size ≤ b) ∧ b ≠ X.env.locals ∧ (∀ x c, X.env.cells.lookup x = some c → c ≠ b) ∧ ∀ p ∈ X.pn ++ pins, p.1 ≠ b)
    (keep : ∀ b o, b ≠ X.env.locals → b ∉ X.fs → b ∉ ch → s.heap.get? b = some o → H b = none → h'.get? b = some o)
    (slot : ∀ b o, b ≠ X.env.locals → b ∈ X.fs → b ∉ ch → s.heap.get? b = some o → H b = none → ∃ sl, h'.get? b = some { o with slots := sl }) (free : ∀ b o, b ∉ ch → s.heap.get? b = some o → H b = none → H' b = none)
    (there : ∀ b o, b ∉ ch → s.heap.get? b = some o → ∃ o', h'.get? b = some o')
    (tups : ∀ b xs, H b = some (.tup xs) → H' b = some (.tup xs)) (frzs : ∀ b o u, H b = some (.frz o u) → H' b = some (.frz o u)) (tbls : ∀ b ps, H b = some (.tbl ps) → ∃ more, H' b = some (.tbl (ps ++ more)))
    (ns : ∀ m, s.heap.Ns X.env.locals m → h'.Ns X.env.locals m) (hok : HOk X.prog X.w H' h') (hg : AllBare g') :
    Inv X pins σ H' { s with heap := h', gens := g', drawn := d', toks := t' } := by
  have neL : ∀ b o, X.s_0.heap.get? b = some o → b ≠ X.env.locals := fun b o e => Nat.ne_of_lt (Nat.lt_of_lt_of_le (Heap.lt_size e) I.ok.above)
  have neC : ∀ b o, X.s_0.heap.get? b = some o → b ∉ X.ex → b ∉ ch := fun b o e hx hb => by
    rcases (hch b hb).1 with z | z
    · exact hx z
    · exact absurd (Nat.lt_of_lt_of_le (Heap.lt_size e) z) (Nat.lt_irrefl _)
  have cellK : ∀ x c, X.env.cells.lookup x = some c → ∀ v, s.heap.IsCell c v → h'.IsCell c v := fun x c e v ⟨o, ho, hd⟩ => by
    have nch : c ∉ ch := fun z => (hch c z).2.2.1 x c e rfl
    by_cases hc : c ∈ X.fs
    · obtain ⟨sl, q⟩ := slot c o (I.cne x c e) hc nch ho (I.freeC x c e)
      exact ⟨_, q, hd⟩
    · exact ⟨o, keep c o (I.cne x c e) hc nch ho (I.freeC x c e), hd⟩
  refine ⟨I.ok, I.os, hg, ⟨fun b o e n hb hx => ?_, fun b o e n hb hx => ?_, fun b o e n hx => ?_, fun b o e hx => ?_, fun b xs e => tups b xs (I.base.tups b xs e), fun b o xs e => frzs b o xs (I.base.frzs b o xs e), fun b ps e => ?_⟩, ?_, fun x c e => ?_, ?_, fun x c e => ?_, fun p hp => ?_, hok, I.len⟩
  · exact keep b o (neL b o e) hb (neC b o e hx) (I.base.keep b o e n hb hx) (I.base.free b o e n hx)
  · obtain ⟨sl, e1⟩ := I.base.slot b o e n hb hx
    obtain ⟨sl', e2⟩ := slot b _ (neL b o e) hb (neC b o e hx) e1 (I.base.free b o e n hx)
    exact ⟨sl', e2⟩
  · obtain ⟨o', e1⟩ := I.base.there b o e hx
    exact free b o' (neC b o e hx) e1 (I.base.free b o e n hx)
  · obtain ⟨o', e1⟩ := I.base.there b o e hx
    exact there b o' (neC b o e hx) e1
  · obtain ⟨m1, e1⟩ := I.base.tbls b ps e
    obtain ⟨m2, e2⟩ := tbls b _ e1
    exact ⟨m1 ++ m2, by rw [e2, Array.append_assoc]⟩
  · obtain ⟨m, hn, hl⟩ := I.loc
    refine ⟨m, ns m hn, fun i x v e1 e2 e3 => ?_⟩
    obtain ⟨u, r, l⟩ := hl i x v e1 e2 e3
    refine ⟨u, r, ?_⟩
    rcases l with l | ⟨k, c, e, z⟩
    · exact .inl l
    · exact .inr ⟨k, c, e, cellK x c e _ z⟩
  · obtain ⟨v, z⟩ := I.cell x c e
    exact ⟨v, cellK x c e v z⟩
  · obtain ⟨m, ⟨o, _, _, ho, _⟩, _⟩ := I.loc
    exact free _ o (fun z => (hch _ z).2.1 rfl) ho I.free
  · obtain ⟨v, o, ho, hd⟩ := I.cell x c e
    exact free c o (fun z => (hch c z).2.2.1 x c e rfl) ho (I.freeC x c e)
  · obtain ⟨e, n, ne, nf, d⟩ := I.pin p hp
    have nch : p.1 ∉ ch := fun z => (hch p.1 z).2.2.2 p hp rfl
    exact ⟨keep p.1 p.2 ne nf nch e n, free p.1 p.2 nch e n, ne, nf, d⟩
theorem Inv.un {t' : Nat} (I : Inv X pins σ H s) (u : Un X.fs [] H H' s.heap h') (hok : HOk X.prog X.w H' h') : Inv X pins σ H' { s with heap := h', toks := t' } := by
  obtain ⟨m, ⟨o, es, ep, ho, r⟩, _⟩ := id I.loc
  obtain ⟨sl, hL⟩ := u.any ho I.free (by simp)
  exact I.step (g' := s.gens) (d' := s.drawn) (ch := []) (fun _ z => nomatch z) (fun b o _ hb _ e n => u.keep b o e n hb (by simp)) (fun b o _ hb _ e n => u.slot b o e n hb (by simp)) (fun b o _ e n => u.free b o e n (by simp)) (fun b o _ e => u.there b o e (by simp)) u.tups u.frzs u.tbls (fun m' hm => by
    obtain ⟨o', es', ep', ho', r'⟩ := hm
    rw [ho] at ho'; cases ho'
    exact ⟨_, es', ep', hL, r'⟩) hok I.bare
theorem Inv.call {g' : Array GenState} {t' : Nat} {d' : Drawn} {ch : List Addr} (I : Inv X pins σ H s) (u : Un (frs X.stack) ch H H' s.heap h') (hok : HOk X.prog X.w H' h') (hg : AllBare g')
    (hch : ∀ b ∈ ch, (b ∈ X.ex ∨ X.s_0.heap.objs.size ≤ b) ∧ b ≠ X.env.locals ∧ (∀ x c, X.env.cells.lookup x = some c → c ≠ b) ∧ ∀ p ∈ X.pn ++ pins, p.1 ≠ b) :
    Inv X pins σ H' { s with heap := h', gens := g', drawn := d', toks := t' } := by
  obtain ⟨m, ⟨o, es, ep, ho, r⟩, _⟩ := id I.loc
  obtain ⟨sl, hL⟩ := u.any ho I.free fun z => (hch _ z).2.1 rfl
  exact I.step (ch := ch) hch (fun b o hL hb hc e n => u.keep b o e n (fun z => (List.mem_cons.mp (I.stkSub b z)).elim hL hb) hc) (fun b o _ _ hc e n => u.any e n hc) (fun b o hc e n => u.free b o e n hc) (fun b o hc e => u.there b o e hc) u.tups u.frzs u.tbls (fun m' hm => by
    obtain ⟨o', es', ep', ho', r'⟩ := hm
    rw [ho] at ho'; cases ho'
    exact ⟨_, es', ep', hL, r'⟩) hok hg
theorem Inv.turned {t' : Nat} {it : Addr} (I : Inv X pins σ H s) (k : ∀ b o, b ≠ it → s.heap.get? b = some o → h'.get? b = some o) (hn : H it = none) (hL : it ≠ X.env.locals)
    (h1 : it ∈ X.ex ∨ X.s_0.heap.objs.size ≤ it) (h2 : ∀ x c, X.env.cells.lookup x = some c → c ≠ it) (h3 : ∀ p ∈ X.pn ++ pins, p.1 ≠ it) : Inv X pins σ H { s with heap := h', toks := t' } := by
  have nit : ∀ b u, H b = some u → b ≠ it := fun b u e z => by rw [z, hn] at e; cases e
  refine I.step (g' := s.gens) (d' := s.drawn) (ch := [it]) (fun b hb => ?_) (fun b o _ _ hc e _ => k b o (fun z => hc (by simp [z])) e) (fun b o _ _ hc e _ => ⟨o.slots, k b o (fun z => hc (by simp [z])) e⟩) (fun _ _ _ _ n => n)
    (fun b o hc e => ⟨o, k b o (fun z => hc (by simp [z])) e⟩) (fun _ _ e => e) (fun _ _ _ e => e) (fun b ps e => ⟨#[], by rw [e]; simp⟩) (fun m hm => ?_) (fun b u e => ?_) I.bare
  · have e : b = it := by simpa using hb
    subst e
    exact ⟨h1, hL, h2, h3⟩
  · obtain ⟨o, es, ep, ho, r⟩ := hm
    exact ⟨o, es, ep, k _ o (Ne.symm hL) ho, r⟩
  · refine (I.hok b u e).stay (fun c v hc q => k c v ?_ q) (fun _ q => q) fun _ _ q => q
    rcases hc with z | z
    · rw [z]; exact nit b u e
    · exact nit c _ z
theorem Inv.tok (I : Inv X pins σ H s) (t : Nat) : Inv X pins σ H { s with toks := t } := I.un (h' := s.heap) (t' := t) Un.refl I.hok
theorem Inv.kept {t' : Nat} (I : Inv X pins σ H s) (k : ∀ b u, s.heap.get? b = some u → h'.get? b = some u) : Inv X pins σ H { s with heap := h', toks := t' } := I.un (Un.kept k) (I.hok.kept k)
theorem Inv.laid {a : Addr} {o : HO} {t' : Nat} (I : Inv X pins σ H s) (k : ∀ b u, s.heap.get? b = some u → h'.get? b = some u) (hp : s.heap.objs.size ≤ a) (new : ObjOk X.prog X.w (upd H a o) h' a o) :
    Inv X pins σ (upd H a o) { s with heap := h', toks := t' } := I.un (Un.laid k hp (I.hok.fresh hp)) (I.hok.laid k hp new)
theorem Inv.write {x e : Addr} {o : HO} {t' : Nat} (I : Inv X pins σ H s) (mu : Mut (H x)) (he : e = x ∨ H e = some (.own x)) (k : ∀ b u, b ≠ e → s.heap.get? b = some u → h'.get? b = some u) (heo : ∃ u, h'.get? e = some u)
    (new : ObjOk X.prog X.w (upd H x o) h' x o) : Inv X pins σ (upd H x o) { s with heap := h', toks := t' } := I.un (Un.write mu he k heo) (I.hok.write mu he k heo new)
theorem Inv.weak {σ' : List (Option V)} (I : Inv X pins σ H s) (hl : σ'.length = σ.length) (w : ∀ (i : Nat) v, σ'[i]? = some (some v) → σ[i]? = some (some v)) : Inv X pins σ' H s :=
  ⟨I.ok, I.os, I.bare, I.base, let ⟨m, hn, hl'⟩ := I.loc; ⟨m, hn, fun i x v e1 e2 e3 => hl' i x v e1 (w i v e2) e3⟩, I.cell, I.free, I.freeC, I.pin, I.hok, hl.trans I.len⟩
theorem Inv.pins_of {pins' : List (Addr × Obj)} (I : Inv X pins σ H s) (h : ∀ p ∈ pins', s.heap.get? p.1 = some p.2 ∧ H p.1 = none ∧ p.1 ≠ X.env.locals ∧ p.1 ∉ X.fs ∧ ∀ v, p.2.data ≠ .cell v) : Inv X pins' σ H s :=
  ⟨I.ok, I.os, I.bare, I.base, I.loc, I.cell, I.free, I.freeC, fun p hp => (List.mem_append.mp hp).elim (fun z => I.pin p (List.mem_append_left _ z)) (h p), I.hok, I.len⟩

theorem nodup_ix {N : List Str} (hN : N.Nodup) {i j : Nat} {x : Str} (a : N[i]? = some x) (b : N[j]? = some x) : i = j := by
  obtain ⟨h1, e1⟩ := List.getElem?_eq_some_iff.mp a
  obtain ⟨h2, e2⟩ := List.getElem?_eq_some_iff.mp b
  exact (List.getElem_inj hN).mp (e1.trans e2.symm)

theorem store_ok2 {M : Model} {A : Around} {E : Value → Shared → Prop} {i : Nat} {x : Str} {v : V} {u : Value} {Q : Unit → Shared → Prop} (I : Inv X pins σ H s) (hN : X.N.Nodup) (hi : X.N[i]? = some x) (hx : Loc X.env.scope x) (r : RelV v u)
    (h : ∀ s', Inv X pins (σ.set i (some v)) H s' → (∃ a, Heap.SameBut a s.heap s'.heap ∧ (a = X.env.locals ∨ X.env.cells.lookup x = some a)) → Q () s') (hf : X.fn x = true ∨ X.env.scope.names.lookup x = some .local := by first | exact .inl rfl | exact .inr rfl | assumption) : wpAny M A (storeName X.env x u) Q E s := by
  obtain ⟨m, hn, hl⟩ := id I.loc
  have hcls : (X.env.scope.kind == .class || (X.env.scope.kind == .module && X.env.locals != X.env.globals)) = false := by rw [I.ok.kind]; rfl
  have hiσ : i < σ.length := by rw [I.len]; exact (List.getElem?_eq_some_iff.mp hi).1
  have cne := I.cne
  have tracked : ∀ {a : Addr} {h' : Heap}, (∃ o, s.heap.get? a = some o ∧ H a = none) → Heap.SameBut a s.heap h' → HOk X.prog X.w H h' := fun {a h'} ha hs b ob e => by
    obtain ⟨_, _, hfree⟩ := ha
    refine (I.hok b ob e).stay (fun c w' hc q => (hs.2 c ?_).trans q) (fun _ q => q) fun _ _ q => q
    rintro rfl
    rcases hc with rfl | hc
    · rw [hfree] at e; cases e
    · rw [hfree] at hc; cases hc
  rcases hx with hk | hk
  · refine wpAny_storeName_local hk hn (fun h' hn' hs => ?_) hcls
    obtain ⟨oL, _, _, hoL, _⟩ := id hn
    refine h _ ⟨I.ok, I.os, I.bare, ⟨fun b o e n hb hx => ?_, fun b o e n hb hx => ?_, I.base.free, fun b o e hx => ?_, I.base.tups, I.base.frzs, I.base.tbls⟩, ⟨_, hn', fun j y v' e1 e2 e3 => ?_⟩, fun y c e => ?_, I.free, I.freeC, fun p hp => ?_, tracked ⟨oL, hoL, I.free⟩ hs, by simpa using I.len⟩ ⟨_, hs, .inl rfl⟩
    · exact (hs.2 b (Nat.ne_of_lt (Nat.lt_of_lt_of_le (Heap.lt_size e) I.ok.above))).trans (I.base.keep b o e n hb hx)
    · obtain ⟨sl, e1⟩ := I.base.slot b o e n hb hx
      exact ⟨sl, (hs.2 b (Nat.ne_of_lt (Nat.lt_of_lt_of_le (Heap.lt_size e) I.ok.above))).trans e1⟩
    · obtain ⟨o', e1⟩ := I.base.there b o e hx
      exact ⟨o', (hs.2 b (Nat.ne_of_lt (Nat.lt_of_lt_of_le (Heap.lt_size e) I.ok.above))).trans e1⟩
    · by_cases hj : j = i
      · subst hj
        rw [hi] at e1; cases e1
        rw [List.getElem?_set_self hiσ] at e2
        cases e2
        exact ⟨u, r, .inl ⟨hk, by simp⟩⟩
      · rw [List.getElem?_set_ne (Ne.symm hj)] at e2
        obtain ⟨u', r', q⟩ := hl j y v' e1 e2 e3
        refine ⟨u', r', ?_⟩
        rcases q with ⟨k, e⟩ | ⟨k, c, e, z⟩
        · refine .inl ⟨k, ?_⟩
          have : y ≠ x := fun e => hj (nodup_ix hN e1 (e ▸ hi))
          simp [this, e]
        · exact .inr ⟨k, c, e, z.sameBut hs (cne y c e)⟩
    · obtain ⟨w', z⟩ := I.cell y c e
      exact ⟨w', z.sameBut hs (cne y c e)⟩
    · obtain ⟨e, n, ne, nf, d⟩ := I.pin p hp
      exact ⟨(hs.2 p.1 ne).trans e, n, ne, nf, d⟩
  · have hfn : X.fn x = true := by
      rcases hf with z | z
      · exact z
      · rw [z] at hk; cases hk
    obtain ⟨c, hc⟩ := I.ok.has x (.inl hk)
    obtain ⟨w', z⟩ := I.cell x c hc
    refine wpAny_storeName_cell I.ok.kind hk hc z (fun h' hc' hs => ?_)
    obtain ⟨oc, hoc, hocd⟩ := id z
    refine h { s with heap := h' } ⟨I.ok, I.os, I.bare, ⟨fun b o e n hb hx => ?_, fun b o e n hb hx => ?_, I.base.free, fun b o e hx => ?_, I.base.tups, I.base.frzs, I.base.tbls⟩, ⟨m, hn.sameBut hs (Ne.symm (cne x c hc)), fun j y v' e1 e2 e3 => ?_⟩, fun y c' e => ?_, I.free, I.freeC, fun p hp => ?_, tracked ⟨oc, hoc, I.freeC x c hc⟩ hs, by simpa using I.len⟩ ⟨c, hs, .inr hc⟩
    · exact (hs.2 b (Nat.ne_of_lt (Nat.lt_of_lt_of_le (Heap.lt_size e) (I.ok.cab x c hfn hc)))).trans (I.base.keep b o e n hb hx)
    · obtain ⟨sl, e1⟩ := I.base.slot b o e n hb hx
      exact ⟨sl, (hs.2 b (Nat.ne_of_lt (Nat.lt_of_lt_of_le (Heap.lt_size e) (I.ok.cab x c hfn hc)))).trans e1⟩
    · obtain ⟨o', e1⟩ := I.base.there b o e hx
      exact ⟨o', (hs.2 b (Nat.ne_of_lt (Nat.lt_of_lt_of_le (Heap.lt_size e) (I.ok.cab x c hfn hc)))).trans e1⟩
    · by_cases hj : j = i
      · subst hj
        rw [hi] at e1; cases e1
        rw [List.getElem?_set_self hiσ] at e2
        cases e2
        exact ⟨u, r, .inr ⟨.inl hk, c, hc, hc'⟩⟩
      · rw [List.getElem?_set_ne (Ne.symm hj)] at e2
        obtain ⟨u', r', q⟩ := hl j y v' e1 e2 e3
        refine ⟨u', r', ?_⟩
        rcases q with q | ⟨k, c', e, z'⟩
        · exact .inl q
        · refine .inr ⟨k, c', e, z'.sameBut hs ?_⟩
          rintro rfl
          exact hj (nodup_ix hN e1 (I.ok.inj _ _ _ e hc ▸ hi))
    · by_cases hcc : c' = c
      · subst hcc; exact ⟨_, hc'⟩
      · obtain ⟨w2, z2⟩ := I.cell y c' e
        exact ⟨w2, z2.sameBut hs hcc⟩
    · obtain ⟨e, n, ne, nf, d⟩ := I.pin p hp
      refine ⟨(hs.2 p.1 ?_).trans e, n, ne, nf, d⟩
      intro q
      rw [q, hoc] at e
      have q' : oc = p.2 := Option.some.inj e
      exact d w' (by rw [← q']; exact hocd)
theorem store_ok {M : Model} {A : Around} {E : Value → Shared → Prop} {i : Nat} {x : Str} {v : V} {u : Value} {Q : Unit → Shared → Prop} (I : Inv X pins σ H s) (hN : X.N.Nodup) (hi : X.N[i]? = some x) (hx : Loc X.env.scope x) (r : RelV v u)
    (h : ∀ s', Inv X pins (σ.set i (some v)) H s' → Q () s') (hf : X.fn x = true ∨ X.env.scope.names.lookup x = some .local := by first | exact .inl rfl | exact .inr rfl | assumption) : wpAny M A (storeName X.env x u) Q E s :=
  store_ok2 I hN hi hx r (fun s' I' _ => h s' I') hf
theorem Inv.call' {s' : Shared} {ch : List Addr} (I : Inv X pins σ H s) (ho : s'.os = s.os) (u : Un (frs X.stack) ch H H' s.heap s'.heap) (hok : HOk X.prog X.w H' s'.heap) (hg : AllBare s'.gens)
    (hch : ∀ b ∈ ch, (b ∈ X.ex ∨ X.s_0.heap.objs.size ≤ b) ∧ b ≠ X.env.locals ∧ (∀ x c, X.env.cells.lookup x = some c → c ≠ b) ∧ ∀ p ∈ X.pn ++ pins, p.1 ≠ b) : Inv X pins σ H' s' := by
  obtain ⟨h', g', d', t', o'⟩ := s'
  have e : o' = s.os := ho
  subst e
  exact I.call (g' := g') (t' := t') (d' := d') u hok hg hch
end

abbrev XK := Value → Option Addr → Hp → Prop
abbrev St := List (Option V)
abbrev VK := V → Hp → Prop
abbrev TE := St → Hp → VK → Prop
abbrev TT := St → Hp → (Bool → Hp → Prop) → Prop
abbrev TA := St → Hp → (List V → Hp → Prop) → Prop
structure Ends where
  nx : St → Hp → Prop
  rt : VK
  bk : St → Hp → Prop := fun _ _ => False
  ct : St → Hp → Prop := fun _ _ => False
abbrev TS := Ends → St → Hp → Prop

def EP (X : Cx) (pins : List (Addr × Obj)) (σ : St) (Q : VK) (u : Value) (s' : Shared) : Prop := ∃ v H', Inv X pins σ H' s' ∧ RelV v u ∧ Q v H'
def TP (X : Cx) (pins : List (Addr × Obj)) (σ : St) (Q : Bool → Hp → Prop) (b : Bool) (s' : Shared) : Prop := ∃ H', Inv X pins σ H' s' ∧ Q b H'
def AP (X : Cx) (pins : List (Addr × Obj)) (σ : St) (Q : List V → Hp → Prop) (us : List Value) (s' : Shared) : Prop := ∃ vs H', Inv X pins σ H' s' ∧ Vals vs us ∧ Q vs H'
def SP (X : Cx) (pins : List (Addr × Obj)) (D : Ends) (f : Flow) (s' : Shared) : Prop :=
  match f with
  | .next => ∃ σ' H', Inv X pins σ' H' s' ∧ D.nx σ' H'
  | .brk => ∃ σ' H', Inv X pins σ' H' s' ∧ D.bk σ' H'
  | .cont => ∃ σ' H', Inv X pins σ' H' s' ∧ D.ct σ' H'
  | .ret u => ∃ v σ' H', Inv X pins σ' H' s' ∧ RelV v u ∧ D.rt v H'

def PE (X : Cx) (e : Expr) (t : TE) : Prop :=
  ∀ (pins : List (Addr × Obj)) (s : Shared) (σ : St) (H : Hp) (Q : VK), Inv X pins σ H s → t σ H Q → wpAny (model X.prog X.w) X.A (eval e X.env) (EP X pins σ Q) X.xe s
def PT (X : Cx) (e : Expr) (t : TT) : Prop :=
  ∀ (pins : List (Addr × Obj)) (s : Shared) (σ : St) (H : Hp) (Q : Bool → Hp → Prop), Inv X pins σ H s → t σ H Q → wpAny (model X.prog X.w) X.A (isTrue e X.env (eval e X.env)) (TP X pins σ Q) X.xe s
def PW (X : Cx) (e : Expr) (t : TT) : Prop :=
  ∀ (whole : Sem Value) (pins : List (Addr × Obj)) (s : Shared) (σ : St) (H : Hp) (Q : Bool → Hp → Prop), Inv X pins σ H s → t σ H Q → wpAny (model X.prog X.w) X.A (isTrue e X.env whole) (TP X pins σ Q) X.xe s
theorem PW.pt {X : Cx} {e : Expr} {t : TT} (h : PW X e t) : PT X e t := h _
def PA (X : Cx) (es : List Expr) (t : TA) : Prop :=
  ∀ (pos : Pos) (pins : List (Addr × Obj)) (s : Shared) (σ : St) (H : Hp) (Q : List V → Hp → Prop), Inv X pins σ H s → t σ H Q → wpAny (model X.prog X.w) X.A (spliced (backTo pos (starEach es X.env))) (AP X pins σ Q) X.xe s
def PS (X : Cx) (st : Stmt) (t : TS) : Prop :=
  ∀ (pins : List (Addr × Obj)) (s : Shared) (σ : St) (H : Hp) (D : Ends), Inv X pins σ H s → t D σ H → wpAny (model X.prog X.w) X.A (exec st X.env) (SP X pins D) X.xe s
def PSs (X : Cx) (st : List Stmt) (t : TS) : Prop :=
  ∀ (pins : List (Addr × Obj)) (s : Shared) (σ : St) (H : Hp) (D : Ends), Inv X pins σ H s → t D σ H → wpAny (model X.prog X.w) X.A (execs st X.env) (SP X pins D) X.xe s
theorem thn {α : Type} {t : Sem α} {Q Q' : α → Shared → Prop} {M : Model} {A : Around} {E : Value → Shared → Prop} {s : Shared} (h : wpAny M A t Q E s) (hQ : ∀ a s, Q a s → Q' a s) : wpAny M A t Q' E s := wpAny_mono h hQ fun _ _ x => x
end L2

namespace L2
open PySem PySem.Spec PyProof.Rows
section
variable {X : Cx}

def tVar (i : Nat) : TE := fun σ H Q => ∃ v, σ[i]? = some (some v) ∧ Q v H
def tC (v : V) : TE := fun _ H Q => Q v H
theorem pe_var {i : Nat} {x : Str} {pos : Pos} (hN : X.N[i]? = some x) (hv : Vis X.env.scope x) (hd : (x == ("__debug__" : Str)) = false := by decide) (hcd : (x == ("__classdict__" : Str)) = false := by decide) : PE X (.Name x pos) (tVar i) := by
  intro pins s σ H Q I h
  obtain ⟨v, e, h⟩ := h
  obtain ⟨m, hn, hl⟩ := I.loc
  obtain ⟨u, r, l⟩ := hl i x v hN e hv
  have fin : EP X pins σ Q u s := ⟨v, H, I, r, h⟩
  rcases l with ⟨hk, hm⟩ | ⟨hk, c, hc, hcell⟩
  · exact wpAny_Name (wpAny_loadName_local I.ok.kind hk hn hm fin) hd
  · rcases hk with hk | hk
    · exact wpAny_Name (wpAny_loadName_cell I.ok.kind hk hc hcell fin) hd
    · exact wpAny_Name (wpAny_loadName_free I.ok.kind hk hc hcell fin hcd) hd
theorem pe_int {i j pos} : PE X (.Constant (.int i) j pos) (tC (.int i)) := fun _ _ _ H _ I h => wpAny_Constant_int ⟨.int i, H, I.tok _, ⟨_, rfl⟩, h⟩
theorem pe_bl {b j pos} : PE X (.Constant (.bool b) j pos) (tC (.bl b)) := fun _ _ _ H _ I h => Constant_bool ⟨.bl b, H, I, rfl, h⟩
theorem pe_non {j pos} : PE X (.Constant .none j pos) (tC .non) := fun _ _ _ H _ I h => Constant_none ⟨.non, H, I, rfl, h⟩
def Gl (X : Cx) (x : Str) : Prop := X.env.kindOf x = some .globalImplicit
theorem ld_glob {E : Value → Shared → Prop} {pins : List (Addr × Obj)} {s : Shared} {σ : St} {H : Hp} {x : Str} {u : Value} {pos : Pos} {Q : Value → Shared → Prop} (I : Inv X pins σ H s) (hg : Gl X x) (hm : X.mg x = some u) (h : Q u s)
    (hd : (x == ("__debug__" : Str)) = false := by decide) : wpAny (model X.prog X.w) X.A (eval (.Name x pos) X.env) Q E s :=
  Calls.Name_function_global I.ok.kind hg (Calls.loadGlobal_global (by rw [I.ok.glob]; exact I.mod.glob.keeps I.bk) hm h) hd
theorem ld_blt {E : Value → Shared → Prop} {pins : List (Addr × Obj)} {s : Shared} {σ : St} {H : Hp} {x : Str} {u : Value} {pos : Pos} {Q : Value → Shared → Prop} (I : Inv X pins σ H s) (hg : Gl X x) (hm : X.mg x = none) (hv : bootBuiltins x = some u) (h : Q u s)
    (hn : x ≠ "__name__" := by decide) (hd : (x == ("__debug__" : Str)) = false := by decide) : wpAny (model X.prog X.w) X.A (eval (.Name x pos) X.env) Q E s := by
  obtain ⟨mb, h1, h2⟩ := I.mod.blt
  exact Calls.Name_function_global I.ok.kind hg (Calls.loadGlobal_builtin (by rw [I.ok.glob]; exact I.mod.glob.keeps I.bk) hm (by rw [I.ok.blt]; exact h1.keeps I.bk) ((h2 x hn).trans hv) h) hd
theorem pe_bltn {x : Str} {v : V} {u : Value} {pos : Pos} (hg : Gl X x) (hm : X.mg x = none) (hv : bootBuiltins x = some u) (r : RelV v u) (hn : x ≠ "__name__" := by decide) (hd : (x == ("__debug__" : Str)) = false := by decide) : PE X (.Name x pos) (tC v) :=
  fun _ _ _ H _ I h => ld_blt I hg hm hv ⟨v, H, I, r, h⟩ hn hd

variable {a b : Expr} {ta tb : TE} {pos : Pos}
def tB (t : TE) : TT := fun σ H Q => t σ H fun x H1 => ∃ c, x = .bl c ∧ Q c H1
theorem pt_val {e : Expr} {t : TE} (h : PE X e t) (he : ∀ whole, isTrue e X.env whole = (do let v ← whole; standAt e.pos; holding [v] (truthy v)) := by intro _; rfl) : PT X e (tB t) := by
  intro pins s σ H Q I hw
  refine isTrue_plain (thn (h pins s σ H _ I hw) fun v s1 ⟨x, H1, I1, r1, q1⟩ => ?_) (he _)
  obtain ⟨d, rfl, q⟩ := q1
  cases r1
  exact wpAny_truthy_bool ⟨H1, I1, q⟩

variable {tA tB' : TT} {rest : List Expr}
def tAnd (t u : TT) : TT := fun σ H Q => t σ H fun c H1 => if c = true then u σ H1 Q else Q false H1
def tOr (t u : TT) : TT := fun σ H Q => t σ H fun c H1 => if c = true then Q true H1 else u σ H1 Q
def tNot (t : TT) : TT := fun σ H Q => t σ H fun c H1 => Q (!c) H1
theorem pw_and1 (ha : PT X a tA) : PW X (.BoolOp .And [a] pos) tA := by
  intro wh pins s σ H Q I h
  refine isTrue_and (thn (ha pins s σ H Q I h) fun c s1 e => ?_)
  cases c with
  | true => exact isTrue_and_nil e
  | false => exact e
theorem pw_or1 (ha : PT X a tA) : PW X (.BoolOp .Or [a] pos) tA := by
  intro wh pins s σ H Q I h
  refine isTrue_or (thn (ha pins s σ H Q I h) fun c s1 e => ?_)
  cases c with
  | false => exact isTrue_or_nil e
  | true => exact e
theorem pw_and (ha : PT X a tA) (hb : PW X (.BoolOp .And (b :: rest) pos) tB') : PW X (.BoolOp .And (a :: b :: rest) pos) (tAnd tA tB') := by
  intro wh pins s σ H Q I h
  refine isTrue_and (thn (ha pins s σ H _ I h) fun c s1 ⟨H1, I1, q1⟩ => ?_)
  cases c with
  | true => exact hb wh pins s1 σ H1 Q I1 q1
  | false => exact ⟨H1, I1, q1⟩
theorem pw_or (ha : PT X a tA) (hb : PW X (.BoolOp .Or (b :: rest) pos) tB') : PW X (.BoolOp .Or (a :: b :: rest) pos) (tOr tA tB') := by
  intro wh pins s σ H Q I h
  refine isTrue_or (thn (ha pins s σ H _ I h) fun c s1 ⟨H1, I1, q1⟩ => ?_)
  cases c with
  | true => exact ⟨H1, I1, q1⟩
  | false => exact hb wh pins s1 σ H1 Q I1 q1
theorem pt_not (ha : PT X a tA) : PT X (.UnaryOp .Not a pos) (tNot tA) := by
  intro pins s σ H Q I h
  exact isTrue_not (ha pins s σ H (fun c H1 => Q (!c) H1) I h)
def tAndV (ta tb : TE) : TE := fun σ H Q => ta σ H fun x H1 => ∃ c, x = .bl c ∧ if c = true then tb σ H1 Q else Q (.bl false) H1
def tNotV (ta : TE) : TE := fun σ H Q => ta σ H fun x H1 => ∃ c, x = .bl c ∧ Q (.bl (!c)) H1
theorem pe_one {op} {t : TE} (h : PE X a t) : PE X (.BoolOp op [a] pos) t := fun pins s σ H Q I hw => BoolOp_one (h pins s σ H Q I hw)
theorem pe_and (ha : PE X a ta) (hb : PE X (.BoolOp .And (b :: rest) pos) tb) : PE X (.BoolOp .And (a :: b :: rest) pos) (tAndV ta tb) := by
  intro pins s σ H Q I h
  refine BoolOp_and (thn (ha pins s σ H _ I h) fun v s1 ⟨x, H1, I1, r1, q1⟩ => ?_)
  obtain ⟨c, rfl, q1⟩ := q1
  cases r1
  refine wpAny_truthy_bool ?_
  cases c with
  | true => exact hb pins s1 σ H1 Q I1 q1
  | false => exact ⟨.bl false, H1, I1, rfl, q1⟩
theorem pe_not (ha : PE X a ta) : PE X (.UnaryOp .Not a pos) (tNotV ta) := by
  intro pins s σ H Q I h
  refine UnaryOp_ (thn (ha pins s σ H _ I h) fun v s1 ⟨x, H1, I1, r1, q1⟩ => ?_)
  obtain ⟨c, rfl, q1⟩ := q1
  cases r1
  exact not_of (wpAny_truthy_bool ⟨.bl (!c), H1, I1, rfl, q1⟩)
def tIf (t : TT) (ta tb : TE) : TE := fun σ H Q => t σ H fun c H1 => if c = true then ta σ H1 Q else tb σ H1 Q
theorem pe_ifExp {c : Expr} (hc : PT X c tA) (ha : PE X a ta) (hb : PE X b tb) : PE X (.IfExp c a b pos) (tIf tA ta tb) := by
  intro pins s σ H Q I h
  refine wpAny_IfExp (thn (hc pins s σ H _ I h) fun d s1 ⟨H1, I1, q1⟩ => ?_)
  cases d with
  | true => exact ha pins s1 σ H1 Q I1 q1
  | false => exact hb pins s1 σ H1 Q I1 q1
end
end L2

namespace L2
open PySem PySem.Spec PyProof.Rows

def SqL (K : PySem.W.Frag) (H : Hp) (a : Addr) (xs : List V) : Prop :=
  Rd H a (.lst xs) ∨
    ∃ (o : Obj) (its : Array Value) (n : Nat), K.lookup a = some o ∧ o.cls = .type "list" ∧ o.dict = none ∧ o.data = .seq its n ∧ its.size ≤ sizeLine ∧ Vals xs its.toList
def SqT (K : PySem.W.Frag) (H : Hp) (a : Addr) (xs : List V) : Prop :=
  Rd H a (.tup xs) ∨
    ∃ (o : Obj) (its : Array Value) (n : Nat), K.lookup a = some o ∧ o.cls = .type "tuple" ∧ o.data = .seq its n ∧ its.size ≤ sizeLine ∧ Vals xs its.toList
def absV : Value → Option V
  | .none => some .non
  | .bool b => some (.bl b)
  | .int i _ => some (.int i)
  | .str x _ => some (.str x)
  | .bytes b _ => some (.byt b)
  | .float b _ => some (.flt b)
  | .ref a => some (.ref a)
  | .type n => some (.ty n)
  | _ => none
theorem RelV.abs {x : V} {u : Value} (r : RelV x u) : absV u = some x := by
  cases x with
  | non => cases r; rfl
  | bl _ => cases r; rfl
  | int _ => obtain ⟨t, rfl⟩ := r; rfl
  | str _ => obtain ⟨t, rfl⟩ := r; rfl
  | byt _ => obtain ⟨t, rfl⟩ := r; rfl
  | flt _ => obtain ⟨t, rfl⟩ := r; rfl
  | ref _ => cases r; rfl
  | ty _ => cases r; rfl
theorem RelV.inj {x y : V} {u : Value} (r : RelV x u) (q : RelV y u) : x = y := Option.some.inj (r.abs.symm.trans q.abs)
theorem Vals.inj : ∀ {xs ys : List V} {us : List Value}, Vals xs us → Vals ys us → xs = ys
  | _, _, _, .nil, .nil => rfl
  | _, _, _, .cons r t, .cons r' t' => by rw [r.inj r', Vals.inj t t']
section
variable {X : Cx} {pins : List (Addr × Obj)} {σ : St} {H : Hp} {s : Shared} {a : Addr} {xs ys : List V}
theorem SqL.of {K : PySem.W.Frag} (h : H a = some (.lst xs)) : SqL K H a xs := .inl (.inl h)
theorem SqT.of {K : PySem.W.Frag} (h : H a = some (.tup xs)) : SqT K H a xs := .inl (.inl h)
theorem Inv.list (I : Inv X pins σ H s) (h : SqL X.K H a xs) : ∃ its : List Value, Vals xs its ∧ PlainL s.heap a its.toArray ∧ xs.length ≤ sizeLine := by
  rcases h with h | ⟨o, its, n, hk, hc, hd, hs, hz, r⟩
  · obtain ⟨z, its, n, r, e⟩ := h.ok I.hok
    exact ⟨its, r, ⟨_, n, e, rfl, rfl, rfl⟩, z⟩
  · refine ⟨its.toList, r, ⟨o, n, I.kIn a o hk, hc, hd, by simpa using hs⟩, ?_⟩
    have e := r.length
    simp only [Array.length_toList] at e
    omega
theorem Inv.tuple (I : Inv X pins σ H s) (h : SqT X.K H a xs) : ∃ its : List Value, Vals xs its ∧ IsTup s.heap a its.toArray ∧ xs.length ≤ sizeLine := by
  rcases h with h | ⟨o, its, n, hk, hc, hs, hz, r⟩
  · obtain ⟨z, its, r, p⟩ := h.ok I.hok
    exact ⟨its, r, p, z⟩
  · refine ⟨its.toList, r, ⟨o, I.kIn a o hk, hc, n, by simpa using hs⟩, ?_⟩
    have e := r.length
    simp only [Array.length_toList] at e
    omega
theorem Inv.list_inj (I : Inv X pins σ H s) (h : SqL X.K H a xs) (h' : SqL X.K H a ys) : xs = ys := by
  obtain ⟨its, r, ⟨o, n, e, _, _, d⟩, _⟩ := I.list h
  obtain ⟨its', r', ⟨o', n', e', _, _, d'⟩, _⟩ := I.list h'
  rw [e] at e'; cases e'
  rw [d] at d'
  injection d' with d1 _
  have : its = its' := by simpa using congrArg Array.toList d1
  subst this
  exact r.inj r'
theorem Inv.tuple_inj (I : Inv X pins σ H s) (h : SqT X.K H a xs) (h' : SqT X.K H a ys) : xs = ys := by
  obtain ⟨its, r, ⟨o, e, _, n, d⟩, _⟩ := I.tuple h
  obtain ⟨its', r', ⟨o', e', _, n', d'⟩, _⟩ := I.tuple h'
  rw [e] at e'; cases e'
  rw [d] at d'
  injection d' with d1 _
  have : its = its' := by simpa using congrArg Array.toList d1
  subst this
  exact r.inj r'
end

abbrev Cx.wish (X : Cx) (E : Value → Shared → Prop) : Cx := { X with xe := E }
abbrev Cx.nox (X : Cx) : Cx := X.wish fun _ _ => False
theorem Cx.Ok.wish {X : Cx} (ok : X.Ok) (E : Value → Shared → Prop) : (X.wish E).Ok :=
  ⟨ok.mod, ok.kind, ok.glob, ok.blt, ok.above, ok.inj, ok.has, ok.cab, ok.hd, ok.frames, ok.stk, ok.exf, ok.bs, ok.bsz, ok.noex, ok.exfs, ok.funs, ok.frf⟩
theorem Cx.Ok.unwish {X : Cx} {E : Value → Shared → Prop} (ok : (X.wish E).Ok) : X.Ok :=
  ⟨ok.mod, ok.kind, ok.glob, ok.blt, ok.above, ok.inj, ok.has, ok.cab, ok.hd, ok.frames, ok.stk, ok.exf, ok.bs, ok.bsz, ok.noex, ok.exfs, ok.funs, ok.frf⟩
section
variable {X : Cx} {pins : List (Addr × Obj)} {σ : St} {H : Hp} {s : Shared} {E : Value → Shared → Prop}
theorem Inv.wish (I : Inv X pins σ H s) (E : Value → Shared → Prop) : Inv (X.wish E) pins σ H s := ⟨I.ok.wish E, I.os, I.bare, I.base, I.loc, I.cell, I.free, I.freeC, I.pin, I.hok, I.len⟩
theorem Inv.unwish (I : Inv (X.wish E) pins σ H s) : Inv X pins σ H s := ⟨I.ok.unwish, I.os, I.bare, I.base, I.loc, I.cell, I.free, I.freeC, I.pin, I.hok, I.len⟩
theorem SP.unwish {D : Ends} {f : Flow} {s' : Shared} (h : SP (X.wish E) pins D f s') : SP X pins D f s' := by
  cases f with
  | next => obtain ⟨σ', H', I, q⟩ := h; exact ⟨σ', H', I.unwish, q⟩
  | brk => obtain ⟨σ', H', I, q⟩ := h; exact ⟨σ', H', I.unwish, q⟩
  | cont => obtain ⟨σ', H', I, q⟩ := h; exact ⟨σ', H', I.unwish, q⟩
  | ret u => obtain ⟨v, σ', H', I, r, q⟩ := h; exact ⟨v, σ', H', I.unwish, r, q⟩
theorem PE.nox {e : Expr} {t : TE} (h : PE X.nox e t) : PE X e t := fun pins s σ H Q I hw =>
  wpAny_mono (h pins s σ H Q (I.wish _) hw) (fun _ _ ⟨v, H', I', r, q⟩ => ⟨v, H', I'.unwish, r, q⟩) fun _ _ z => False.elim z
theorem PT.nox {e : Expr} {t : TT} (h : PT X.nox e t) : PT X e t := fun pins s σ H Q I hw =>
  wpAny_mono (h pins s σ H Q (I.wish _) hw) (fun _ _ ⟨H', I', q⟩ => ⟨H', I'.unwish, q⟩) fun _ _ z => False.elim z
theorem PSs.nox {st : List Stmt} {t : TS} (h : PSs X.nox st t) : PSs X st t := fun pins s σ H D I hw =>
  wpAny_mono (h pins s σ H D (I.wish _) hw) (fun _ _ q => q.unwish) fun _ _ z => False.elim z
end

section
variable {X : Cx} {st : Stmt} {rest : List Stmt} {t u : TS} {e : Expr} {te : TE} {pos : Pos}
def tNext : TS := fun D σ H => D.nx σ H
def tSeq (t u : TS) : TS := fun D σ H => t { D with nx := u D } σ H
theorem pss_nil : PSs X [] tNext := fun _ _ σ H _ I h => wpAny_execs_nil ⟨σ, H, I, h⟩
theorem pss_cons (h1 : PS X st t) (h2 : PSs X rest u) : PSs X (st :: rest) (tSeq t u) := by
  intro pins s σ H D I h
  refine wpAny_execs_cons (thn (h1 pins s σ H { D with nx := u D } I h) fun f s1 q => ?_)
  cases f with
  | next =>
    obtain ⟨σ', H', I', q⟩ := q
    exact h2 pins s1 σ' H' D I' q
  | ret v => exact q
  | brk => exact q
  | cont => exact q
theorem pss_one (h1 : PS X st t) : PSs X [st] t := by
  intro pins s σ H D I h
  refine wpAny_execs_cons (thn (h1 pins s σ H D I h) fun f s1 q => ?_)
  cases f with
  | next => exact wpAny_execs_nil q
  | ret v => exact q
  | brk => exact q
  | cont => exact q
def tCont : TS := fun D σ H => D.ct σ H
theorem ps_continue : PS X (.Continue pos) tCont := fun _ _ σ H _ I h => wpAny_Continue ⟨σ, H, I, h⟩
theorem Inv.quiet {pins : List (Addr × Obj)} {σ : St} {H : Hp} {s : Shared} (I : Inv X pins σ H s) : interactive X.env = false := by simp [interactive, I.ok.kind]
def tDrop (te : TE) : TS := fun D σ H => te σ H fun _ H1 => D.nx σ H1
theorem ps_expr (he : PE X e te) (hs : swapsWith e none pos.line X.env = pure false := by rfl) : PS X (.Expr e pos) (tDrop te) := by
  intro pins s σ H D I h
  exact wpAny_Expr_any (thn (he pins s σ H _ I h) fun v s1 ⟨x, H1, I1, r1, q1⟩ => ⟨σ, H1, I1, q1⟩) I.quiet hs
def tRet (te : TE) : TS := fun D σ H => te σ H D.rt
theorem ps_ret (he : PE X e te) : PS X (.Return (some e) pos) (tRet te) := by
  intro pins s σ H D I h
  exact wpAny_Return_some (thn (he pins s σ H _ I h) fun v s1 ⟨x, H1, I1, r1, q1⟩ => ⟨x, σ, H1, I1, r1, q1⟩)
def tIfS (c : TT) (t u : TS) : TS := fun D σ H => c σ H fun b H1 => if b = true then t D σ H1 else u D σ H1
theorem ps_if {c : Expr} {a b : List Stmt} {tc : TT} (hc : PT X c tc) (ha : PSs X a t) (hb : PSs X b u) : PS X (.If c a b pos) (tIfS tc t u) := by
  intro pins s σ H D I h
  refine wpAny_If (thn (hc pins s σ H _ I h) fun d s1 ⟨H1, I1, q1⟩ => ?_)
  cases d with
  | true => exact ha pins s1 σ H1 D I1 q1
  | false => exact hb pins s1 σ H1 D I1 q1
end

abbrev TG := V → St → Hp → (St → Hp → Prop) → Prop
abbrev TGs := List V → St → Hp → (St → Hp → Prop) → Prop
def PG (X : Cx) (target : Expr) (t : TG) : Prop :=
  ∀ (pins : List (Addr × Obj)) (s : Shared) (σ : St) (H : Hp) (v : V) (u : Value) (Q : St → Hp → Prop), Inv X pins σ H s → RelV v u → t v σ H Q →
    wpAny (model X.prog X.w) X.A (assign target X.env u) (fun _ s' => ∃ σ' H', Inv X pins σ' H' s' ∧ Q σ' H') X.xe s
def PGs (X : Cx) (ts : List Expr) (t : TGs) : Prop :=
  ∀ (pins : List (Addr × Obj)) (s : Shared) (σ : St) (H : Hp) (vs : List V) (us : List Value) (Q : St → Hp → Prop), Inv X pins σ H s → Vals vs us → t vs σ H Q →
    wpAny (model X.prog X.w) X.A (assignInOrder ((assignEach ts X.env).map (·.2)) us) (fun _ s' => ∃ σ' H', Inv X pins σ' H' s' ∧ Q σ' H') X.xe s
abbrev TSet := V → V → V → Hp → (Hp → Prop) → Prop
def PSet (X : Cx) (t : TSet) : Prop :=
  ∀ (pins : List (Addr × Obj)) (s : Shared) (σ : St) (H : Hp) (o i v : V) (ov iv u : Value) (Q : Hp → Prop), Inv X pins σ H s → RelV o ov → RelV i iv → RelV v u → t o i v H Q →
    wpAny (model X.prog X.w) X.A (setItem ov iv u) (fun _ s' => ∃ H', Inv X pins σ H' s' ∧ Q H') X.xe s
section
variable {X : Cx} {pos : Pos}
def gName (i : Nat) : TG := fun v σ H Q => Q (σ.set i (some v)) H
theorem pg_name {i : Nat} {x : Str} (hN : X.N.Nodup) (hi : X.N[i]? = some x) (hx : Loc X.env.scope x) (hf : X.fn x = true ∨ X.env.scope.names.lookup x = some .local := by first | exact .inl rfl | exact .inr rfl | assumption) : PG X (.Name x pos) (gName i) := by
  intro pins s σ H v u Q I r h
  exact wpAny_assign_Name (store_ok I hN hi hx r (fun s' I' => ⟨_, H, I', h⟩) hf)
def gNil : TGs := fun vs σ H Q => vs = [] ∧ Q σ H
def gCons (t : TG) (u : TGs) : TGs := fun vs σ H Q => ∃ v r, vs = v :: r ∧ t v σ H fun σ' H' => u r σ' H' Q
theorem pgs_nil : PGs X [] gNil := by
  intro pins s σ H vs us Q I r h
  obtain ⟨e, h⟩ := h
  subst e
  cases r
  exact assignInOrder_nil ⟨σ, H, I, h⟩
theorem pgs_cons {e : Expr} {es : List Expr} {t : TG} {u : TGs} (h1 : PG X e t) (h2 : PGs X es u)
    (hs : (assignEach (e :: es) X.env).map (·.2) = assign e X.env :: (assignEach es X.env).map (·.2) := by rfl) : PGs X (e :: es) (gCons t u) := by
  intro pins s σ H vs us Q I r h
  obtain ⟨v, vr, e1, h⟩ := h
  subst e1
  cases r with
  | cons r rr =>
    rw [hs]
    refine assignInOrder_cons (thn (h1 pins s σ H _ _ _ I r h) fun _ s1 ⟨σ1, H1, I1, q1⟩ => ?_)
    exact h2 pins s1 σ1 H1 _ _ Q I1 rr q1
def gTup (K : PySem.W.Frag) (n : Nat) (t : TGs) : TG := fun v σ H Q => ∃ a xs, v = .ref a ∧ SqT K H a xs ∧ xs.length = n ∧ t xs σ H Q
theorem pg_tup {es : List Expr} {k : Nat} {t : TGs} {n : Nat} (hc : X.calm = true) (h : PGs X es t)
    (hn : (assignEach es X.env).length = n := by rfl) (hst : (assignEach es X.env).findIdx? (·.1) = none := by rfl) : PG X (.Tuple es k pos) (gTup X.K n t) := by
  intro pins s σ H v u Q I r hw
  obtain ⟨a, xs, e1, hq, hl, hw⟩ := hw
  subst e1
  cases r
  obtain ⟨its, rv, ht, hz⟩ := I.tuple hq
  refine assign_Tuple_tuple (I.ok.hd hc) ht (by simp [hn, ← hl, rv.length]) hst fun h' hx => ?_
  have I1 : Inv X pins σ H { s with heap := h' } := I.kept (t' := s.toks) fun b o e => hx b o (Nat.ne_of_lt (Heap.lt_size e)) e
  exact h pins _ σ H xs _ Q I1 (by simpa using rv) hw
def gSub (to ti : TE) (t : TSet) : TG := fun v σ H Q => to σ H fun o H1 => ti σ H1 fun i H2 => t o i v H2 fun H3 => Q σ H3
theorem pg_sub {o i : Expr} {to ti : TE} {t : TSet} (ho : PE X o to) (hi : PE X i ti) (hs : PSet X t)
    (ha : ∀ v, assign (.Subscript o i pos) X.env v = (do
      let ov ← holding [v] (eval o X.env)
      let iv ← holding [v, ov] (eval i X.env)
      standAt pos
      holding [v, ov, iv] (setItem ov iv v)
      release [v, ov, iv] []) := by intro _; rfl) : PG X (.Subscript o i pos) (gSub to ti t) := by
  intro pins s σ H v u Q I r h
  rw [ha]
  refine wpAny_bind (wpAny_holding (thn (ho pins s σ H _ I h) fun ov s1 ⟨x, H1, I1, r1, q1⟩ => ?_))
  refine wpAny_bind (wpAny_holding (thn (hi pins s1 σ H1 _ I1 q1) fun iv s2 ⟨y, H2, I2, r2, q2⟩ => ?_))
  refine wpAny_bind (wpAny_standAt (wpAny_bind (wpAny_holding (thn (hs pins s2 σ H2 x y v ov iv u _ I2 r1 r2 r q2) fun _ s3 ⟨H3, I3, q3⟩ => ?_))))
  exact wpAny_release ⟨σ, H3, I3, q3⟩
def tAsg (te : TE) (g : TG) : TS := fun D σ H => te σ H fun x H1 => g x σ H1 D.nx
theorem ps_asg {tg e : Expr} {te : TE} {g : TG} (he : PE X e te) (hg : PG X tg g) (hs : swapsWithSole [tg] e pos.line X.env = pure false := by rfl) (hw : swappedStores [tg] e X.env = pure none := by rfl)
    (h1 : (assignEach [tg] X.env).map (·.2) = [assign tg X.env] := by rfl) : PS X (.Assign [tg] e pos) (tAsg te g) := by
  intro pins s σ H D I h
  refine wpAny_Assign_stores (thn (he pins s σ H _ I h) fun v s1 ⟨x, H1, I1, r1, q1⟩ => ?_) hs hw
  rw [h1]
  exact thn (hg pins s1 σ H1 x v _ I1 r1 q1) fun _ s2 q => q
theorem ps_set {i : Nat} {x : Str} {e : Expr} {te : TE} {pos' : Pos} (hN : X.N.Nodup) (hi : X.N[i]? = some x) (hx : Loc X.env.scope x) (he : PE X e te) (hs : swapsWith e (some (.Name x pos')) pos.line X.env = pure false := by rfl) (hf : X.fn x = true ∨ X.env.scope.names.lookup x = some .local := by first | exact .inl rfl | exact .inr rfl | assumption) :
    PS X (.Assign [.Name x pos'] e pos) (tAsg te (gName i)) := by
  intro pins s σ H D I h
  refine wpAny_Assign_Name (thn (he pins s σ H _ I h) fun v s1 ⟨y, H1, I1, r1, q1⟩ => ?_) hs
  exact store_ok I1 hN hi hx r1 (fun s2 I2 => ⟨_, H1, I2, q1⟩) hf
def tPar (i j : Nat) (ta : TA) : TS := fun D σ H => ta σ H fun vs H1 => ∃ v w, vs = [v, w] ∧ D.nx ((σ.set i (some v)).set j (some w)) H1
theorem ps_par {i j : Nat} {x y : Str} {a b : Expr} {ta : TA} {px py pt : Pos} {kt k2 pt2} (hc : X.calm = true) (hN : X.N.Nodup) (hi : X.N[i]? = some x) (hj : X.N[j]? = some y) (hij : i ≠ j)
    (hx : X.env.scope.names.lookup x = some .local) (hy : X.env.scope.names.lookup y = some .local) (ha : PA X [a, b] ta)
    (hw : swappedStores [.Tuple [.Name x px, .Name y py] kt pt] (.Tuple [a, b] k2 pt2) X.env = pure (some [x, y]))
    (hs : swapsWithSole [.Tuple [.Name x px, .Name y py] kt pt] (.Tuple [a, b] k2 pt2) pos.line X.env = pure false := by rfl) :
    PS X (.Assign [.Tuple [.Name x px, .Name y py] kt pt] (.Tuple [a, b] k2 pt2) pos) (tPar i j ta) := by
  intro pins s σ H D I h
  rw [exec_Assign_arm]
  refine wpAny_bind (wpAny_standAt ?_)
  rw [hs]
  refine wpAny_bind (wpAny_pure ?_)
  rw [if_neg (by decide)]
  refine wpAny_bind (Tuple_ (thn (ha _ pins s σ H _ I h) fun us s1 ⟨vs, H1, I1, r1, q1⟩ => ?_))
  obtain ⟨v, w, e1, q1⟩ := q1
  subst e1
  obtain ⟨u1, u2, rfl, rv, rw'⟩ : ∃ u1 u2, us = [u1, u2] ∧ RelV v u1 ∧ RelV w u2 := by
    cases r1 with
    | cons p q =>
      cases q with
      | cons p' q' =>
        cases q'
        exact ⟨_, _, rfl, p, p'⟩
  refine wpAny_newObj_type ?_ (by show 2 ≤ sizeLine; decide)
  have I2 : Inv X pins σ H1 { s1 with heap := s1.heap.push { cls := .type "tuple", data := .seq [u1, u2].toArray } } := I1.kept (t' := s1.toks) fun b o e => Heap.get?_push_of_some _ e
  rw [hw]
  refine wpAny_bind (wpAny_pure ?_)
  show wpAny (model X.prog X.w) X.A (do rule "assign.swapped-stores"; let items ← unpackItems (.ref s1.heap.objs.size) 2 none; assignInOrder [fun v => bindName X.env y v, fun v => bindName X.env x v] items.reverse; pure Flow.next) _ _ _
  refine wpAny_bind (wpAny_rule (wpAny_bind (unpackItems_tuple (items := #[u1, u2]) (I.ok.hd hc) (IsTup.new s1.heap _) fun h' hx' => ?_)))
  have I3 := I2.kept (h' := h') (t' := s1.toks) fun b o e => hx' b o (Nat.ne_of_lt (Heap.lt_size e)) e
  show wpAny _ _ (assignInOrder [fun v => bindName X.env y v, fun v => bindName X.env x v] [u2, u1] >>= fun _ => pure Flow.next) _ _ _
  refine wpAny_bind (assignInOrder_cons (wpAny_bindName (store_ok I3 hN hj (.inl hy) rw' (fun s2 I4 => ?_) (.inr hy))))
  refine assignInOrder_cons (wpAny_bindName (store_ok I4 hN hi (.inl hx) rv (fun s3 I5 => assignInOrder_nil (wpAny_pure ?_)) (.inr hx)))
  rw [List.set_comm _ _ (Ne.symm hij)] at I5
  exact ⟨_, H1, I5, q1⟩
end

section
variable {X : Cx} {pos : Pos}
def tWhile (c : TT) (tb : TS) : TS := fun D σ H => ∃ W : Nat → St → Hp → Prop, (∃ m, W m σ H) ∧ ∀ m σ H, W m σ H →
  c σ H fun b H1 => if b = true then ∃ N : St → Hp → Prop, (∀ σ' H', N σ' H' → ∃ m', m' < m ∧ W m' σ' H') ∧ tb { D with nx := N, ct := N, bk := D.nx } σ H1 else D.nx σ H1
theorem ps_while {c : Expr} {body : List Stmt} {tc : TT} {tb : TS} (hp : PassesOwn (model X.prog X.w) X.A X.env X.xe) (hc : PT X c tc) (hb : PSs X body tb) : PS X (.While c body [] pos) (tWhile tc tb) := by
  intro pins s σ H D I h
  obtain ⟨W, ⟨m0, w0⟩, turn⟩ := h
  refine wpAny_While (codeAny_whileLoop (fun n s' => ∃ σ' H', Inv X pins σ' H' s' ∧ W n σ' H') ?_ m0 ⟨σ, H, I, w0⟩)
  rintro n s1 ⟨σ1, H1, I1, w1⟩
  refine wpAny_passesOwn hp (thn (hc pins s1 σ1 H1 _ I1 (turn n σ1 H1 w1)) fun b s2 ⟨H2, I2, q2⟩ => ?_)
  cases b with
  | true =>
    obtain ⟨N, hN, q2⟩ := q2
    rw [if_pos rfl]
    refine wpAny_passesOwn hp (thn (hb pins s2 σ1 H2 _ I2 q2) fun f s3 q3 => ?_)
    cases f with
    | next =>
      obtain ⟨σ3, H3, I3, n3⟩ := q3
      obtain ⟨m', hm, w3⟩ := hN σ3 H3 n3
      exact ⟨m', hm, σ3, H3, I3, w3⟩
    | cont =>
      obtain ⟨σ3, H3, I3, n3⟩ := q3
      obtain ⟨m', hm, w3⟩ := hN σ3 H3 n3
      exact ⟨m', hm, σ3, H3, I3, w3⟩
    | brk => exact q3
    | ret v => exact q3
  | false =>
    rw [if_neg Bool.false_ne_true]
    exact wpAny_execs_nil ⟨σ1, H2, I2, q2⟩
end

structure It where
  go : Nat → Hp → Prop
  yld : Nat → Hp → V → Hp → Prop
  stop : Nat → Hp → Prop
def FpOk (X : Cx) (pins : List (Addr × Obj)) (H : Hp) (b : Addr) : Prop :=
  H b = none ∧ b ≠ X.env.locals ∧ b ∉ X.fs ∧ (b ∈ X.ex ∨ X.s_0.heap.objs.size ≤ b) ∧ (∀ x c, X.env.cells.lookup x = some c → c ≠ b) ∧ ∀ p ∈ X.pn ++ pins, p.1 ≠ b
theorem Inv.fpOk {X : Cx} {pins : List (Addr × Obj)} {σ : St} {H H' : Hp} {s : Shared} {b : Addr} (I : Inv X pins σ H s) (hb : s.heap.objs.size ≤ b) (hn : H' b = none) : FpOk X pins H' b := by
  refine ⟨hn, Nat.ne_of_gt (Nat.lt_of_lt_of_le I.lt hb), I.nofs hb, .inr (Nat.le_trans I.sz hb), fun x c e z => ?_, fun p hp z => ?_⟩
  · obtain ⟨v, q⟩ := I.cell x c e
    exact absurd (Nat.lt_of_lt_of_le q.lt (by rw [z]; exact hb)) (Nat.lt_irrefl _)
  · exact absurd (Nat.lt_of_lt_of_le (Heap.lt_size (I.pin p hp).1) (by rw [z]; exact hb)) (Nat.lt_irrefl _)
structure Turn (P : Program) (w : World) (K : PySem.W.Frag) (tg : Expr) (J : It) (fp : List Addr) (it : Addr) (tn : Nat → Heap → Prop) : Prop where
  mem : it ∈ fp
  obj : ∀ i h, tn i h → ∀ b ∈ fp, ∃ o, h.get? b = some o ∧ ∀ v, o.data ≠ .cell v
  keep : ∀ i h h', tn i h → (∀ b ∈ fp, ∀ o, h.get? b = some o → h'.get? b = some o) → tn i h'
  item : ∀ (X : Cx), X.prog = P → X.w = w → X.K = K → X.calm = true → ∀ (i : Nat) (pins : List (Addr × Obj)) (s : Shared) (σ : St) (H : Hp) (E : Value → Shared → Prop), Inv X pins σ H s → (∀ b ∈ fp, FpOk X pins H b) → tn i s.heap → J.go i H →
    wpAny (model P w) X.A (pyNext (.ref it)) (fun r s1 => ∃ u, r = some u ∧
      wpAny (model P w) X.A (letOwnedTupleGo tg (.ref it) u) (fun _ s2 => ∃ x H', Inv X pins σ H' s2 ∧ RelV x u ∧ J.yld i H x H' ∧ tn (i + 1) s2.heap ∧ ∀ b ∈ fp, H' b = none) E s1) E s
  done : ∀ (X : Cx), X.prog = P → X.w = w → X.K = K → X.calm = true → ∀ (i : Nat) (pins : List (Addr × Obj)) (s : Shared) (σ : St) (H : Hp) (E : Value → Shared → Prop), Inv X pins σ H s → (∀ b ∈ fp, FpOk X pins H b) → tn i s.heap → J.stop i H →
    wpAny (model P w) X.A (pyNext (.ref it)) (fun r s1 => r = none ∧ Inv X pins σ H s1) E s
  self : ∀ (A : Around) (i : Nat) (s : Shared) (Q : Value → Shared → Prop) (E : Value → Shared → Prop), tn i s.heap → Q (.ref it) s → wpAny (model P w) A (pyIter (.ref it)) Q E s
abbrev TI := St → Hp → (It → Hp → Prop) → Prop
def PIE (X : Cx) (pins : List (Addr × Obj)) (σ : St) (tg : Expr) (R : It → Hp → Prop) (itv : Value) (s2 : Shared) : Prop :=
  ∃ (it : Addr) (fp : List Addr) (tn : Nat → Heap → Prop) (J : It) (H' : Hp), itv = .ref it ∧ Inv X pins σ H' s2 ∧ Turn X.prog X.w X.K tg J fp it tn ∧ tn 0 s2.heap ∧ (∀ b ∈ fp, FpOk X pins H' b) ∧ R J H'
def PI (X : Cx) (tg iter : Expr) (wi : TI) : Prop :=
  ∀ (pins : List (Addr × Obj)) (s : Shared) (σ : St) (H : Hp) (R : It → Hp → Prop), Inv X pins σ H s → wi σ H R →
    wpAny (model X.prog X.w) X.A (eval iter X.env) (fun v s1 => wpAny (model X.prog X.w) X.A (pyIter v) (PIE X pins σ tg R) X.xe s1) X.xe s

theorem go_of {M : Model} {A : Around} {E : Value → Shared → Prop} {s : Shared} {tg : Expr} {it : Addr} {u : Value} {o : Obj} {n : String} {vs : Array Value} {Q : Unit → Shared → Prop} (ho : s.heap.get? it = some o) (hc : o.cls = .type n) (hd : o.data = .fields vs)
    (hn : ["enumerate", "zip", "dict_itemiterator", "dict_reverseitemiterator", "odict_iterator", "itertools.zip_longest", "itertools.pairwise"].contains n = false) (hQ : Q () s) : wpAny M A (letOwnedTupleGo tg (.ref it) u) Q E s := by
  unfold letOwnedTupleGo
  cases tg <;> first
    | exact wpAny_pure hQ
    | (cases u <;> first
        | exact wpAny_pure hQ
        | (refine wpAny_bind (wpAny_load ho ?_)
           rw [hc, hd]
           show wpAny M A (if (["enumerate", "zip", "dict_itemiterator", "dict_reverseitemiterator", "odict_iterator", "itertools.zip_longest", "itertools.pairwise"].contains n && vs[0]? == some (rawInt _)) = true then _ else _) Q E s
           rw [if_neg (by intro h; rw [hn, Bool.false_and] at h; cases h)]
           exact wpAny_pure hQ))

def Itl (K : PySem.W.Frag) (a : Addr) : It :=
  ⟨fun i H => ∃ xs x, SqL K H a xs ∧ xs[i]? = some x, fun i H x H' => H' = H ∧ ∀ xs, SqL K H a xs → xs[i]? = some x, fun i H => ∃ xs, SqL K H a xs ∧ xs.length ≤ i⟩
def Itt (K : PySem.W.Frag) (a : Addr) : It :=
  ⟨fun i H => ∃ xs x, SqT K H a xs ∧ xs[i]? = some x, fun i H x H' => H' = H ∧ ∀ xs, SqT K H a xs → xs[i]? = some x, fun i H => ∃ xs, SqT K H a xs ∧ xs.length ≤ i⟩
def Itr (lo : Int) (n : Nat) : It := ⟨fun i _ => i < n, fun i H x H' => H' = H ∧ x = .int (lo + i), fun i _ => n ≤ i⟩
theorem turn_list {P : Program} {w : World} {K : PySem.W.Frag} {tg : Expr} (a it : Addr) : Turn P w K tg (Itl K a) [it] it (fun i h => h.IsListIter it a i) where
  mem := by simp
  obj := fun i h st b hb => by
    have e : b = it := by simpa using hb
    subst e
    obtain ⟨o, e, c, d⟩ := st
    exact ⟨o, e, fun v z => by rw [d] at z; cases z⟩
  keep := fun i h h' st k => st.at fun o e => k it (by simp) o e
  item := by
    intro X hP hw hK hc i pins s σ H E I hf st hg
    subst hP hw hK
    obtain ⟨xs, x, hq, hx⟩ := hg
    obtain ⟨its, rv, p, hz⟩ := I.list hq
    obtain ⟨u, hu, ru⟩ := rv.get hx
    obtain ⟨f0, f1, f2, f3, f4, f5⟩ := hf it (by simp)
    refine wpAny_pyNext_list_item st p.isList (x := u) (by simpa using hu) fun h' st' sb => ?_
    have I1 : Inv X pins σ H { s with heap := h' } := I.turned (t' := s.toks) (fun b o hb e => (sb.2 b hb).trans e) f0 f1 f3 f4 f5
    obtain ⟨o, e, c, d⟩ := id st'
    exact ⟨u, rfl, go_of (s := { s with heap := h' }) e c d (by decide) ⟨x, H, I1, ru, ⟨rfl, fun ys hy => by rw [I.list_inj hy hq]; exact hx⟩, st', fun b hb => (hf b hb).1⟩⟩
  done := by
    intro X hP hw hK hc i pins s σ H E I hf st hg
    subst hP hw hK
    obtain ⟨xs, hq, hx⟩ := hg
    obtain ⟨its, rv, p, hz⟩ := I.list hq
    obtain ⟨f0, f1, f2, f3, f4, f5⟩ := hf it (by simp)
    have hl := rv.length
    exact wpAny_pyNext_list_end (I.ok.hd hc) st p.isList (by simp; omega) fun h' eb => ⟨rfl, I.turned (t' := s.toks) (fun b o hb e => eb b o hb e) f0 f1 f3 f4 f5⟩
  self := fun _ _ _ _ _ st h => wpAny_pyIter_listiter st h
theorem turn_tuple {P : Program} {w : World} {K : PySem.W.Frag} {tg : Expr} (a it : Addr) : Turn P w K tg (Itt K a) [it] it (fun i h => h.IsTupleIter it a i) where
  mem := by simp
  obj := fun i h st b hb => by
    have e : b = it := by simpa using hb
    subst e
    obtain ⟨o, e, c, d⟩ := st
    exact ⟨o, e, fun v z => by rw [d] at z; cases z⟩
  keep := fun i h h' st k => st.at fun o e => k it (by simp) o e
  item := by
    intro X hP hw hK hc i pins s σ H E I hf st hg
    subst hP hw hK
    obtain ⟨xs, x, hq, hx⟩ := hg
    obtain ⟨its, rv, p, hz⟩ := I.tuple hq
    obtain ⟨u, hu, ru⟩ := rv.get hx
    obtain ⟨f0, f1, f2, f3, f4, f5⟩ := hf it (by simp)
    refine wpAny_pyNext_tuple_item st (show s.heap.IsTuple a its.toArray from p) (x := u) (by simpa using hu) fun h' st' sb => ?_
    have I1 : Inv X pins σ H { s with heap := h' } := I.turned (t' := s.toks) (fun b o hb e => (sb.2 b hb).trans e) f0 f1 f3 f4 f5
    obtain ⟨o, e, c, d⟩ := id st'
    exact ⟨u, rfl, go_of (s := { s with heap := h' }) e c d (by decide) ⟨x, H, I1, ru, ⟨rfl, fun ys hy => by rw [I.tuple_inj hy hq]; exact hx⟩, st', fun b hb => (hf b hb).1⟩⟩
  done := by
    intro X hP hw hK hc i pins s σ H E I hf st hg
    subst hP hw hK
    obtain ⟨xs, hq, hx⟩ := hg
    obtain ⟨its, rv, p, hz⟩ := I.tuple hq
    obtain ⟨f0, f1, f2, f3, f4, f5⟩ := hf it (by simp)
    have hl := rv.length
    exact wpAny_pyNext_tuple_end (I.ok.hd hc) st (show s.heap.IsTuple a its.toArray from p) (by simp; omega) fun h' eb => ⟨rfl, I.turned (t' := s.toks) (fun b o hb e => eb b o hb e) f0 f1 f3 f4 f5⟩
  self := fun _ _ _ _ _ st h => wpAny_pyIter_tupleiter st h
theorem turn_range {P : Program} {w : World} {K : PySem.W.Frag} {tg : Expr} (it : Addr) (lo : Int) (n : Nat) : Turn P w K tg (Itr lo n) [it] it (fun i h => IsRangeIter h it (lo + (i : Nat) * 1) ((n : Int) - (i : Nat)) 1) where
  mem := by simp
  obj := fun i h st b hb => by
    have e : b = it := by simpa using hb
    subst e
    exact ⟨_, st, fun v z => by
      have z' : Data.fields _ = Data.cell v := z
      cases z'⟩
  keep := fun i h h' st k => k it (by simp) _ st
  item := by
    intro X hP hw hK hc i pins s σ H E I hf st hg
    subst hP hw hK
    obtain ⟨f0, f1, f2, f3, f4, f5⟩ := hf it (by simp)
    have W := Walks.range (prog := X.prog) (w := X.w) (I.ok.hd hc) it lo 1 n
    refine W.item i s _ _ hg st fun v h' tk hv st' kk => ?_
    obtain ⟨t, rfl⟩ := hv
    have I1 : Inv X pins σ H { s with heap := h', toks := tk } := I.turned (fun b o hb e => kk b o (by simpa using hb) e) f0 f1 f3 f4 f5
    refine ⟨_, rfl, go_of (s := { s with heap := h', toks := tk }) (n := "range_iterator") st' rfl rfl (by decide) ⟨.int (lo + i), H, I1, ⟨t, ?_⟩, ⟨rfl, rfl⟩, st', fun b hb => (hf b hb).1⟩⟩
    rw [Int.mul_one]
  done := by
    intro X hP hw hK hc i pins s σ H E I hf st hg
    subst hP hw hK
    obtain ⟨f0, f1, f2, f3, f4, f5⟩ := hf it (by simp)
    exact wpAny_pyNext_range_end (I.ok.hd hc) st (by have : n ≤ i := hg; omega) fun h' eb => ⟨rfl, I.turned (t' := s.toks) (fun b o hb e => eb b o hb e) f0 f1 f3 f4 f5⟩
  self := fun _ _ _ _ _ st h => wpAny_pyIter_rangeiter st h
end L2

namespace L2
open PySem PySem.Spec PyProof.Rows
section
variable {X : Cx} {tg : Expr}
def iList (K : PySem.W.Frag) (tl : TE) : TI := fun σ H R => tl σ H fun x H1 => ∃ a, x = .ref a ∧ (∃ xs, SqL K H1 a xs) ∧ R (Itl K a) H1
def iTup (K : PySem.W.Frag) (tl : TE) : TI := fun σ H R => tl σ H fun x H1 => ∃ a, x = .ref a ∧ (∃ xs, SqT K H1 a xs) ∧ R (Itt K a) H1
theorem pi_list {l : Expr} {tl : TE} (hl : PE X l tl) : PI X tg l (iList X.K tl) := by
  intro pins s σ H R I h
  refine thn (hl pins s σ H _ I h) fun v s1 ⟨x, H1, I1, r1, q1⟩ => ?_
  obtain ⟨a, e, ⟨xs, hq⟩, q⟩ := q1
  subst e
  cases r1
  obtain ⟨its, rv, p, hz⟩ := I1.list hq
  refine wpAny_pyIter_list p.isList ?_
  refine ⟨s1.heap.objs.size, [s1.heap.objs.size], _, _, H1, rfl, I1.kept (t' := s1.toks) fun b o e => Heap.get?_push_of_some _ e, turn_list a _, ⟨_, Heap.get?_push_size _ rfl, rfl, rfl⟩, fun b hb => ?_, q⟩
  have e : b = s1.heap.objs.size := by simpa using hb
  subst e
  exact I1.fpOk (Nat.le_refl _) (I1.hok.fresh (Nat.le_refl _))
theorem pi_tup {l : Expr} {tl : TE} (hl : PE X l tl) : PI X tg l (iTup X.K tl) := by
  intro pins s σ H R I h
  refine thn (hl pins s σ H _ I h) fun v s1 ⟨x, H1, I1, r1, q1⟩ => ?_
  obtain ⟨a, e, ⟨xs, hq⟩, q⟩ := q1
  subst e
  cases r1
  obtain ⟨its, rv, p, hz⟩ := I1.tuple hq
  refine wpAny_pyIter_tuple (show s1.heap.IsTuple a its.toArray from p) ?_
  refine ⟨s1.heap.objs.size, [s1.heap.objs.size], _, _, H1, rfl, I1.kept (t' := s1.toks) fun b o e => Heap.get?_push_of_some _ e, turn_tuple a _, ⟨_, Heap.get?_push_size _ rfl, rfl, rfl⟩, fun b hb => ?_, q⟩
  have e : b = s1.heap.objs.size := by simpa using hb
  subst e
  exact I1.fpOk (Nat.le_refl _) (I1.hok.fresh (Nat.le_refl _))
theorem range_it {pins : List (Addr × Obj)} {σ : St} {H : Hp} {s : Shared} {R : It → Hp → Prop} {E : Value → Shared → Prop} {lo hi : Int} {t u v : Tok} {tk : Nat} (I : Inv X pins σ H s) (h1 : -(2 ^ 62) ≤ lo) (h2 : lo < 2 ^ 62) (h3 : -(2 ^ 62) ≤ hi) (h4 : hi < 2 ^ 62)
    (q : R (Itr lo (hi - lo).toNat) H) : wpAny (model X.prog X.w) X.A (pyIter (.ref s.heap.objs.size)) (PIE X pins σ tg R) E { s with heap := s.heap.push { cls := .type "range", data := .fields #[.int lo t, .int hi u, .int 1 v] }, toks := tk } := by
  refine wpAny_pyIter_range (IsRange.new ..) (small_one h1 h2 h3 h4) ?_
  have I1 : Inv X pins σ H { s with heap := s.heap.push { cls := .type "range", data := .fields #[.int lo t, .int hi u, .int 1 v] }, toks := tk } := I.kept fun b o e => Heap.get?_push_of_some _ e
  refine ⟨(s.heap.push { cls := .type "range", data := .fields #[.int lo t, .int hi u, .int 1 v] }).objs.size, [(s.heap.push { cls := .type "range", data := .fields #[.int lo t, .int hi u, .int 1 v] }).objs.size], _, _, H, rfl,
    I1.kept (t' := tk) fun b o e => Heap.get?_push_of_some _ e, turn_range _ lo (hi - lo).toNat, ?_, fun b hb => ?_, q⟩
  · have e1 : lo + ((0 : Nat) : Int) * 1 = lo := by simp
    have e2 : (((hi - lo).toNat : Nat) : Int) - ((0 : Nat) : Int) = Builtin.Range.rangeSize lo hi 1 := by rw [rangeSize_one]; split <;> omega
    show IsRangeIter _ _ (lo + ((0 : Nat) : Int) * 1) ((((hi - lo).toNat : Nat) : Int) - ((0 : Nat) : Int)) 1
    rw [e1, e2]
    exact Heap.get?_push_size _ rfl
  · have e : b = (s.heap.push { cls := .type "range", data := .fields #[.int lo t, .int hi u, .int 1 v] }).objs.size := by simpa using hb
    subst e
    exact I1.fpOk (Nat.le_refl _) (I1.hok.fresh (Nat.le_refl _))
def iRng1 (ta : TA) : TI := fun σ H R => ta σ H fun vs H1 => ∃ j : Int, vs = [.int j] ∧ -(2 ^ 62) ≤ j ∧ j < 2 ^ 62 ∧ R (Itr 0 j.toNat) H1
def iRng2 (ta : TA) : TI := fun σ H R => ta σ H fun vs H1 => ∃ i j : Int, vs = [.int i, .int j] ∧ (-(2 ^ 62) ≤ i ∧ i < 2 ^ 62 ∧ -(2 ^ 62) ≤ j ∧ j < 2 ^ 62) ∧ R (Itr i (j - i).toNat) H1
theorem pi_range1 {a : Expr} {ta : TA} {p pos : Pos} (hg : Gl X "range") (hm : X.mg "range" = none) (ha : PA X [a] ta) (hs : starEach [a] X.env = [(false, eval a X.env)] := by rfl) : PI X tg (.Call (.Name "range" p) [a] [] pos) (iRng1 ta) := by
  intro pins s σ H R I h
  refine Call_ (ld_blt I hg hm boot_range (PyProof.Rows.callWith_type1 (thn (ha pos pins s σ H _ I h) fun us s1 ⟨vs, H1, I1, r1, q1⟩ => ?_) hs rfl))
  obtain ⟨j, e, q1, q2, q⟩ := q1
  subst e
  cases r1 with
  | cons r rr =>
    cases rr
    obtain ⟨t, rfl⟩ := r
    exact call_range_1 (range_it I1 (by omega) (by omega) q1 q2 (by simpa using q))
theorem pi_range2 {a b : Expr} {ta : TA} {p pos : Pos} (hg : Gl X "range") (hm : X.mg "range" = none) (ha : PA X [a, b] ta) (hs : starEach [a, b] X.env = [(false, eval a X.env), (false, eval b X.env)] := by rfl) (hs2 : starEach [b] X.env = [(false, eval b X.env)] := by rfl) :
    PI X tg (.Call (.Name "range" p) [a, b] [] pos) (iRng2 ta) := by
  intro pins s σ H R I h
  refine Call_ (ld_blt I hg hm boot_range (PyProof.Rows.callWith_type1 (thn (ha pos pins s σ H _ I h) fun us s1 ⟨vs, H1, I1, r1, q1⟩ => ?_) (by rw [hs, hs2]) (by rw [hs2]; rfl)))
  obtain ⟨i, j, e, ⟨q1, q2, q3, q4⟩, q⟩ := q1
  subst e
  cases r1 with
  | cons r rr =>
    cases rr with
    | cons r' rr =>
      cases rr
      obtain ⟨t, rfl⟩ := r
      obtain ⟨t', rfl⟩ := r'
      exact call_range_2 (range_it I1 q1 q2 q3 q4 q)

def tFor (wi : TI) (g : TG) (tb : TS) : TS := fun D σ H => wi σ H fun J H1 => ∃ W : Nat → Nat → St → Hp → Prop, (∃ m, W 0 m σ H1) ∧ ∀ i m σ H, W i m σ H →
  (J.stop i H ∧ D.nx σ H) ∨ (J.go i H ∧ ∃ N : St → Hp → Prop, (∀ σ' H', N σ' H' → ∃ m', m' < m ∧ W (i + 1) m' σ' H') ∧ ∀ x H', J.yld i H x H' → g x σ H' fun σ2 H2 => tb { D with nx := N, ct := N, bk := D.nx } σ2 H2)
def pinsAt (fp : List Addr) (h : Heap) : List (Addr × Obj) := fp.filterMap fun b => (h.get? b).map fun o => (b, o)
theorem mem_pinsAt {fp : List Addr} {h : Heap} {b : Addr} {o : Obj} (hb : b ∈ fp) (e : h.get? b = some o) : (b, o) ∈ pinsAt fp h := List.mem_filterMap.mpr ⟨b, hb, by rw [e]; rfl⟩
theorem of_pinsAt {fp : List Addr} {h : Heap} {p : Addr × Obj} (hp : p ∈ pinsAt fp h) : p.1 ∈ fp ∧ h.get? p.1 = some p.2 := by
  obtain ⟨b, hb, e⟩ := List.mem_filterMap.mp hp
  cases q : h.get? b with
  | none => rw [q] at e; cases e
  | some o =>
    rw [q] at e
    have e' : (b, o) = p := Option.some.inj e
    subst e'
    exact ⟨hb, q⟩
theorem Inv.pinned {pins : List (Addr × Obj)} {σ : St} {H : Hp} {s : Shared} {fp : List Addr} (I : Inv X pins σ H s) (hf : ∀ b ∈ fp, FpOk X pins H b) (ho : ∀ b ∈ fp, ∃ o, s.heap.get? b = some o ∧ ∀ v, o.data ≠ .cell v) : Inv X (pins ++ pinsAt fp s.heap) σ H s :=
  I.pins_of fun p hp => (List.mem_append.mp hp).elim (fun z => I.pin p (List.mem_append_right _ z)) fun z => by
    obtain ⟨hb, e⟩ := of_pinsAt z
    obtain ⟨f0, f1, f2, _⟩ := hf p.1 hb
    obtain ⟨o, e', d⟩ := ho p.1 hb
    rw [e] at e'; cases e'
    exact ⟨e, f0, f1, f2, d⟩
theorem Inv.unpinned {pins pl : List (Addr × Obj)} {σ : St} {H : Hp} {s : Shared} (I : Inv X (pins ++ pl) σ H s) : Inv X pins σ H s := I.pins_of fun p hp => I.pin p (List.mem_append_right _ (List.mem_append_left _ hp))
theorem ps_for {iter : Expr} {body : List Stmt} {wi : TI} {g : TG} {tb : TS} {pos : Pos} (hp : PassesOwn (model X.prog X.w) X.A X.env X.xe) (hc : X.calm = true) (hi : PI X tg iter wi) (hg : PG X tg g) (hb : PSs X body tb)
    (hs : ∀ x, foldedSetIterable iter X.env x = pure x := by intro _; rfl) : PS X (.For tg iter body [] pos) (tFor wi g tb) := by
  intro pins s σ H D I h
  refine wpAny_For (thn (hi pins s σ H _ I h) fun v s1 h1 => thn h1 fun itv s2 h2 => ?_) hs
  obtain ⟨it, fp, tn, J, H2, e, I2, T, st2, f2, W, ⟨m0, w0⟩, turn⟩ := h2
  subst e
  have stat : ∀ {H' : Hp}, (∀ b ∈ fp, H' b = none) → ∀ b ∈ fp, FpOk X pins H' b := fun hn b hb => ⟨hn b hb, (f2 b hb).2⟩
  refine codeAny_forLoop_any (fun n s' => ∃ i σ' H', Inv X pins σ' H' s' ∧ tn i s'.heap ∧ (∀ b ∈ fp, H' b = none) ∧ W i n σ' H') ?_ m0 ⟨0, σ, H2, I2, st2, fun b hb => (f2 b hb).1, w0⟩
  rintro n s3 ⟨i, σ3, H3, I3, st3, fr3, w3⟩
  rcases turn i n σ3 H3 w3 with ⟨stop, qn⟩ | ⟨go, N, hN, step⟩
  · refine wpAny_passesOwn hp (thn (T.done X rfl rfl rfl hc i pins s3 σ3 H3 X.xe I3 (stat fr3) st3 stop) fun r s4 ⟨hr, I4⟩ => ?_)
    subst hr
    exact wpAny_execs_nil ⟨σ3, H3, I4, qn⟩
  · refine wpAny_passesOwn hp (thn (T.item X rfl rfl rfl hc i pins s3 σ3 H3 X.xe I3 (stat fr3) st3 go) fun r s4 ⟨u, hr, h4⟩ => ?_)
    subst hr
    refine wpAny_passesOwn hp (thn h4 fun _ s5 ⟨x, H5, I5, r5, y5, st5, fr5⟩ => ?_)
    have I5' := I5.pinned (stat fr5) (T.obj _ _ st5)
    refine wpAny_passesOwn hp (thn (hg _ s5 σ3 H5 x u _ I5' r5 (step x H5 y5)) fun _ s6 ⟨σ6, H6, I6, q6⟩ => ?_)
    refine wpAny_passesOwn hp (thn (hb _ s6 σ6 H6 _ I6 q6) fun f s7 q7 => ?_)
    have again : ∀ {σ7 : St} {H7 : Hp}, Inv X (pins ++ pinsAt fp s5.heap) σ7 H7 s7 → N σ7 H7 → ∃ m, m < n ∧ ∃ i σ' H', Inv X pins σ' H' s7 ∧ tn i s7.heap ∧ (∀ b ∈ fp, H' b = none) ∧ W i m σ' H' := fun {σ7 H7} I7 n7 => by
      obtain ⟨m', hm, w7⟩ := hN σ7 H7 n7
      refine ⟨m', hm, i + 1, σ7, H7, I7.unpinned, T.keep _ _ _ st5 fun b hb o e => (I7.pin (b, o) (List.mem_append_right _ (List.mem_append_right _ (mem_pinsAt hb e)))).1, fun b hb => ?_, w7⟩
      obtain ⟨o, e, d⟩ := T.obj _ _ st5 b hb
      exact (I7.pin (b, o) (List.mem_append_right _ (List.mem_append_right _ (mem_pinsAt hb e)))).2.1
    cases f with
    | next => obtain ⟨σ7, H7, I7, n7⟩ := q7; exact again I7 n7
    | cont => obtain ⟨σ7, H7, I7, n7⟩ := q7; exact again I7 n7
    | brk => obtain ⟨σ7, H7, I7, q7⟩ := q7; exact ⟨σ7, H7, I7.unpinned, q7⟩
    | ret v => obtain ⟨x7, σ7, H7, I7, r7, q7⟩ := q7; exact ⟨x7, σ7, H7, I7.unpinned, r7, q7⟩
end

theorem for_list {K : PySem.W.Frag} {a : Addr} {xs : List V} {g : TG} {tb : TS} {D : Ends} {σ : St} {H : Hp} (Pv : Nat → St → Hp → Prop) (h0 : Pv 0 σ H) (hl : ∀ i σ H, i ≤ xs.length → Pv i σ H → SqL K H a xs)
    (hs : ∀ i x σ H, xs[i]? = some x → Pv i σ H → g x σ H fun σ2 H2 => tb { D with nx := Pv (i + 1), ct := Pv (i + 1), bk := D.nx } σ2 H2) (hd : ∀ σ H, Pv xs.length σ H → D.nx σ H) :
    ∃ W : Nat → Nat → St → Hp → Prop, (∃ m, W 0 m σ H) ∧ ∀ i m σ H, W i m σ H →
      ((Itl K a).stop i H ∧ D.nx σ H) ∨ ((Itl K a).go i H ∧ ∃ N : St → Hp → Prop, (∀ σ' H', N σ' H' → ∃ m', m' < m ∧ W (i + 1) m' σ' H') ∧ ∀ x H', (Itl K a).yld i H x H' → g x σ H' fun σ2 H2 => tb { D with nx := N, ct := N, bk := D.nx } σ2 H2) := by
  refine ⟨fun i m σ H => m = xs.length - i ∧ i ≤ xs.length ∧ Pv i σ H, ⟨xs.length, by simp, Nat.zero_le _, h0⟩, ?_⟩
  rintro i m σ H ⟨rfl, hi, p⟩
  have q := hl i σ H hi p
  by_cases hlt : i < xs.length
  · refine .inr ⟨⟨xs, xs[i], q, by simp [hlt]⟩, Pv (i + 1), fun σ' H' p' => ⟨xs.length - (i + 1), by omega, rfl, hlt, p'⟩, fun x H' y => ?_⟩
    obtain ⟨e, y⟩ := y
    subst e
    exact hs i x σ _ (y xs q) p
  · have e : i = xs.length := by omega
    subst e
    exact .inl ⟨⟨xs, q, Nat.le_refl _⟩, hd σ H p⟩
theorem for_tup {K : PySem.W.Frag} {a : Addr} {xs : List V} {g : TG} {tb : TS} {D : Ends} {σ : St} {H : Hp} (Pv : Nat → St → Hp → Prop) (h0 : Pv 0 σ H) (hl : ∀ i σ H, i ≤ xs.length → Pv i σ H → SqT K H a xs)
    (hs : ∀ i x σ H, xs[i]? = some x → Pv i σ H → g x σ H fun σ2 H2 => tb { D with nx := Pv (i + 1), ct := Pv (i + 1), bk := D.nx } σ2 H2) (hd : ∀ σ H, Pv xs.length σ H → D.nx σ H) :
    ∃ W : Nat → Nat → St → Hp → Prop, (∃ m, W 0 m σ H) ∧ ∀ i m σ H, W i m σ H →
      ((Itt K a).stop i H ∧ D.nx σ H) ∨ ((Itt K a).go i H ∧ ∃ N : St → Hp → Prop, (∀ σ' H', N σ' H' → ∃ m', m' < m ∧ W (i + 1) m' σ' H') ∧ ∀ x H', (Itt K a).yld i H x H' → g x σ H' fun σ2 H2 => tb { D with nx := N, ct := N, bk := D.nx } σ2 H2) := by
  refine ⟨fun i m σ H => m = xs.length - i ∧ i ≤ xs.length ∧ Pv i σ H, ⟨xs.length, by simp, Nat.zero_le _, h0⟩, ?_⟩
  rintro i m σ H ⟨rfl, hi, p⟩
  have q := hl i σ H hi p
  by_cases hlt : i < xs.length
  · refine .inr ⟨⟨xs, xs[i], q, by simp [hlt]⟩, Pv (i + 1), fun σ' H' p' => ⟨xs.length - (i + 1), by omega, rfl, hlt, p'⟩, fun x H' y => ?_⟩
    obtain ⟨e, y⟩ := y
    subst e
    exact hs i x σ _ (y xs q) p
  · have e : i = xs.length := by omega
    subst e
    exact .inl ⟨⟨xs, q, Nat.le_refl _⟩, hd σ H p⟩
theorem for_range {lo : Int} {n : Nat} {g : TG} {tb : TS} {D : Ends} {σ : St} {H : Hp} (Pv : Nat → St → Hp → Prop) (h0 : Pv 0 σ H)
    (hs : ∀ i σ H, i < n → Pv i σ H → g (.int (lo + i)) σ H fun σ2 H2 => tb { D with nx := Pv (i + 1), ct := Pv (i + 1), bk := D.nx } σ2 H2) (hd : ∀ σ H, Pv n σ H → D.nx σ H) :
    ∃ W : Nat → Nat → St → Hp → Prop, (∃ m, W 0 m σ H) ∧ ∀ i m σ H, W i m σ H →
      ((Itr lo n).stop i H ∧ D.nx σ H) ∨ ((Itr lo n).go i H ∧ ∃ N : St → Hp → Prop, (∀ σ' H', N σ' H' → ∃ m', m' < m ∧ W (i + 1) m' σ' H') ∧ ∀ x H', (Itr lo n).yld i H x H' → g x σ H' fun σ2 H2 => tb { D with nx := N, ct := N, bk := D.nx } σ2 H2) := by
  refine ⟨fun i m σ H => m = n - i ∧ i ≤ n ∧ Pv i σ H, ⟨n, by simp, Nat.zero_le _, h0⟩, ?_⟩
  rintro i m σ H ⟨rfl, hi, p⟩
  by_cases hlt : i < n
  · refine .inr ⟨hlt, Pv (i + 1), fun σ' H' p' => ⟨n - (i + 1), by omega, rfl, hlt, p'⟩, fun x H' y => ?_⟩
    obtain ⟨e, y⟩ := y
    subst e y
    exact hs i σ _ hlt p
  · have e : i = n := by omega
    subst e
    exact .inl ⟨Nat.le_refl _, hd σ H p⟩
end L2

namespace L2
open PySem PySem.Spec PyProof.Rows

abbrev R2 := V → V → Hp → VK → Prop
def OpR (X : Cx) (f : Value → Value → Sem Value) (r : R2) : Prop :=
  ∀ (pins : List (Addr × Obj)) (s : Shared) (σ : St) (H : Hp) (x y : V) (v u : Value) (Q : VK), Inv X pins σ H s → RelV x v → RelV y u → r x y H Q →
    wpAny (model X.prog X.w) X.A (f v u) (EP X pins σ Q) X.xe s
def UnR (X : Cx) (f : Value → Sem Value) (r : V → Hp → VK → Prop) : Prop :=
  ∀ (pins : List (Addr × Obj)) (s : Shared) (σ : St) (H : Hp) (x : V) (v : Value) (Q : VK), Inv X pins σ H s → RelV x v → r x H Q →
    wpAny (model X.prog X.w) X.A (f v) (EP X pins σ Q) X.xe s
def CallR (X : Cx) (f : Value) (r : List V → Hp → VK → Prop) : Prop :=
  ∀ (pins : List (Addr × Obj)) (s : Shared) (σ : St) (H : Hp) (xs : List V) (us : List Value) (Q : VK), Inv X pins σ H s → Vals xs us → r xs H Q →
    wpAny (model X.prog X.w) X.A (call f us) (EP X pins σ Q) X.xe s
def TruR (X : Cx) (r : V → Hp → (Bool → Hp → Prop) → Prop) : Prop :=
  ∀ (pins : List (Addr × Obj)) (s : Shared) (σ : St) (H : Hp) (x : V) (v : Value) (Q : Bool → Hp → Prop), Inv X pins σ H s → RelV x v → r x H Q →
    wpAny (model X.prog X.w) X.A (truthy v) (TP X pins σ Q) X.xe s

def tOp (r : R2) (ta tb : TE) : TE := fun σ H Q => ta σ H fun x H1 => tb σ H1 fun y H2 => r x y H2 Q
def tUn (r : V → Hp → VK → Prop) (ta : TE) : TE := fun σ H Q => ta σ H fun x H1 => r x H1 Q
def rI (C : Int → Int → Prop) (g : Int → Int → V) : R2 := fun x y H Q => ∃ i j, x = .int i ∧ y = .int j ∧ C i j ∧ Q (g i j) H
def rI0 (g : Int → Int → V) : R2 := fun x y H Q => ∃ i j, x = .int i ∧ y = .int j ∧ Q (g i j) H
def rU (g : Int → V) : V → Hp → VK → Prop := fun x H Q => ∃ i, x = .int i ∧ Q (g i) H

section
variable {X : Cx} {a b c : Expr} {ta tb tc : TE} {pos : Pos}

theorem binT (ha : PE X a ta) (hb : PE X b tb) {pins : List (Addr × Obj)} {s : Shared} {σ : St} {H : Hp} {R : V → V → Hp → Prop} (I : Inv X pins σ H s)
    (h : ta σ H fun x H1 => tb σ H1 fun y H2 => R x y H2) {Q : Value → Shared → Prop} {f : Value → Value → Sem Value}
    (hf : ∀ v u s2 x y H2, Inv X pins σ H2 s2 → RelV x v → RelV y u → R x y H2 → wpAny (model X.prog X.w) X.A (f v u) Q X.xe s2) :
    wpAny (model X.prog X.w) X.A (eval a X.env) (fun v s₁ => wpAny (model X.prog X.w) X.A (eval b X.env) (fun u s₂ => wpAny (model X.prog X.w) X.A (f v u) Q X.xe s₂) X.xe s₁) X.xe s := by
  refine thn (ha pins s σ H _ I h) fun v s1 ⟨x, H1, I1, r1, q1⟩ => ?_
  refine thn (hb pins s1 σ H1 _ I1 q1) fun u s2 ⟨y, H2, I2, r2, q2⟩ => ?_
  exact hf v u s2 x y H2 I2 r1 r2 q2

theorem pe_op {op : Operator} {r : R2} (ho : OpR X (binaryOp op) r) (ha : PE X a ta) (hb : PE X b tb) : PE X (.BinOp a op b pos) (tOp r ta tb) := by
  intro pins s σ H Q I h
  exact wpAny_BinOp (binT ha hb I h fun v u s2 x y H2 I2 rx ry q => ho pins s2 σ H2 x y v u Q I2 rx ry q)
theorem pe_un {op : UnaryOp} {r : V → Hp → VK → Prop} (ho : UnR X (unaryOp op) r) (ha : PE X a ta) : PE X (.UnaryOp op a pos) (tUn r ta) := by
  intro pins s σ H Q I h
  exact UnaryOp_ (thn (ha pins s σ H _ I h) fun v s1 ⟨x, H1, I1, r1, q1⟩ => ho pins s1 σ H1 x v Q I1 r1 q1)
theorem opI {f : Value → Value → Sem Value} {C : Int → Int → Prop} {g : Int → Int → Int}
    (rule : ∀ (i j : Int) (t u : Tok) (s : Shared) (Q : Value → Shared → Prop) (E : Value → Shared → Prop), C i j → Q (.int (g i j) s.toks) { s with toks := s.toks + 1 } → wpAny (model X.prog X.w) X.A (f (.int i t) (.int j u)) Q E s) :
    OpR X f (rI C fun i j => .int (g i j)) := by
  intro pins s σ H x y v u Q I rx ry h
  obtain ⟨i, j, rfl, rfl, hc, q⟩ := h
  obtain ⟨t, rfl⟩ := rx
  obtain ⟨t', rfl⟩ := ry
  exact rule i j t t' s _ _ hc ⟨.int (g i j), H, I.tok _, ⟨_, rfl⟩, q⟩
theorem opI0 {f : Value → Value → Sem Value} {g : Int → Int → Int}
    (rule : ∀ (i j : Int) (t u : Tok) (s : Shared) (Q : Value → Shared → Prop) (E : Value → Shared → Prop), Q (.int (g i j) s.toks) { s with toks := s.toks + 1 } → wpAny (model X.prog X.w) X.A (f (.int i t) (.int j u)) Q E s) :
    OpR X f (rI0 fun i j => .int (g i j)) := by
  intro pins s σ H x y v u Q I rx ry h
  obtain ⟨i, j, rfl, rfl, q⟩ := h
  obtain ⟨t, rfl⟩ := rx
  obtain ⟨t', rfl⟩ := ry
  exact rule i j t t' s _ _ ⟨.int (g i j), H, I.tok _, ⟨_, rfl⟩, q⟩
theorem opB0 {f : Value → Value → Sem Value} {g : Int → Int → Bool}
    (rule : ∀ (i j : Int) (t u : Tok) (s : Shared) (Q : Value → Shared → Prop) (E : Value → Shared → Prop), Q (.bool (g i j)) s → wpAny (model X.prog X.w) X.A (f (.int i t) (.int j u)) Q E s) :
    OpR X f (rI0 fun i j => .bl (g i j)) := by
  intro pins s σ H x y v u Q I rx ry h
  obtain ⟨i, j, rfl, rfl, q⟩ := h
  obtain ⟨t, rfl⟩ := rx
  obtain ⟨t', rfl⟩ := ry
  exact rule i j t t' s _ _ ⟨.bl (g i j), H, I, rfl, q⟩

def CDiv (i j : Int) : Prop := 0 < j ∧ j < 1073741824
def CPow (i j : Int) : Prop := 0 ≤ j ∧ j ≤ 1000000 ∧ i.natAbs < 2 ^ 64
def CMul (i j : Int) : Prop := (-(2 ^ 64) < i ∧ i < 2 ^ 64) ∨ (-(2 ^ 64) < j ∧ j < 2 ^ 64)
theorem CMul.ok {i j : Int} (h : CMul i j) : IntMulOk i j := by
  rcases h with ⟨h1, h2⟩ | ⟨h1, h2⟩
  · exact .of_left (intBits_le_64 h1 h2)
  · exact .of_right (intBits_le_64 h1 h2)
theorem op_add : OpR X (binaryOp .Add) (rI0 fun i j => .int (i + j)) := opI0 fun _ _ _ _ _ _ _ q => add_int q
theorem op_sub : OpR X (binaryOp .Sub) (rI0 fun i j => .int (i - j)) := opI0 fun _ _ _ _ _ _ _ q => sub_int q
theorem op_fdiv : OpR X (binaryOp .FloorDiv) (rI CDiv fun i j => .int (i / j)) := opI fun i j _ _ _ _ _ hc q => by
  have h1 : (0 : Int) < j := hc.1
  have h2 : j < 1073741824 := hc.2
  exact floordiv_int (by omega) (by rw [Int.fdiv_eq_ediv_of_nonneg i (by omega)]; exact q) (.inl (PyProof.noPylong_small (by omega)))
theorem op_mod : OpR X (binaryOp .Mod) (rI (fun _ j => 0 < j) fun i j => .int (i % j)) := opI fun i j _ _ _ _ _ hc q => by
  have h1 : (0 : Int) < j := hc
  exact mod_int' (by omega) (by rw [Int.fmod_eq_emod_of_nonneg i (by omega)]; exact q)
theorem op_pow : OpR X (binaryOp .Pow) (rI CPow fun i j => .int (i ^ j.toNat)) := opI fun _ _ _ _ _ _ _ hc q => pow_int_small hc.1 hc.2.1 hc.2.2 q
theorem unI {f : Value → Sem Value} {g : Int → Int}
    (rule : ∀ (i : Int) (t : Tok) (s : Shared) (Q : Value → Shared → Prop) (E : Value → Shared → Prop), Q (.int (g i) s.toks) { s with toks := s.toks + 1 } → wpAny (model X.prog X.w) X.A (f (.int i t)) Q E s) :
    UnR X f (rU fun i => .int (g i)) := by
  intro pins s σ H x v Q I rx h
  obtain ⟨i, rfl, q⟩ := h
  obtain ⟨t, rfl⟩ := rx
  exact rule i t s _ _ ⟨.int (g i), H, I.tok _, ⟨_, rfl⟩, q⟩
theorem un_neg : UnR X (unaryOp .USub) (rU fun i => .int (-i)) := unI fun _ _ _ _ _ q => neg_int q
end

def scal : V → V → Bool
  | .non, .non => true | .non, .int _ => true | .int _, .non => true | .non, .bl _ => true | .bl _, .non => true | .non, .str _ => true | .str _, .non => true
  | .int _, .int _ => true | .bl _, .bl _ => true | .str _, .str _ => true | .byt _, .byt _ => true
  | .int _, .str _ => true | .str _, .int _ => true | .bl _, .str _ => true | .str _, .bl _ => true
  | _, _ => false
def rEq : R2 := fun x y H Q => scal x y = true ∧ Q (.bl (decide (x = y))) H
theorem dec_int {i j : Int} : decide (V.int i = V.int j) = (i == j) := by
  rw [Bool.eq_iff_iff]
  simp
theorem dec_bl {i j : Bool} : decide (V.bl i = V.bl j) = (i == j) := by
  rw [Bool.eq_iff_iff]
  simp
theorem dec_str {i j : Str} : decide (V.str i = V.str j) = (i == j) := by
  rw [Bool.eq_iff_iff]
  simp
theorem dec_byt {i j : Array UInt8} : decide (V.byt i = V.byt j) = (i.toList == j.toList) := by
  rw [Bool.eq_iff_iff]
  cases i
  cases j
  simp

section
variable {X : Cx} {a b c : Expr} {ta tb tc : TE} {pos : Pos}
theorem fin_bl {pins : List (Addr × Obj)} {σ : St} {H : Hp} {s : Shared} {Q : VK} {k k' : Bool} (I : Inv X pins σ H s) (q : Q (.bl k) H) (e : k = k') : EP X pins σ Q (.bool k') s := by
  subst e
  exact ⟨.bl k, H, I, rfl, q⟩
theorem op_eq : OpR X (compareOp .Eq) rEq := by
  intro pins s σ H x y v u Q I rx ry h
  obtain ⟨hs, q⟩ := h
  cases x with
  | non =>
    cases rx
    cases y with
    | non => cases ry; exact PySem.EqNone.eq_none_none (fin_bl I q (by simp))
    | bl j => cases ry; exact PySem.EqNone.eq_none_bool (fin_bl I q (by simp))
    | int j => obtain ⟨t', rfl⟩ := ry; exact PySem.EqNone.eq_none_int (fin_bl I q (by simp))
    | str j => obtain ⟨t', rfl⟩ := ry; exact PySem.EqNone.eq_none_str (fin_bl I q (by simp))
    | _ => exact absurd (show false = true from hs) Bool.false_ne_true
  | bl i =>
    cases rx
    cases y with
    | non => cases ry; exact PySem.EqNone.eq_bool_none (fin_bl I q (by simp))
    | bl j => cases ry; exact eq_bool (fin_bl I q dec_bl)
    | str j => obtain ⟨t', rfl⟩ := ry; exact PySem.EqMixed.eq_bool_str (fin_bl I q (by simp))
    | _ => exact absurd (show false = true from hs) Bool.false_ne_true
  | int i =>
    obtain ⟨t, rfl⟩ := rx
    cases y with
    | non => cases ry; exact PySem.EqNone.eq_int_none (fin_bl I q (by simp))
    | int j => obtain ⟨t', rfl⟩ := ry; exact eq_int (fin_bl I q dec_int)
    | str j => obtain ⟨t', rfl⟩ := ry; exact PySem.EqMixed.eq_int_str (fin_bl I q (by simp))
    | _ => exact absurd (show false = true from hs) Bool.false_ne_true
  | str i =>
    obtain ⟨t, rfl⟩ := rx
    cases y with
    | non => cases ry; exact PySem.EqNone.eq_str_none (fin_bl I q (by simp))
    | bl j => cases ry; exact PySem.EqMixed.eq_str_bool (fin_bl I q (by simp))
    | int j => obtain ⟨t', rfl⟩ := ry; exact PySem.EqMixed.eq_str_int (fin_bl I q (by simp))
    | str j => obtain ⟨t', rfl⟩ := ry; exact eq_str (fin_bl I q dec_str)
    | _ => exact absurd (show false = true from hs) Bool.false_ne_true
  | byt i =>
    obtain ⟨t, rfl⟩ := rx
    cases y with
    | byt j => obtain ⟨t', rfl⟩ := ry; exact PySem.W.eq_bytes (fin_bl I q dec_byt)
    | _ => exact absurd (show false = true from hs) Bool.false_ne_true
  | _ => cases y <;> exact absurd (show false = true from hs) Bool.false_ne_true
theorem op_lt : OpR X (compareOp .Lt) (rI0 fun i j => .bl (decide (i < j))) := opB0 fun _ _ _ _ _ _ _ q => lt_int q
theorem op_le : OpR X (compareOp .LtE) (rI0 fun i j => .bl (decide (i ≤ j))) := opB0 fun _ _ _ _ _ _ _ q => le_int q
theorem op_gt : OpR X (compareOp .Gt) (rI0 fun i j => .bl (decide (j < i))) := opB0 fun _ _ _ _ _ _ _ q => gt_int q
theorem op_ge : OpR X (compareOp .GtE) (rI0 fun i j => .bl (decide (j ≤ i))) := opB0 fun _ _ _ _ _ _ _ q => ge_int q
theorem op_isN : OpR X (compareOp .Is) (fun x y H Q => y = .non ∧ Q (.bl (decide (x = .non))) H) := by
  intro pins s σ H x y v u Q I rx ry h
  obtain ⟨rfl, q⟩ := h
  cases ry
  refine is_none_gen (fin_bl I q ?_)
  cases x <;> first
    | (cases rx; rfl)
    | (obtain ⟨t, rfl⟩ := rx; rfl)
theorem op_notN : OpR X (compareOp .IsNot) (fun x y H Q => y = .non ∧ Q (.bl (!decide (x = .non))) H) := by
  intro pins s σ H x y v u Q I rx ry h
  obtain ⟨rfl, q⟩ := h
  cases ry
  refine isnot_none_gen (fin_bl I q ?_)
  cases x <;> first
    | (cases rx; rfl)
    | (obtain ⟨t, rfl⟩ := rx; rfl)

theorem nomark (b : Expr) {op : CmpOp} (h : op ≠ .In := by decide) (h2 : op ≠ .NotIn := by decide) : behindInMarks op b = false := by
  have e1 : (op == CmpOp.In) = false := by cases op <;> first | rfl | exact absurd rfl h
  have e2 : (op == CmpOp.NotIn) = false := by cases op <;> first | rfl | exact absurd rfl h2
  cases b <;> simp [behindInMarks, e1, e2]
theorem pe_cmpR {op : CmpOp} {r : R2} (ho : OpR X (compareOp op) r) (ha : PE X a ta) (hb : PE X b tb) (hm : behindInMarks op b = false) : PE X (.Compare a [op] [b] pos) (tOp r ta tb) := by
  intro pins s σ H Q I h
  exact wpAny_Compare1 (binT ha hb I h fun v u s2 x y H2 I2 rx ry q => ho pins s2 σ H2 x y v u Q I2 rx ry q) hm
def tTest (t : TE) : TT := fun σ H Q => t σ H fun x H' => ∃ k, x = .bl k ∧ Q k H'
theorem pt_cmpR {op : CmpOp} {r : R2} (ho : OpR X (compareOp op) r) (ha : PE X a ta) (hb : PE X b tb) (hm : behindInMarks op b = false) : PT X (.Compare a [op] [b] pos) (tTest (tOp r ta tb)) := by
  intro pins s σ H Q I h
  refine wpAny_isTrue_Compare1 (thn (ha pins s σ H _ I h) fun v s1 ⟨x, H1, I1, r1, q1⟩ => thn (hb pins s1 σ H1 _ I1 q1) fun u s2 ⟨y, H2, I2, r2, q2⟩ =>
    thn (ho pins s2 σ H2 x y v u _ I2 r1 r2 q2) fun c s3 ⟨z, H3, I3, r3, k, e, q3⟩ => ?_) hm
  subst e
  cases r3
  exact wpAny_truthy_bool ⟨H3, I3, q3⟩
def TruV (K : PySem.W.Frag) (x : V) (H : Hp) (k : Bool) : Prop :=
  match x with
  | .non => k = false
  | .bl b => k = b
  | .int i => k = (i != 0)
  | .str y => y.length ≤ sizeLine ∧ k = ((y.length : Int) != 0)
  | .byt y => y.size ≤ sizeLine ∧ k = ((y.size : Int) != 0)
  | .ref p => (∃ xs, SqL K H p xs ∧ k = !xs.isEmpty) ∨ (∃ xs, SqT K H p xs ∧ k = !xs.isEmpty) ∨ ∃ kvs, H p = some (.dK kvs) ∧ k = !kvs.isEmpty
  | _ => False
theorem isEmpty_kv {κ : Type} {kvs : List (κ × V)} {vs : List (κ × Value)} (r : KV kvs vs) : (!vs.isEmpty) = !kvs.isEmpty := by
  cases r <;> rfl
theorem isEmpty_of {xs : List V} {its : List Value} (r : Vals xs its) : (!its.toArray.isEmpty) = !xs.isEmpty := by
  cases r <;> simp
theorem line63 : (sizeLine : Nat) < 2 ^ 63 := by rw [sizeLine_eq]; decide
theorem tru_ok : TruR X (fun x H Q => ∃ k, TruV X.K x H k ∧ Q k H) := by
  intro pins s σ H x v Q I rx h
  obtain ⟨k, e, q⟩ := h
  have hl := line63
  have hs : sizeLine = 16777216 := sizeLine_eq
  cases x with
  | non =>
    cases rx
    have e' : k = false := e
    subst e'
    exact truthy_none ⟨H, I, q⟩
  | bl b =>
    cases rx
    have e' : k = b := e
    subst e'
    exact wpAny_truthy_bool ⟨H, I, q⟩
  | int i =>
    obtain ⟨t, rfl⟩ := rx
    have e' : k = (i != 0) := e
    subst e'
    exact PySem.P.truthy_int ⟨H, I, q⟩
  | str y =>
    obtain ⟨t, rfl⟩ := rx
    obtain ⟨hy, e'⟩ : y.length ≤ sizeLine ∧ k = ((y.length : Int) != 0) := e
    subst e'
    exact PySem.P.truthy_str (by omega) ⟨H, I.tok _, q⟩
  | byt y =>
    obtain ⟨t, rfl⟩ := rx
    obtain ⟨hy, e'⟩ : y.size ≤ sizeLine ∧ k = ((y.size : Int) != 0) := e
    subst e'
    exact PySem.W.truthy_bytes (by omega) ⟨H, I.tok _, q⟩
  | ref p =>
    cases rx
    have e' : (∃ xs, SqL X.K H p xs ∧ k = !xs.isEmpty) ∨ (∃ xs, SqT X.K H p xs ∧ k = !xs.isEmpty) ∨ ∃ kvs, H p = some (.dK kvs) ∧ k = !kvs.isEmpty := e
    rcases e' with ⟨xs, hx, e'⟩ | ⟨xs, hx, e'⟩ | ⟨kvs, hx, e'⟩
    · subst e'
      obtain ⟨its, r, pl, hz⟩ := I.list hx
      have hlen := r.length
      exact wpAny_truthy_list pl.isList (by simp only [List.size_toArray]; omega) ⟨H, I.tok _, by rw [isEmpty_of r]; exact q⟩
    · subst e'
      obtain ⟨its, r, pl, hz⟩ := I.tuple hx
      have hlen := r.length
      exact truthy_tuple pl (by simp only [List.size_toArray]; omega) ⟨H, I.tok _, by rw [isEmpty_of r]; exact q⟩
    · subst e'
      obtain ⟨hz, hS, vs, r, m⟩ : kvs.length ≤ sizeLine ∧ (p == sysModules) = false ∧ ∃ vs, KV kvs vs ∧ s.heap.DictOf (mixKind X.prog X.w) p vs := I.hok p _ hx
      have hlen : kvs.length = vs.length := Paired.length r
      exact wpAny_truthy_dict hS m (by omega) ⟨H, I.tok _, by rw [isEmpty_kv r]; exact q⟩
  | _ => exact (show False from e).elim
theorem pt_truth (ha : PE X a ta) (he : ∀ whole, isTrue a X.env whole = (do let v ← whole; standAt a.pos; holding [v] (truthy v))) :
    PT X a (fun σ H Q => ta σ H fun x H' => ∃ k, TruV X.K x H' k ∧ Q k H') := by
  intro pins s σ H Q I h
  exact isTrue_plain (thn (ha pins s σ H _ I h) fun v s1 ⟨x, H1, I1, r1, q1⟩ => tru_ok pins s1 σ H1 x v Q I1 r1 q1) (he _)

theorem vals1 {x : V} {us : List Value} (r : Vals [x] us) : ∃ u, us = [u] ∧ RelV x u := by
  cases r with
  | cons r1 r2 => cases r2; exact ⟨_, rfl, r1⟩
theorem vals2 {x y : V} {us : List Value} (r : Vals [x, y] us) : ∃ u w', us = [u, w'] ∧ RelV x u ∧ RelV y w' := by
  cases r with
  | cons r1 r2 =>
    cases r2 with
    | cons r3 r4 => cases r4; exact ⟨_, _, rfl, r1, r3⟩
theorem call_min2 (hc : X.calm = true) : CallR X (.builtin "min") (fun xs H Q => ∃ i j, xs = [.int i, .int j] ∧ Q (.int (if j < i then j else i)) H) := by
  intro pins s σ H xs us Q I r h
  obtain ⟨i, j, rfl, q⟩ := h
  obtain ⟨u, w', rfl, ⟨t, rfl⟩, ⟨t', rfl⟩⟩ := vals2 r
  refine min_two_ints (I.ok.hd hc) fun h' tk k => ⟨_, H, I.kept k, ?_, q⟩
  by_cases hj : j < i
  · rw [if_pos hj, if_pos hj]; exact ⟨_, rfl⟩
  · rw [if_neg hj, if_neg hj]; exact ⟨_, rfl⟩
end
end L2

namespace L2
open PySem PySem.Spec PyProof.Rows

structure ObjM (h : Heap) (x dx C : Addr) (mA : Str → Option Value) : Prop where
  obj : h.get? x = some (PySem.W.instObj C dx)
  ns : h.Ns1 dx mA
  ne : dx ≠ x

theorem lookIn_ns {h : Heap} {dx : Addr} {mA : Str → Option Value} (n : h.Ns1 dx mA) : ∃ od, h.get? dx = some od ∧ ∀ name, PySem.W.lookIn name od = some (mA name) := by
  obtain ⟨o, es, ep, ho, hd, hk, _, hm⟩ := n
  refine ⟨o, ho, fun name => ?_⟩
  have e := hm name
  unfold nsFind findBy at e
  rw [← Array.find?_toList] at e
  unfold PySem.W.lookIn
  rw [hd]
  dsimp only
  split
  · rename_i y q
    rw [q] at e
    exact congrArg some e
  · rename_i q
    rw [q] at e
    have a : es.toList.any (·.refKey) = false := by
      rw [List.any_eq_false]
      intro y hy
      obtain ⟨z, t, hkey⟩ := hk y (Array.mem_toList_iff.mp hy)
      simp [DictEntry.refKey, hkey]
    have a' : ¬ es.toList.any (·.refKey) = true := by rw [a]; exact Bool.false_ne_true
    rw [if_neg a']
    exact congrArg some e

theorem ObjM.look {h : Heap} {x dx C : Addr} {mA : Str → Option Value} (I : ObjM h x dx C mA) : ∃ od, PySem.W.InstAt h x (PySem.W.instObj C dx) C (some od) ∧ ∀ name, PySem.W.lookIn name od = some (mA name) :=
  let ⟨od, ho, hl⟩ := lookIn_ns I.ns
  ⟨od, ⟨I.obj, rfl, rfl, ho⟩, hl⟩

section
variable {prog : Program} {w : World} {A : Around} {E : Value → Shared → Prop} {s : Shared} {K : PySem.W.Frag} {x dx C f : Addr} {mA : Str → Option Value} {name : Str} {v : Value}

theorem get_map {expr : Bool} {Q : Value → Shared → Prop} (X : K.In s.heap) (I : ObjM s.heap x dx C mA) (hg : PySem.W.plainGet K C name = true) (hh : PySem.W.hasDictIn K C = true)
    (ha : PySem.W.findIn K (.ref C) name = some none) (hv : mA name = some v) (hv' : PySem.W.handedIn v = true) (h : Q v { s with toks := s.toks + 1 }) :
    wpAny (model prog w) A (getAttr (.ref x) name expr) Q E s := by
  obtain ⟨od, J, hl⟩ := I.look
  exact PySem.W.get_value X J (PySem.W.plainGet_of hg).1 (PySem.W.findObj_own hh ha rfl (by rw [hl, hv])) hv' h

theorem get_meth {pl : Sem Bool} {Q : Value × List Value → Shared → Prop} (X : K.In s.heap) (I : ObjM s.heap x dx C mA) (hg : PySem.W.plainGet K C name = true)
    (hf : PySem.W.findIn K (.ref C) name = some (some (.ref f))) (ht : PySem.W.isFn K (.ref f) = true) (hv : mA name = none) (h : Q (.ref f, [.ref x]) s) :
    wpAny (model prog w) A (getMethod (.ref x) name pl) Q E s := by
  obtain ⟨od, J, hl⟩ := I.look
  exact PySem.W.method_fn X J (PySem.W.plainGet_of hg).1 (PySem.W.plainGet_of hg).2 hf (beq_iff_eq.mp ht) (by show (PySem.W.lookIn name od).map (·.isSome) = some false; rw [hl, hv]; rfl) h

theorem set_map {ns : List Str} {Q : Unit → Shared → Prop} (X : K.In s.heap) (I : ObjM s.heap x dx C mA)
    (hs : PySem.W.findIn K (.ref C) "__setattr__" = some (some (.builtin "object.__setattr__"))) (hp : PySem.W.plainOver K C = true) (ht : PySem.W.takerIn K C name = some none) (hh : PySem.W.hasDictIn K C = true)
    (hw : PySem.Within mA ns) (hsz : ns.length ≤ sizeLine)
    (h : ∀ h', ObjM h' x dx C (fun y => if y = name then some v else mA y) → Heap.SameBut dx s.heap h' → Q () { s with heap := h', toks := s.toks + 2 }) :
    wpAny (model prog w) A (setAttr (.ref x) name v) Q E s := by
  obtain ⟨od, J, hl⟩ := I.look
  refine PySem.W.set_plain X J hs (PySem.W.osa_open (s := { s with toks := s.toks + 1 }) (r := none) X J hp ht fun b => ?_)
  obtain ⟨cd, hc, hd'⟩ := PySem.W.any_some hh
  have hx : s.heap.get? x = some ⟨.ref C, some dx, .plain, #[]⟩ := I.obj
  refine wpAny_bind (wpAny_pure (wpAny_bind (wpAny_bind (wpAny_loadPart hx (wpAny_bind (PySem.W.Looks.here (s := { s with toks := s.toks + 1 }) (PySem.W.looks_clsIn X hc) ?_))))))
  rw [hd']
  refine wpAny_pure (a := some dx) (wpAny_bind (wpAny_pure (wpAny_bind ?_)))
  refine wpAny_nsSet1 (s := { s with toks := s.toks + 1 }) I.ns fun h' hn2 hs2 => ?_
  obtain ⟨oD, esD, epD, hoD, hdD, hcD⟩ := hn2.count (PySem.Within.cons name v hw)
  refine wpAny_bind (wpAny_lookBehind hoD (by rw [hdD]; exact pastItsLine_dict (Nat.le_trans hcD (by rw [List.length_cons]; omega))) ?_)
  exact wpAny_pure (h _ ⟨(hs2.2 _ (Ne.symm I.ne)).trans I.obj, hn2, I.ne⟩ hs2)

theorem make_map {R : Result → Shared → Prop} {vs : List Value} {kw : List (Str × Value)} (X : K.In s.heap) (hm : PySem.W.makesIn K C = true)
    (hi : PySem.W.findIn K (.ref C) "__init__" = some (some (.ref f))) (hf : PySem.W.typeIn K (.ref f) = some (.type "function"))
    (h : codeAny (model prog w) (A.under (.builtin "type.__call__" ⟨.ref C :: vs, kw⟩)) (.call (.ref f) ⟨.ref (s.heap.objs.size + 1) :: vs, kw⟩) (PySem.W.InitBack (s.heap.objs.size + 1) R)
      { s with heap := (s.heap.push PySem.W.emptyDict).push (PySem.W.instObj C s.heap.objs.size) }) :
    codeAny (model prog w) A (.call (.ref C) ⟨vs, kw⟩) R s := by
  obtain ⟨hh, g, d, t, os⟩ := s
  exact PySem.W.make_core (PySem.W.makes_of X hm) (PySem.W.looks_findIn X hi) (fun self => PySem.W.bind_fn X self hf) (.inl rfl) h
theorem make_map0 {R : Result → Shared → Prop} (X : K.In s.heap) (hm : PySem.W.makesIn K C = true)
    (hi : PySem.W.findIn K (.ref C) "__init__" = some (some (.builtin "object.__init__")))
    (hb : ∀ self, PySem.W.Looks (model prog w) s.heap (bindSpecial (.builtin "object.__init__") self) (.builtin "object.__init__", [self]))
    (h : codeAny (model prog w) (A.under (.builtin "type.__call__" ⟨[.ref C], []⟩)) (.call (.builtin "object.__init__") ⟨[.ref (s.heap.objs.size + 1)], []⟩) (PySem.W.InitBack (s.heap.objs.size + 1) R)
      { s with heap := (s.heap.push PySem.W.emptyDict).push (PySem.W.instObj C s.heap.objs.size) }) :
    codeAny (model prog w) A (.call (.ref C) ⟨[], []⟩) R s := by
  obtain ⟨hh, g, d, t, os⟩ := s
  exact PySem.W.make_core (PySem.W.makes_of X hm) (PySem.W.looks_findIn X hi) hb (.inr ⟨rfl, rfl⟩) h
end

def putF (f : Str) (v : V) : List (Str × V) → List (Str × V)
  | [] => [(f, v)]
  | (g, x) :: r => if g = f then (g, v) :: r else (g, x) :: putF f v r
theorem lookup_putF (f g : Str) (v : V) : ∀ fs : List (Str × V), (putF f v fs).lookup g = if g = f then some v else fs.lookup g
  | [] => by
    show List.lookup g [(f, v)] = _
    by_cases h : g = f
    · have hb : (g == f) = true := beq_iff_eq.mpr h
      simp only [List.lookup, hb, if_pos h]
    · have hb : (g == f) = false := beq_eq_false_iff_ne.mpr h
      simp only [List.lookup, hb, if_neg h]
  | (k, x) :: r => by
    have ih := lookup_putF f g v r
    rw [show putF f v ((k, x) :: r) = (if k = f then (k, v) :: r else (k, x) :: putF f v r) from rfl]
    by_cases hk : k = f
    · rw [if_pos hk]
      by_cases h : g = k
      · have hb : (g == k) = true := beq_iff_eq.mpr h
        simp only [List.lookup, hb, if_pos (h.trans hk)]
      · have hb : (g == k) = false := beq_eq_false_iff_ne.mpr h
        simp only [List.lookup, hb, if_neg (fun e : g = f => h (e.trans hk.symm))]
    · rw [if_neg hk]
      by_cases h : g = k
      · have hb : (g == k) = true := beq_iff_eq.mpr h
        simp only [List.lookup, hb, if_neg (fun e : g = f => hk (h.symm.trans e))]
      · have hb : (g == k) = false := beq_eq_false_iff_ne.mpr h
        simp only [List.lookup, hb]
        exact ih
theorem keys_putF (f : Str) (v : V) : ∀ fs : List (Str × V), f ∈ (putF f v fs).map (·.1) ∧ ∀ g, g ∈ fs.map (·.1) → g ∈ (putF f v fs).map (·.1)
  | [] => ⟨by simp [putF], fun g h => by simp at h⟩
  | (k, x) :: r => by
    obtain ⟨i1, i2⟩ := keys_putF f v r
    rw [show putF f v ((k, x) :: r) = (if k = f then (k, v) :: r else (k, x) :: putF f v r) from rfl]
    by_cases hk : k = f
    · rw [if_pos hk]
      subst hk
      exact ⟨by simp, fun g h => by simpa using h⟩
    · rw [if_neg hk]
      refine ⟨?_, fun g h => ?_⟩
      · rw [List.map_cons]
        exact List.mem_cons_of_mem _ i1
      · rw [List.map_cons] at h ⊢
        rcases List.mem_cons.mp h with e | e
        · exact List.mem_cons.mpr (.inl e)
        · exact List.mem_cons_of_mem _ (i2 g e)
theorem length_putF (f : Str) (v : V) : ∀ fs : List (Str × V), (putF f v fs).length ≤ fs.length + 1
  | [] => by simp [putF]
  | (k, x) :: r => by
    have ih := length_putF f v r
    rw [show putF f v ((k, x) :: r) = (if k = f then (k, v) :: r else (k, x) :: putF f v r) from rfl]
    by_cases hk : k = f
    · rw [if_pos hk, List.length_cons, List.length_cons]; omega
    · rw [if_neg hk, List.length_cons, List.length_cons]; omega

theorem RelO.some_of {v : V} {o : Option Value} (r : RelO (some v) o) : ∃ u, o = some u ∧ RelV v u := by
  cases o with
  | none => exact (show False from r).elim
  | some u => exact ⟨u, rfl, r⟩
theorem RelO.none_of {o : Option Value} (r : RelO none o) : o = none := by
  cases o with
  | none => rfl
  | some u => exact (show False from r).elim
theorem handed_of {v : V} {u : Value} (r : RelV v u) : PySem.W.handedIn u = true := by
  cases v with
  | non => cases (show u = Value.none from r); rfl
  | bl b => cases (show u = Value.bool b from r); rfl
  | int i => obtain ⟨t, e⟩ := (show ∃ t, u = Value.int i t from r); cases e; rfl
  | str x => obtain ⟨t, e⟩ := (show ∃ t, u = Value.str x t from r); cases e; rfl
  | byt b => obtain ⟨t, e⟩ := (show ∃ t, u = Value.bytes b t from r); cases e; rfl
  | flt b => obtain ⟨t, e⟩ := (show ∃ t, u = Value.float b t from r); cases e; rfl
  | ref a => cases (show u = Value.ref a from r); rfl
  | ty n => cases (show u = Value.type n from r); rfl

section
variable {P : Program} {w : World} {H H' : Hp} {h h' : Heap} {a C dx : Addr} {fs fs' : List (Str × V)}
theorem ins_get (hok : HOk P w H h) (e : H a = some (.ins C dx fs)) : ∃ mA, ObjM h a dx C mA ∧ (∀ f, RelO (fs.lookup f) (mA f)) ∧ PySem.Within mA (fs.map (·.1)) ∧ fs.length ≤ 1000 ∧ H dx = some (.own a) := by
  obtain ⟨d, z, ne, ob, mA, n, r, q⟩ := (show ObjOk P w H h a (.ins C dx fs) from hok a _ e)
  exact ⟨mA, ⟨ob, n, ne⟩, r, q, z, d⟩
end

structure Cls (K : PySem.W.Frag) (C : Addr) : Prop where
  pg : PySem.W.plainGet K C Str.empty = true
  hd : PySem.W.hasDictIn K C = true
  po : PySem.W.plainOver K C = true
  sa : PySem.W.findIn K (.ref C) "__setattr__" = some (some (.builtin "object.__setattr__"))
theorem Cls.get {K : PySem.W.Frag} {C : Addr} (c : Cls K C) (f : Str) : PySem.W.plainGet K C f = true := c.pg
def NoAttr (K : PySem.W.Frag) (C : Addr) (f : Str) : Prop := PySem.W.findIn K (.ref C) f = some none
theorem NoAttr.taker {K : PySem.W.Frag} {C : Addr} {f : Str} (n : NoAttr K C f) : PySem.W.takerIn K C f = some none := by
  unfold PySem.W.takerIn
  rw [show PySem.W.findIn K (.ref C) f = some none from n]
  rfl
structure Meth (K : PySem.W.Frag) (C : Addr) (m : Str) (f : Addr) : Prop where
  at_ : PySem.W.findIn K (.ref C) m = some (some (.ref f))
  fn : PySem.W.isFn K (.ref f) = true
  kp : PySem.W.keepIn K (.ref f) = true

section
variable {X : Cx} {pins : List (Addr × Obj)} {σ : St} {H : Hp} {s : Shared} {a C dx : Addr} {fs : List (Str × V)} {f : Str} {v : V} {A : Around} {E : Value → Shared → Prop}

theorem getattr_ok {b : Bool} {Q : Value → Shared → Prop} (I : Inv X pins σ H s) (e : H a = some (.ins C dx fs)) (c : Cls X.K C) (n : NoAttr X.K C f) (l : fs.lookup f = some v)
    (h : ∀ u s', Inv X pins σ H s' → RelV v u → Q u s') : wpAny (model X.prog X.w) A (getAttr (.ref a) f b) Q E s := by
  obtain ⟨mA, O, r, _, _, _⟩ := ins_get I.hok e
  obtain ⟨u, hu, ru⟩ := RelO.some_of (v := v) (o := mA f) (by rw [← l]; exact r f)
  exact get_map I.kIn O (c.get f) c.hd n hu (handed_of ru) (h u _ (I.tok _) ru)

theorem getmeth_ok {m : Str} {g : Addr} {pl : Sem Bool} {Q : Value × List Value → Shared → Prop} (I : Inv X pins σ H s) (e : H a = some (.ins C dx fs)) (c : Cls X.K C) (k : Meth X.K C m g) (l : fs.lookup m = none)
    (h : Q (.ref g, [.ref a]) s) : wpAny (model X.prog X.w) A (getMethod (.ref a) m pl) Q E s := by
  obtain ⟨mA, O, r, _, _, _⟩ := ins_get I.hok e
  have hn : mA m = none := RelO.none_of (by rw [← l]; exact r m)
  exact get_meth I.kIn O (c.get m) k.at_ k.fn hn h

theorem setattr_ok {y : V} {u : Value} {Q : Unit → Shared → Prop} (I : Inv X pins σ H s) (e : H a = some (.ins C dx fs)) (c : Cls X.K C) (n : NoAttr X.K C f) (hl : fs.length < 1000) (ry : RelV y u)
    (h : ∀ s', Inv X pins σ (upd H a (.ins C dx (putF f y fs))) s' → Q () s') : wpAny (model X.prog X.w) A (setAttr (.ref a) f u) Q E s := by
  obtain ⟨mA, O, r, wi, _, ho⟩ := ins_get I.hok e
  have hz : (fs.map (·.1)).length ≤ sizeLine := by rw [List.length_map, sizeLine_eq]; omega
  refine set_map I.kIn O c.sa c.po n.taker c.hd wi hz fun h' O' sb => h _ ?_
  have hd : ∃ o, h'.get? dx = some o := let ⟨o, _, _, e', _⟩ := O'.ns; ⟨o, e'⟩
  refine I.write (x := a) (e := dx) (by rw [e]; exact True.intro) (.inr ho) (fun b q hb z => (sb.2 b hb).trans z) hd ?_
  refine ⟨by rw [upd_ne O.ne]; exact ho, ?_, O.ne, O'.obj, _, O'.ns, fun g => ?_, fun g hg => ?_⟩
  · have := length_putF f y fs; omega
  · show RelO ((putF f y fs).lookup g) (if g = f then some u else mA g)
    rw [lookup_putF]
    by_cases q : g = f
    · rw [if_pos q, if_pos q]; exact ry
    · rw [if_neg q, if_neg q]; exact r g
  · by_cases q : g = f
    · rw [q]; exact (keys_putF f y fs).1
    · refine (keys_putF f y fs).2 g (wi g fun z => hg ?_)
      show (if g = f then some u else mA g) = none
      rw [if_neg q]; exact z

theorem Inv.made (I : Inv X pins σ H s) : Inv X pins σ (upd (upd H s.heap.objs.size (.own (s.heap.objs.size + 1))) (s.heap.objs.size + 1) (.ins C s.heap.objs.size []))
    { s with heap := (s.heap.push PySem.W.emptyDict).push (PySem.W.instObj C s.heap.objs.size) } := by
  have e1 : (s.heap.push PySem.W.emptyDict).get? s.heap.objs.size = some PySem.W.emptyDict := Heap.get?_push_size s.heap rfl
  have e2 : ((s.heap.push PySem.W.emptyDict).push (PySem.W.instObj C s.heap.objs.size)).get? (s.heap.objs.size + 1) = some (PySem.W.instObj C s.heap.objs.size) := by
    have := Heap.get?_push_size (s.heap.push PySem.W.emptyDict) (o := PySem.W.instObj C s.heap.objs.size) rfl
    rwa [Heap.size_push] at this
  have e3 : (s.heap.push PySem.W.emptyDict).Ns s.heap.objs.size (fun _ => none) := ⟨PySem.W.emptyDict, #[], _, e1, rfl, (fun e he => absurd he (by simp)), fun _ => rfl⟩
  have I1 := I.laid (a := s.heap.objs.size) (o := .own (s.heap.objs.size + 1)) (h' := s.heap.push PySem.W.emptyDict) (t' := s.toks) (fun b u q => Heap.get?_push_of_some _ q) (Nat.le_refl _) ⟨_, e1⟩
  refine I1.laid (a := s.heap.objs.size + 1) (o := .ins C s.heap.objs.size []) (t' := s.toks) (fun b u q => Heap.get?_push_of_some _ q) (Nat.le_of_eq (Heap.size_push _ _)) ?_
  have ne : s.heap.objs.size ≠ s.heap.objs.size + 1 := Nat.ne_of_lt (Nat.lt_succ_self _)
  refine ⟨by rw [upd_ne ne, upd_same], Nat.zero_le _, ne, e2, fun _ => none, (Heap.Ns1.of_empty e3).at fun o q => Heap.get?_push_of_some _ q, fun _ => True.intro, fun y hy => absurd rfl hy⟩

theorem attr_of {prog : Program} {w : World} {env : Env} {e : Expr} {f : Str} {pos : Pos} {s : Shared} {Q : Value → Shared → Prop} (hb : attributeBase e f env (eval e env) = eval e env)
    (h : wpAny (model prog w) A (eval e env) (fun o s₁ => wpAny (model prog w) A (getAttr o f true) Q E s₁) E s) : wpAny (model prog w) A (eval (.Attribute e f pos) env) Q E s :=
  Attribute_any_ h (by rw [arm_eval_Attribute, hb])
end

def tFld (K : PySem.W.Frag) (ta : TE) (f : Str) : TE := fun σ H Q => ta σ H fun x H1 => ∃ a C dx fs v, x = .ref a ∧ H1 a = some (.ins C dx fs) ∧ Cls K C ∧ NoAttr K C f ∧ fs.lookup f = some v ∧ Q v H1
def sFld (K : PySem.W.Frag) (ta tv : TE) (f : Str) : TS := fun D σ H => tv σ H fun y H1 => ta σ H1 fun x H2 => ∃ a C dx fs, x = .ref a ∧ H2 a = some (.ins C dx fs) ∧ Cls K C ∧ NoAttr K C f ∧ fs.length < 1000 ∧
  D.nx σ (upd H2 a (.ins C dx (putF f y fs)))
section
variable {X : Cx} {o e value : Expr} {f : Str} {pos pos' tpos : Pos} {ta tv : TE}
theorem pe_fld (he : PE X e ta) (hb : attributeBase e f X.env (eval e X.env) = eval e X.env) : PE X (.Attribute e f pos) (tFld X.K ta f) := by
  intro pins s σ H Q I h
  refine attr_of hb (thn (he pins s σ H _ I h) fun u s1 ⟨x, H1, I1, rx, a, C, dx, fs, v, ex, ea, c, n, l, q⟩ => ?_)
  subst ex
  obtain rfl : u = Value.ref a := rx
  exact getattr_ok I1 ea c n l fun u' s2 I2 ru => ⟨v, H1, I2, ru, q⟩
theorem ps_fld (ha : PE X o ta) (hv : PE X value tv) (hs : swapsWith value (some (.Attribute o f pos')) pos.line X.env = pure false) : PS X (.Assign [.Attribute o f pos'] value pos) (sFld X.K ta tv f) := by
  intro pins s σ H D I h
  refine plainObj_wpAny_Assign_Attribute (thn (hv pins s σ H _ I h) fun u s1 ⟨y, H1, I1, ry, q⟩ => thn (ha pins s1 σ H1 _ I1 q) fun ov s2 ⟨x, H2, I2, rx, a, C, dx, fs, ex, ea, c, n, l, q2⟩ => ?_) hs
  subst ex
  obtain rfl : ov = Value.ref a := rx
  exact setattr_ok I2 ea c n l ry fun s3 I3 => ⟨σ, _, I3, q2⟩
end

section
variable {X : Cx} {pins : List (Addr × Obj)} {σ : St} {H : Hp} {s : Shared} {A : Around} {E : Value → Shared → Prop} {Q : Value → Shared → Prop} {c : Value} {b : Bool}
inductive TyOf (K : PySem.W.Frag) (H : Hp) : V → Value → Prop where
  | non : TyOf K H .non (.type "NoneType")
  | bl (x : Bool) : TyOf K H (.bl x) (.type "bool")
  | int (i : Int) : TyOf K H (.int i) (.type "int")
  | str (x : Str) : TyOf K H (.str x) (.type "str")
  | flt (x : UInt64) : TyOf K H (.flt x) (.type "float")
  | lst {a : Addr} {xs : List V} (e : H a = some (.lst xs)) : TyOf K H (.ref a) (.type "list")
  | frz {a : Addr} {o : Obj} {xs : List V} (e : H a = some (.frz o (.lst xs))) : TyOf K H (.ref a) (.type "list")
  | tup {a : Addr} {xs : List V} (e : H a = some (.tup xs)) : TyOf K H (.ref a) (.type "tuple")
  | dK {a : Addr} {kvs : List (Key × V)} (e : H a = some (.dK kvs)) : TyOf K H (.ref a) (.type "dict")
  | dT {a : Addr} {kvs : List (List Key × V)} (e : H a = some (.dT kvs)) : TyOf K H (.ref a) (.type "dict")
  | ins {a C dx : Addr} {fs : List (Str × V)} (e : H a = some (.ins C dx fs)) (cl : Cls K C) (ha : PySem.W.findIn K (.ref C) "__class__" = some (some (.builtin "object.__class__")))
      (hn : PySem.W.specialIn K (.builtin "object.__class__") "__get__" = some (some (.builtin "getset_descriptor.__get__"))) (htk : PySem.W.takesIn K (.builtin "object.__class__") = some true)
      (hm : PySem.W.mroIn K C (.type "object") = some true) : TyOf K H (.ref a) (.ref C)
theorem isinst_ok {x : V} {u t : Value} (I : Inv X pins σ H s) (rx : RelV x u) (ty : TyOf X.K H x t) (e : PySem.W.kitOne X.K t c = some b) (h : ∀ tk, Q (.bool b) { s with toks := tk }) :
    wpAny (model X.prog X.w) A (call (.builtin "isinstance") [u, c]) Q E s := by
  cases ty with
  | non => cases (show u = Value.none from rx); exact PySem.W.kia_one PySem.W.kitx_none I.kIn True.intro e (fun z => nomatch z) h
  | bl y => cases (show u = Value.bool y from rx); exact PySem.W.kia_one PySem.W.kitx_bool I.kIn True.intro e (fun z => nomatch z) h
  | int i => obtain ⟨t, q⟩ := (show ∃ t, u = Value.int i t from rx); cases q; exact PySem.W.kia_one PySem.W.kitx_int I.kIn True.intro e (fun z => nomatch z) h
  | str y => obtain ⟨t, q⟩ := (show ∃ t, u = Value.str y t from rx); cases q; exact PySem.W.kia_one PySem.W.kitx_str I.kIn True.intro e (fun z => nomatch z) h
  | flt y => obtain ⟨t, q⟩ := (show ∃ t, u = Value.float y t from rx); cases q; exact PySem.W.kia_one PySem.W.kitx_float I.kIn True.intro e (fun z => nomatch z) h
  | @lst a xs ea =>
    cases (show u = Value.ref a from rx)
    obtain ⟨_, _, n, _, h1⟩ := (show ObjOk X.prog X.w H s.heap a (.lst xs) from I.hok a _ ea)
    exact PySem.W.kia_one PySem.W.kitx_list I.kIn ⟨_, h1, rfl⟩ e (fun z => nomatch z) h
  | @frz a ob xs ea =>
    cases (show u = Value.ref a from rx)
    obtain ⟨_, _, _, n, _, h1⟩ := (show ObjOk X.prog X.w H s.heap a (.frz ob (.lst xs)) from I.hok a _ ea)
    exact PySem.W.kia_one PySem.W.kitx_list I.kIn ⟨_, h1, rfl⟩ e (fun z => nomatch z) h
  | @tup a xs ea =>
    cases (show u = Value.ref a from rx)
    obtain ⟨_, _, _, p⟩ := (show ObjOk X.prog X.w H s.heap a (.tup xs) from I.hok a _ ea)
    obtain ⟨o, h1, h2, _⟩ := p
    exact PySem.W.kia_one PySem.W.kitx_tuple I.kIn ⟨o, h1, h2⟩ e (fun z => nomatch z) h
  | @dK a kvs ea =>
    cases (show u = Value.ref a from rx)
    obtain ⟨_, _, vs, _, p⟩ := (show ObjOk X.prog X.w H s.heap a (.dK kvs) from I.hok a _ ea)
    obtain ⟨o, es, ep, h1, h2, _⟩ := p
    exact PySem.W.kia_one PySem.W.kitx_dict I.kIn ⟨o, h1, h2.1⟩ e (fun z => nomatch z) h
  | @dT a kvs ea =>
    cases (show u = Value.ref a from rx)
    obtain ⟨_, _, xs, _, o, es, ep, h1, h2, _⟩ := (show ObjOk X.prog X.w H s.heap a (.dT kvs) from I.hok a _ ea)
    exact PySem.W.kia_one PySem.W.kitx_dict I.kIn ⟨o, h1, h2.1⟩ e (fun z => nomatch z) h
  | @ins a C dx fs ea cl ha hn htk hm =>
    cases (show u = Value.ref a from rx)
    obtain ⟨mA, O, _⟩ := ins_get I.hok ea
    obtain ⟨od, J, _⟩ := O.look
    exact PySem.W.kia_one (PySem.W.kitx_own (cl.get _) cl.hd ha hn htk hm) I.kIn J e (fun z => nomatch z) h
end
end L2

namespace L2
open PySem PySem.Spec PyProof.Rows

structure Room (k : Nat) (A : Around) : Prop where
  hd : A.handled = none
  dp : A.depth + 3 * k + 5 < recursionLimit
  un : A.units + 16 * k + 200 < cLine
theorem Room.mono {j k : Nat} {A : Around} (r : Room k A) (h : j ≤ k) : Room j A := ⟨r.hd, by have := r.dp; omega, by have := r.un; omega⟩
theorem Room.deeper {k : Nat} {A : Around} (r : Room (k + 1) A) (env : Env) : Room k (A.deeper env) :=
  ⟨r.hd, by have := r.dp; show A.depth + 1 + 3 * k + 5 < _; omega, by have := r.un; show A.units + 3 + 16 * k + 200 < _; omega⟩
theorem Room.in1 {k : Nat} {A : Around} (r : Room (k + 1) A) : Room k A.in1 :=
  ⟨r.hd, by have := r.dp; show A.depth + 3 * k + 5 < _; omega, by have := r.un; show A.units + 1 + 16 * k + 200 < _; omega⟩
theorem make_depth {A : Around} {C : Addr} {us : List Value} {kw : List (Str × Value)} : (A.under (.builtin "type.__call__" ⟨.ref C :: us, kw⟩)).depth = A.depth + 1 := by
  first | rfl | simp [Around.under, Code.weight, Code.isCreation, Code.isGuard, Code.isCaller, Code.frames, Code.isFrame, guardIds]
theorem make_units {A : Around} {C : Addr} {us : List Value} {kw : List (Str × Value)} : (A.under (.builtin "type.__call__" ⟨.ref C :: us, kw⟩)).units = A.units + 1 := by
  first | rfl | simp [Around.under, Code.cUnits, Code.frames, Code.isFrame]
theorem Room.make {k : Nat} {A : Around} (r : Room (k + 1) A) (C : Addr) (us : List Value) (kw : List (Str × Value)) : Room k (A.under (.builtin "type.__call__" ⟨.ref C :: us, kw⟩)) :=
  ⟨r.hd, by have := r.dp; rw [make_depth]; omega, by have := r.un; rw [make_units]; omega⟩
theorem Room.depth {k : Nat} {A : Around} (r : Room k A) : A.depth < recursionLimit := by have := r.dp; omega
theorem Room.units {k : Nat} {A : Around} (r : Room k A) : A.units + 64 < cLine := by have := r.un; omega
def tNil : TA := fun _ H Q => Q [] H
def tCons (ta : TE) (tr : TA) : TA := fun σ H Q => ta σ H fun x H1 => tr σ H1 fun xs H2 => Q (x :: xs) H2
section
variable {X : Cx} {e : Expr} {es : List Expr} {te : TE} {t : TA} {pos : Pos}
theorem pa_nil : PA X [] tNil := fun _ _ _ _ H Q I h => Calls.spliced_nil ⟨[], H, I, .nil, h⟩
theorem pa_cons (ha : PE X e te) (hr : PA X es t) (hs : starEach (e :: es) X.env = (false, eval e X.env) :: starEach es X.env := by rfl) : PA X (e :: es) (tCons te t) := by
  intro pos pins s σ H Q I h
  rw [hs]
  show wpAny _ _ (spliced ((false, eval e X.env) :: backTo pos (starEach es X.env))) _ _ s
  refine Calls.spliced_cons (thn (ha pins s σ H _ I h) fun u s1 ⟨x, H1, I1, r1, q1⟩ => ?_)
  exact thn (hr pos pins s1 σ H1 _ I1 q1) fun us s2 ⟨xs, H2, I2, r2, q2⟩ => ⟨x :: xs, H2, I2, .cons r1 r2, q2⟩

def tTup (t : TA) : TE := fun σ H Q => t σ H fun xs H1 => xs.length ≤ sizeLine ∧ ∀ p, H1 p = none → Q (.ref p) (upd H1 p (.tup xs))
def tLst (t : TA) : TE := fun σ H Q => t σ H fun xs H1 => xs.length ≤ sizeLine ∧ ∀ p, H1 p = none → Q (.ref p) (upd H1 p (.lst xs))
theorem pe_tup {x1} (h : PA X es t) : PE X (.Tuple es x1 pos) (tTup t) := by
  intro pins s σ H Q I hq
  refine wpAny_Tuple_spliced (thn (h pos pins s σ H _ I hq) fun us s1 ⟨xs, H1, I1, r, z, q⟩ => ⟨by rw [← r.length]; exact z, ?_⟩)
  have hf : H1 s1.heap.objs.size = none := I1.hok.fresh (Nat.le_refl _)
  refine ⟨.ref s1.heap.objs.size, upd H1 s1.heap.objs.size (.tup xs), I1.laid (t' := s1.toks) (fun b u e => Heap.get?_push_of_some _ e) (Nat.le_refl _) ?_, rfl, q _ hf⟩
  exact ⟨z, us, r, ⟨_, Heap.get?_push_size _ rfl, rfl, _, rfl⟩⟩
theorem pe_lst (h : PA X es t) : PE X (.List es pos) (tLst t) := by
  intro pins s σ H Q I hq
  refine wpAny_List_spliced (thn (h pos pins s σ H _ I hq) fun us s1 ⟨xs, H1, I1, r, z, q⟩ => ⟨by rw [← r.length]; exact z, ?_⟩)
  have hf : H1 s1.heap.objs.size = none := I1.hok.fresh (Nat.le_refl _)
  refine ⟨.ref s1.heap.objs.size, upd H1 s1.heap.objs.size (.lst xs), I1.laid (t' := s1.toks) (fun b u e => Heap.get?_push_of_some _ e) (Nat.le_refl _) ?_, rfl, q _ hf⟩
  exact ⟨z, us, 0, r, Heap.get?_push_size _ rfl⟩
end

abbrev Sp := List V → Hp → VK → XK → Prop
abbrev CXT := List Env → Hp → Shared → XK → Value → Shared → Prop

structure Env0 (P : Program) (w : World) (K : PySem.W.Frag) (mg : Str → Option Value) (base : Heap) (A : Around) (outer : List Env) (s : Shared) (H : Hp) : Prop where
  frames : A.frames = some outer
  mod : Mod K mg base
  bs : ∀ b o, base.get? b = some o → s.heap.get? b = some o ∧ H b = none
  bsz : base.objs.size ≤ s.heap.objs.size
  funs : s.heap.FunFrames base outer
  frf : ∀ b ∈ frs outer, H b = none
  hok : HOk P w H s.heap
  bare : AllBare s.gens
def CE (outer : List Env) (P : Program) (w : World) (H : Hp) (s : Shared) (Q : VK) (u : Value) (s' : Shared) : Prop :=
  ∃ v H', s'.os = s.os ∧ AllBare s'.gens ∧ Un (frs outer) [] H H' s.heap s'.heap ∧ HOk P w H' s'.heap ∧ RelV v u ∧ Q v H'
def CR (CX : CXT) (outer : List Env) (P : Program) (w : World) (H : Hp) (s : Shared) (Q : VK) (E : XK) (r : Result) (s' : Shared) : Prop :=
  match r with
  | .ok (.ret u) => CE outer P w H s Q u s'
  | .ok _ => False
  | .error e => CX outer H s E e s'
structure FnOk (P : Program) (w : World) (K : PySem.W.Frag) (mg : Str → Option Value) (base : Heap) (CX : CXT) (k : Nat) (f : Addr) (fd : FuncData) (ps : List Str) (sp : Sp) : Prop where
  len : ∀ vs H Q E, sp vs H Q E → vs.length = ps.length
  run : ∀ (A : Around) (outer : List Env) (s : Shared) (H : Hp) (args : Args) (us : List Value) (vs : List V) (Q : VK) (E : XK), Room k A → Env0 P w K mg base A outer s H → BindsTo s fd args (ps.zip us) → Vals vs us → sp vs H Q E →
    codeAny (model P w) A (.call (.ref f) args) (CR CX outer P w H s Q E) s
theorem FnOk.mono {P : Program} {w : World} {K : PySem.W.Frag} {mg : Str → Option Value} {base : Heap} {CX : CXT} {j k : Nat} {f : Addr} {fd : FuncData} {ps : List Str} {sp : Sp} (F : FnOk P w K mg base CX j f fd ps sp) (h : j ≤ k) :
    FnOk P w K mg base CX k f fd ps sp := ⟨F.len, fun A outer s H args us vs Q E hr => F.run A outer s H args us vs Q E (hr.mono h)⟩
theorem FnOk.imp {P : Program} {w : World} {K : PySem.W.Frag} {mg : Str → Option Value} {base : Heap} {CX : CXT} {k : Nat} {f : Addr} {fd : FuncData} {ps : List Str} {sp sp' : Sp} (F : FnOk P w K mg base CX k f fd ps sp)
    (h : ∀ vs H Q E, sp' vs H Q E → sp vs H Q E) : FnOk P w K mg base CX k f fd ps sp' :=
  ⟨fun vs H Q E q => F.len vs H Q E (h _ _ _ _ q), fun A outer s H args us vs Q E hr he hb hv hs => F.run A outer s H args us vs Q E hr he hb hv (h _ _ _ _ hs)⟩

theorem Env0.make {P : Program} {w : World} {K : PySem.W.Frag} {mg : Str → Option Value} {base : Heap} {A : Around} {outer : List Env} {s : Shared} {H : Hp} (e : Env0 P w K mg base A outer s H) (C : Addr) (us : List Value) (kw : List (Str × Value)) :
    Env0 P w K mg base (A.under (.builtin "type.__call__" ⟨.ref C :: us, kw⟩)) outer s H := ⟨by first | exact e.frames | (simpa [Around.under, Code.envs, Code.isFrame, pushEnvs] using e.frames), e.mod, e.bs, e.bsz, e.funs, e.frf, e.hok, e.bare⟩
theorem Env0.in1 {P : Program} {w : World} {K : PySem.W.Frag} {mg : Str → Option Value} {base : Heap} {A : Around} {outer : List Env} {s : Shared} {H : Hp} (e : Env0 P w K mg base A outer s H) :
    Env0 P w K mg base A.in1 outer s H := ⟨e.frames, e.mod, e.bs, e.bsz, e.funs, e.frf, e.hok, e.bare⟩

section
variable {X : Cx} {pins : List (Addr × Obj)} {σ : St} {H : Hp} {s s' : Shared}
theorem Inv.env0 (I : Inv X pins σ H s) : Env0 X.prog X.w X.K X.mg X.base X.A X.stack s H :=
  ⟨I.ok.frames, I.ok.mod, I.bs, Nat.le_trans I.ok.bsz I.sz, I.stack, I.stkFree, I.hok, I.bare⟩
theorem Inv.after {Q : VK} {u : Value} (I : Inv X pins σ H s) (h : CE X.stack X.prog X.w H s Q u s') : EP X pins σ Q u s' := by
  obtain ⟨v, H', os, bare, un, hok, r, q⟩ := h
  obtain ⟨hh, g, d, t, os'⟩ := s'
  obtain rfl : os' = s.os := os
  exact ⟨v, H', I.call (h' := hh) (g' := g) (d' := d) (t' := t) (ch := []) un hok bare (fun b z => absurd z (by simp)), r, q⟩
end

def tCall (sp : Sp) (dvs : List V) (E : XK) (t : TA) : TE := fun σ H Q => t σ H fun vs H1 => sp (vs ++ dvs) H1 Q E
def tMeth (C : Addr) (m : Str) (sp : Sp) (dvs : List V) (E : XK) (ta : TE) (t : TA) : TE := fun σ H Q => ta σ H fun x H1 => ∃ a dx fs, x = .ref a ∧ H1 a = some (.ins C dx fs) ∧ fs.lookup m = none ∧
  t σ H1 fun vs H2 => sp (x :: (vs ++ dvs)) H2 Q E
def tMake (C : Addr) (sp : Sp) (dvs : List V) (E : XK) (t : TA) : TE := fun σ H Q => t σ H fun vs H1 => ∀ x dx, H1 x = none → H1 dx = none → dx ≠ x →
  sp (.ref x :: (vs ++ dvs)) (upd (upd H1 dx (.own x)) x (.ins C dx [])) (fun v H2 => v = .non ∧ Q (.ref x) H2) E

def Binds (K : PySem.W.Frag) (fd : FuncData) (ps : List Str) (ds : List Value) : Prop :=
  ∀ (s : Shared) (us : List Value), K.In s.heap → (us ++ ds).length = ps.length → BindsTo s fd ⟨us, []⟩ (ps.zip (us ++ ds))
theorem Binds.all {K : PySem.W.Frag} {fd : FuncData} {ps : List Str} (h : ∀ us : List Value, us.length = ps.length → bindArgs fd ⟨us, []⟩ = pure (ps.zip us)) : Binds K fd ps [] := fun s us _ hl => by
  rw [List.append_nil] at hl ⊢
  exact .of_eq (h us hl)

def Passes (CX : CXT) (X : Cx) (E : XK) : Prop := ∀ (pins : List (Addr × Obj)) (σ : St) (H : Hp) (s : Shared) (e : Value) (s' : Shared), Inv X pins σ H s → CX X.stack H s E e s' → X.xe e s'

section
variable {X : Cx} {CX : CXT} {k : Nat} {f C : Addr} {fd : FuncData} {ps : List Str} {sp : Sp} {dvs : List V} {ds : List Value} {E : XK} {x m : Str} {p pos apos : Pos} {e o : Expr} {es : List Expr} {ta : TE} {t : TA}

theorem run_fn {pins : List (Addr × Obj)} {σ : St} {H : Hp} {s : Shared} {Q : VK} {us : List Value} {vs : List V} (F : FnOk X.prog X.w X.K X.mg X.base CX k f fd ps sp) (hr : Room k X.A) (hb : Binds X.K fd ps ds) (hd : Vals dvs ds) (hx : Passes CX X E)
    (I : Inv X pins σ H s) (r : Vals vs us) (h : sp (vs ++ dvs) H Q E) : wpAny (model X.prog X.w) X.A (call (.ref f) us) (EP X pins σ Q) X.xe s := by
  have r2 : Vals (vs ++ dvs) (us ++ ds) := r.append hd
  have hl : (us ++ ds).length = ps.length := by rw [← r2.length]; exact F.len _ _ _ _ h
  refine wpAny_call (codeAny_mono (F.run X.A X.stack s H ⟨us, []⟩ (us ++ ds) (vs ++ dvs) Q E hr I.env0 (hb s us I.kIn hl) r2 h) fun r s' hq => ?_)
  cases r with
  | error e => exact hx pins σ H s e s' I hq
  | ok fl =>
    cases fl with
    | ret u => exact I.after hq
    | next => exact False.elim hq
    | brk => exact False.elim hq
    | cont => exact False.elim hq

theorem pe_call (F : FnOk X.prog X.w X.K X.mg X.base CX k f fd ps sp) (hr : Room k X.A) (hg : Gl X x) (hm : X.mg x = some (.ref f)) (hk : PySem.W.keepIn X.K (.ref f) = true) (hb : Binds X.K fd ps ds) (hd : Vals dvs ds) (hx : Passes CX X E)
    (ha : PA X (e :: es) t) (hdb : (x == ("__debug__" : Str)) = false := by decide) (he : starEach (e :: es) X.env = (false, eval e X.env) :: starEach es X.env := by rfl) (hpl : (backTo pos (starEach es X.env)).any (·.1) = false := by rfl) :
    PE X (.Call (.Name x p) (e :: es) [] pos) (tCall sp dvs E t) := by
  intro pins s σ H Q I h
  refine wpAny_Call_Name_kw (ld_glob I hg hm ?_ hdb)
  refine PySem.W.callWith_K (h₀ := X.base) I.ok.mod.kin hk (thn (ha pos pins s σ H _ I h) fun us s1 ⟨vs, H1, I1, r, q⟩ => ⟨I1.kIn, ?_⟩) he hpl
  exact run_fn F hr hb hd hx I1 r q
theorem pe_meth {pl : Sem Bool} (he : PE X o ta) (c : Cls X.K C) (hm : Meth X.K C m f) (F : FnOk X.prog X.w X.K X.mg X.base CX k f fd ps sp) (hr : Room k X.A) (hb : Binds X.K fd ps ds) (hd : Vals dvs ds) (hx : Passes CX X E) (ha : PA X (e :: es) t)
    (hst : starEach (e :: es) X.env = (false, eval e X.env) :: starEach es X.env := by rfl) (hpl : (backTo pos (starEach es X.env)).any (·.1) = false := by rfl)
    (ht : eval (.Call (.Attribute o m apos) (e :: es) [] pos) X.env = (do
      let ov ← eval o X.env
      standAt apos.atName
      let (f, first) ← holding [ov] (getMethod ov m pl)
      callWith pos f first (backTo pos (starEach (e :: es) X.env)) (backToKw pos (keywordEach [] X.env))) := by rfl) :
    PE X (.Call (.Attribute o m apos) (e :: es) [] pos) (tMeth C m sp dvs E ta t) := by
  intro pins s σ H Q I h
  refine PySem.W.methodCall_KW (pl := pl) (thn (he pins s σ H _ I h) fun u s1 ⟨x, H1, I1, rx, a, dx, fs, ex, ea, l, q⟩ => ?_) ht
  subst ex
  obtain rfl : u = Value.ref a := rx
  refine getmeth_ok I1 ea c hm l ?_
  refine PySem.W.callWith_K (first := [.ref a]) (h₀ := X.base) I.ok.mod.kin hm.kp (thn (ha pos pins s1 σ H1 _ I1 q) fun us s2 ⟨vs, H2, I2, r, q2⟩ => ⟨I2.kIn, ?_⟩) hst hpl
  exact run_fn (us := .ref a :: us) (vs := .ref a :: vs) F hr hb hd hx I2 (.cons rfl r) q2
structure Mk (K : PySem.W.Frag) (C f : Addr) : Prop where
  makes : PySem.W.makesIn K C = true
  init : PySem.W.findIn K (.ref C) "__init__" = some (some (.ref f))
  fn : PySem.W.isFn K (.ref f) = true
  kp : PySem.W.keepIn K (.ref C) = true

theorem run_make {pins : List (Addr × Obj)} {σ : St} {H : Hp} {s : Shared} {Q : VK} {us : List Value} {vs : List V} (M : Mk X.K C f) (F : FnOk X.prog X.w X.K X.mg X.base CX k f fd ps sp) (hr : Room (k + 1) X.A) (hb : Binds X.K fd ps ds) (hd : Vals dvs ds)
    (hx : Passes CX X E) (I : Inv X pins σ H s) (r : Vals vs us)
    (h : ∀ x dx, H x = none → H dx = none → dx ≠ x → sp (.ref x :: (vs ++ dvs)) (upd (upd H dx (.own x)) x (.ins C dx [])) (fun v H2 => v = .non ∧ Q (.ref x) H2) E) :
    wpAny (model X.prog X.w) X.A (call (.ref C) us) (EP X pins σ Q) X.xe s := by
  have hq := h (s.heap.objs.size + 1) s.heap.objs.size (I.hok.fresh (Nat.le_succ _)) (I.hok.fresh (Nat.le_refl _)) (Nat.ne_of_lt (Nat.lt_succ_self _))
  have I2 := Inv.made (C := C) I
  have r2 : Vals (V.ref (s.heap.objs.size + 1) :: (vs ++ dvs)) (Value.ref (s.heap.objs.size + 1) :: (us ++ ds)) := .cons rfl (r.append hd)
  have hl : (Value.ref (s.heap.objs.size + 1) :: us ++ ds).length = ps.length := by
    have e := r2.length
    rw [F.len _ _ _ _ hq] at e
    exact e.symm
  refine wpAny_call (make_map (f := f) I.kIn M.makes M.init (beq_iff_eq.mp M.fn) (codeAny_mono (F.run _ X.stack _ _ ⟨Value.ref (s.heap.objs.size + 1) :: us, []⟩ (Value.ref (s.heap.objs.size + 1) :: (us ++ ds)) _ _ E (hr.make C us [])
    (I2.env0.make C us []) (hb _ (Value.ref (s.heap.objs.size + 1) :: us) I2.kIn hl) r2 hq) fun r s' hq' => ?_))
  cases r with
  | error e => exact hx pins σ _ _ e s' I2 hq'
  | ok fl =>
    cases fl with
    | ret u =>
      obtain ⟨v, H', I3, rv, ev, q3⟩ := I2.after hq'
      subst ev
      exact ⟨rv, ⟨V.ref (s.heap.objs.size + 1), H', I3, rfl, q3⟩⟩
    | next => exact False.elim hq'
    | brk => exact False.elim hq'
    | cont => exact False.elim hq'
theorem pe_make (M : Mk X.K C f) (F : FnOk X.prog X.w X.K X.mg X.base CX k f fd ps sp) (hr : Room (k + 1) X.A) (hg : Gl X x) (hm : X.mg x = some (.ref C)) (hb : Binds X.K fd ps ds) (hd : Vals dvs ds) (hx : Passes CX X E)
    (ha : PA X (e :: es) t) (hdb : (x == ("__debug__" : Str)) = false := by decide) (he : starEach (e :: es) X.env = (false, eval e X.env) :: starEach es X.env := by rfl) (hpl : (backTo pos (starEach es X.env)).any (·.1) = false := by rfl) :
    PE X (.Call (.Name x p) (e :: es) [] pos) (tMake C sp dvs E t) := by
  intro pins s σ H Q I h
  refine wpAny_Call_Name_kw (ld_glob I hg hm ?_ hdb)
  refine PySem.W.callWith_K (h₀ := X.base) I.ok.mod.kin M.kp (thn (ha pos pins s σ H _ I h) fun us s1 ⟨vs, H1, I1, r, q⟩ => ⟨I1.kIn, ?_⟩) he hpl
  exact run_make M F hr hb hd hx I1 r q
end

section
variable {X : Cx} {CX : CXT} {k : Nat} {f C : Addr} {fd : FuncData} {ps ks : List Str} {sp : Sp} {E : XK} {x m : Str} {p pos apos kpos : Pos} {e o : Expr} {es : List Expr} {kws : List Keyword} {te ta : TE} {t tk : TA} {nm : Option Str}
variable {g : List Value → List Value → List Value} {gV : List V → List V → List V}
end

structure FnScope (N P : List Str) (sc : Scope) : Prop where
  kind : sc.kind = .function
  co : sc.isCoroutine = false
  gen : sc.isGenerator = false
  nd : N.Nodup
  pre : N.take P.length = P
  par : ∀ x ∈ P, sc.names.lookup x = some .local ∨ sc.names.lookup x = some .cell
  nofree : ∀ y ∈ sc.names, y.2 ≠ .free

theorem bindL_out {kindOf : Str → Option NameKind} {x : Str} : ∀ {binds : List (Str × Value)} {m : Str → Option Value}, (∀ v, (x, v) ∉ binds) → bindL kindOf binds m x = m x
  | [], _, _ => rfl
  | (n, v) :: r, m, h => by
    unfold bindL
    rw [bindL_out fun w hw => h w (List.mem_cons_of_mem _ hw)]
    split
    · have : x ≠ n := by rintro rfl; exact h v List.mem_cons_self
      simp [this]
    · rfl
theorem bindC_out {kindOf : Str → Option NameKind} {x : Str} : ∀ {binds : List (Str × Value)} {m : Str → Option Value}, (∀ v, (x, v) ∉ binds) → bindC kindOf binds m x = m x
  | [], _, _ => rfl
  | (n, v) :: r, m, h => by
    unfold bindC
    rw [bindC_out fun w hw => h w (List.mem_cons_of_mem _ hw)]
    split
    · rfl
    · have : x ≠ n := by rintro rfl; exact h v List.mem_cons_self
      simp [this]
theorem bindL_get {kindOf : Str → Option NameKind} {x : Str} {v : Value} : ∀ {P : List Str} {vs : List Value} {i : Nat} {m : Str → Option Value}, P.Nodup → P[i]? = some x → vs[i]? = some v → kindOf x = some .local →
    bindL kindOf (P.zip vs) m x = some v
  | [], _, _, _, _, h, _, _ => by simp at h
  | _ :: _, [], _, _, _, _, h, _ => by simp at h
  | p :: P, w :: vs, 0, m, nd, h1, h2, hk => by
    simp at h1 h2; subst h1; subst h2
    show bindL kindOf ((p, w) :: P.zip vs) m p = _
    unfold bindL
    rw [bindL_out fun v hv => (List.nodup_cons.mp nd).1 (List.of_mem_zip hv).1, if_pos hk]
    simp
  | p :: P, w :: vs, i + 1, m, nd, h1, h2, hk => by
    show bindL kindOf ((p, w) :: P.zip vs) m x = _
    unfold bindL
    exact bindL_get (i := i) (List.nodup_cons.mp nd).2 (by simpa using h1) (by simpa using h2) hk
theorem bindC_get {kindOf : Str → Option NameKind} {x : Str} {v : Value} : ∀ {P : List Str} {vs : List Value} {i : Nat} {m : Str → Option Value}, P.Nodup → P[i]? = some x → vs[i]? = some v → kindOf x ≠ some .local →
    bindC kindOf (P.zip vs) m x = some v
  | [], _, _, _, _, h, _, _ => by simp at h
  | _ :: _, [], _, _, _, _, h, _ => by simp at h
  | p :: P, w :: vs, 0, m, nd, h1, h2, hk => by
    simp at h1 h2; subst h1; subst h2
    show bindC kindOf ((p, w) :: P.zip vs) m p = _
    unfold bindC
    rw [bindC_out fun v hv => (List.nodup_cons.mp nd).1 (List.of_mem_zip hv).1, if_neg hk]
    simp
  | p :: P, w :: vs, i + 1, m, nd, h1, h2, hk => by
    show bindC kindOf ((p, w) :: P.zip vs) m x = _
    unfold bindC
    exact bindC_get (i := i) (List.nodup_cons.mp nd).2 (by simpa using h1) (by simpa using h2) hk

def start (N : List Str) (vs : List V) : St := vs.map some ++ List.replicate (N.length - vs.length) none

def cxOf (CX : CXT) (P : Program) (w : World) (K : PySem.W.Frag) (mg : Str → Option Value) (base : Heap) (N : List Str) (qual : Str) (scope : Scope) (f : Addr) (cd : Value) (A : Around) (outer : List Env) (s : Shared) (H : Hp) (E : XK) : Cx where
  prog := P
  w := w
  K := K
  mg := mg
  base := base
  A := A.deeper (envOfC qual scope s.heap.objs.size f cd)
  N := N
  s_0 := s
  H_0 := H
  env := envOfC qual scope s.heap.objs.size f cd
  outer := outer
  stack := envOfC qual scope s.heap.objs.size f cd :: outer
  ex := []
  calm := true
  fn := fun _ => true
  pn := []
  xe := fun e s' => wpAny (model P w) (A.deeper (envOfC qual scope s.heap.objs.size f cd)) (leaving (envOfC qual scope s.heap.objs.size f cd) e) (fun _ s'' => CX outer H s E e s'') (fun e' s'' => CX outer H s E e' s'') s'

theorem cell_has {sc : Scope} {n : Nat} {x : Str} (h : sc.names.lookup x = some .cell) : ∃ c, (cellsFrom n sc.names []).lookup x = some c := by
  have q := PySem.W.cellsFrom_some sc.names n [] (.inl h)
  exact Option.isSome_iff_exists.mp q

theorem inv_start {CX : CXT} {P : Program} {w : World} {K : PySem.W.Frag} {mg : Str → Option Value} {base : Heap} {N ps : List Str} {qual : Str} {scope : Scope} {f : Addr} {cd : Value} {A : Around} {outer : List Env} {s s1 : Shared} {H : Hp} {E : XK} {us : List Value} {vs : List V}
    (S : FnScope N ps scope) (hd : A.handled = none) (e0 : Env0 P w K mg base A outer s H) (hl : vs.length = ps.length) (r : Vals vs us)
    (x : InCallC s s.heap.objs.size (bindL (envOfC qual scope s.heap.objs.size f cd).kindOf (ps.zip us) fun _ => none) (cellsFrom (s.heap.objs.size + 1) scope.names []) (bindC (envOfC qual scope s.heap.objs.size f cd).kindOf (ps.zip us) fun _ => none) s1) :
    Inv (cxOf CX P w K mg base N qual scope f cd A outer s H E) [] (start N vs) H s1 := by
  have hpl : ps.length ≤ N.length := by have := congrArg List.length S.pre; rw [List.length_take] at this; omega
  obtain ⟨h1, tk, rfl, hk⟩ := x.done
  have noA : ∀ b : Addr, b ∉ (cxOf CX P w K mg base N qual scope f cd A outer s H E).ex := fun b z => absurd (show b ∈ ([] : List Addr) from z) (by simp)
  refine ⟨⟨e0.mod, S.kind, rfl, rfl, Nat.le_refl _, fun y z c h1 h2 => ?_, fun y hy => ?_, fun y c _ h => ?_, fun _ => hd, Around.frames_deeper e0.frames, .inr ⟨rfl, rfl⟩, fun b z => absurd z (noA b), e0.bs, e0.bsz, fun b _ _ => noA b, fun b z => absurd z (noA b), e0.funs, e0.frf⟩,
    rfl, e0.bare, Un.kept hk, ⟨_, x.toInCall.ns, fun i y v h1 h2 h3 => ?_⟩, fun y c h => ⟨_, x.cell y c h⟩, e0.hok.fresh (Nat.le_refl _), fun y c h => ?_, fun p hp => absurd (show p ∈ ([] : List (Addr × Obj)) from hp) (by simp), e0.hok.kept hk, ?_⟩
  · exact name_of_addr x.apart (PySem.mem_of_lookup h1) (PySem.mem_of_lookup h2)
  · have hy : scope.names.lookup y = some .cell ∨ scope.names.lookup y = some .free := hy
    rcases hy with hy | hy
    · exact cell_has hy
    · exact absurd rfl (S.nofree _ (PySem.mem_of_lookup hy))
  · exact Nat.le_of_lt (x.above y c (PySem.mem_of_lookup h))
  · have hi : i < vs.length := by
      unfold start at h2
      by_cases hi : i < vs.length
      · exact hi
      · rw [List.getElem?_append_right (by simpa using hi)] at h2
        rw [List.getElem?_replicate] at h2
        split at h2 <;> cases h2
    have ha : vs[i]? = some v := by
      unfold start at h2
      rw [List.getElem?_append_left (by simpa using hi), List.getElem?_map] at h2
      cases e : vs[i]? with
      | none => rw [e] at h2; cases h2
      | some a => rw [e] at h2; cases h2; rfl
    obtain ⟨u, hu, rv⟩ := r.get ha
    have hp : ps[i]? = some y := by
      rw [← S.pre, List.getElem?_take_of_lt (by omega)]; exact h1
    have ndP : ps.Nodup := by rw [← S.pre]; exact S.nd.sublist (List.take_sublist _ _)
    refine ⟨u, rv, ?_⟩
    rcases S.par y (List.mem_of_getElem? hp) with k | k
    · exact .inl ⟨k, bindL_get ndP hp hu k⟩
    · obtain ⟨c, e⟩ := cell_has (n := s.heap.objs.size + 1) k
      refine .inr ⟨.inl k, c, e, ?_⟩
      have q := x.cell y c e
      rw [bindC_get ndP hp hu (by show scope.names.lookup y ≠ _; rw [k]; decide)] at q
      exact q
  · exact e0.hok.fresh (Nat.le_of_lt (x.above y c (PySem.mem_of_lookup h)))
  · unfold start
    show _ = N.length
    rw [List.length_append, List.length_map, List.length_replicate]
    omega

theorem fn_of {CX : CXT} {P : Program} {w : World} {K : PySem.W.Frag} {mg : Str → Option Value} {base : Heap} {k : Nat} {f : Addr} {name qual : Str} {params : Arguments} {body : List Stmt} {scope : Scope} {dV kV doc pm cdv ct oc : Value} {an od : Option Addr}
    {osl : Array (Option Value)} {N ps : List Str} {sp : Sp} (lk : K.lookup f = some ⟨oc, od, .func (PySem.W.fnOf name qual params body scope dV kV doc pm an cdv ct), osl⟩) (hcd : PySem.W.codeIn K cdv qual = true) (S : FnScope N ps scope)
    (len : ∀ vs H Q E, sp vs H Q E → vs.length = ps.length)
    (hbody : ∀ (A : Around) (outer : List Env) (s : Shared) (H : Hp) (vs : List V) (Q : VK) (E : XK), Room k (A.deeper (envOfC qual scope s.heap.objs.size f cdv)) → sp vs H Q E →
      ∃ t, PSs (cxOf CX P w K mg base N qual scope f cdv A outer s H E) body t ∧ t { nx := fun _ H' => Q .non H', rt := Q } (start N vs) H) :
    FnOk P w K mg base CX (k + 1) f (PySem.W.fnOf name qual params body scope dV kV doc pm an cdv ct) ps sp := by
  refine ⟨len, fun A outer s H args us vs Q E hr e0 hb r hsp => ?_⟩
  have hl := len _ _ _ _ hsp
  have KX : K.In s.heap := e0.mod.kin.keeps fun b o e => (e0.bs b o e).1
  have lim : s.heap.NoLimit := e0.mod.nolimit.keeps fun b o e => (e0.bs b o e).1
  have hkind : ∀ y ∈ ps.zip us, scope.names.lookup y.1 = some .local ∨ (scope.names.lookup y.1 = some .cell ∧ ((cellsFrom (s.heap.objs.size + 1) scope.names []).lookup y.1).isSome = true) := fun ⟨n, v⟩ hy => by
    rcases S.par n (List.of_mem_zip hy).1 with q | q
    · exact .inl q
    · exact .inr ⟨q, PySem.W.cellsFrom_some _ _ _ (.inl q)⟩
  refine codeAny_call_function hr.depth (KX _ _ lk) rfl S.co S.gen rfl (PySem.W.codeRec_of KX hcd) (hb _ _ _ _ ?_)
  refine wpAny_newFunctionEnv_cells S.kind hkind fun env he s1 x => ?_
  subst he
  refine ⟨lim.keeps x.toInCall.keep, codeAny_func ?_⟩
  obtain ⟨t, ht, hq⟩ := hbody A outer s H vs Q E (hr.deeper _) hsp
  have I : Inv (cxOf CX P w K mg base N qual scope f cdv A outer s H E) [] (start N vs) H s1 := inv_start S hr.hd e0 hl r x
  refine wpAny_mono (ht [] s1 (start N vs) H _ I hq) (fun fl s' hs => ?_) fun e s' hs => hs
  have fin : ∀ {σ' : St} {H' : Hp} {v : V} {u : Value}, Inv (cxOf CX P w K mg base N qual scope f cdv A outer s H E) [] σ' H' s' → RelV v u → Q v H' → CE outer P w H s Q u s' :=
    fun {σ' H' v u} J rv q => ⟨v, H', J.os, J.bare, J.base, J.hok, rv, q⟩
  cases fl with
  | ret u =>
    obtain ⟨v, σ', H', J, rv, q⟩ := hs
    exact fin J rv q
  | next =>
    obtain ⟨σ', H', J, q⟩ := hs
    exact fin (v := V.non) (u := Value.none) J rfl q
  | brk =>
    obtain ⟨_, _, _, q⟩ := hs
    exact False.elim q
  | cont =>
    obtain ⟨_, _, _, q⟩ := hs
    exact False.elim q
end L2

namespace L2
open PySem PySem.Spec PyProof.Rows
section
variable {X : Cx} {x : Str} {p pos : Pos} {e : Expr} {es : List Expr} {t : TA} {id T : String} {r : List V → Hp → VK → Prop}

def tCB (r : List V → Hp → VK → Prop) (t : TA) : TE := fun σ H Q => t σ H fun vs H1 => r vs H1 Q
theorem pe_callB (hc : CallR X (.builtin id) r) (hg : Gl X x) (hm : X.mg x = none) (hv : bootBuiltins x = some (.builtin id)) (ha : PA X (e :: es) t) (hn : x ≠ "__name__" := by decide) (hdb : (x == ("__debug__" : Str)) = false := by decide)
    (he : starEach (e :: es) X.env = (false, eval e X.env) :: starEach es X.env := by rfl) (hpl : (backTo pos (starEach es X.env)).any (·.1) = false := by rfl) : PE X (.Call (.Name x p) (e :: es) [] pos) (tCB r t) := by
  intro pins s σ H Q I h
  refine wpAny_Call_Name_kw (ld_blt I hg hm hv ?_ hn hdb)
  exact PyProof.Rows.callWith_builtin1 (thn (ha pos pins s σ H _ I h) fun us s1 ⟨vs, H1, I1, r1, q1⟩ => hc pins s1 σ H1 vs us Q I1 r1 q1) he hpl
theorem pe_callTy (hc : CallR X (.type T) r) (hg : Gl X x) (hm : X.mg x = none) (hv : bootBuiltins x = some (.type T)) (ha : PA X (e :: es) t) (hn : x ≠ "__name__" := by decide) (hdb : (x == ("__debug__" : Str)) = false := by decide)
    (he : starEach (e :: es) X.env = (false, eval e X.env) :: starEach es X.env := by rfl) (hpl : (backTo pos (starEach es X.env)).any (·.1) = false := by rfl) : PE X (.Call (.Name x p) (e :: es) [] pos) (tCB r t) := by
  intro pins s σ H Q I h
  refine wpAny_Call_Name_kw (ld_blt I hg hm hv ?_ hn hdb)
  exact PyProof.Rows.callWith_type1 (thn (ha pos pins s σ H _ I h) fun us s1 ⟨vs, H1, I1, r1, q1⟩ => hc pins s1 σ H1 vs us Q I1 r1 q1) he hpl
end
end L2

namespace HT
open PySem PyProof.Rows

section
open PySem.SeqAt
open PySem.AutoSeq1 (wpAny_loadPart')
open PySem.MeetsSeq PySem.MeetsSeq2 PySem.MeetsSeq3

end

section
variable {prog : Program} {w : World} {A : Around} {E : Value → Shared → Prop} {s : Shared}

def sIx (n d : Nat) : Option Int → Nat
  | none => d
  | some v => if v < 0 then (v + (n : Int)).toNat else min v.toNat n
theorem sIx_none (n d : Nat) : sIx n d none = d := rfl
theorem sIx_nat (n d k : Nat) : sIx n d (some (k : Int)) = min k n := by
  show (if (k : Int) < 0 then ((k : Int) + (n : Int)).toNat else min (k : Int).toNat n) = min k n
  rw [if_neg (by omega), Int.toNat_natCast]
theorem sIx_le (n d : Nat) (hd : d ≤ n) (o : Option Int) : sIx n d o ≤ n := by
  cases o with
  | none => exact hd
  | some v =>
    show (if v < 0 then (v + (n : Int)).toNat else min v.toNat n) ≤ n
    by_cases hv : v < 0
    · rw [if_pos hv]; omega
    · rw [if_neg hv]; exact Nat.min_le_right _ _
theorem clip_eq (v : Int) (n d : Nat) : (if v < 0 then max (v + (n : Int)) 0 else min v (n : Int)) = ((sIx n d (some v) : Nat) : Int) := by
  show (if v < 0 then max (v + (n : Int)) 0 else min v (n : Int)) = (((if v < 0 then (v + (n : Int)).toNat else min v.toNat n) : Nat) : Int)
  by_cases hv : v < 0
  · simp only [if_pos hv]; omega
  · simp only [if_neg hv]; omega
theorem adjust_gen (lo hi : Option Int) (n : Nat) : Builtin.Slice.sliceAdjust lo hi 1 (n : Int) = (((sIx n 0 lo : Nat) : Int), ((sIx n n hi : Nat) : Int)) := by
  have h1 : ¬ ((1 : Int) < 0) := by omega
  unfold Builtin.Slice.sliceAdjust
  simp only [h1, if_false]
  refine Prod.ext ?_ ?_
  · cases lo with
    | none => rfl
    | some v => exact clip_eq v n 0
  · cases hi with
    | none => rfl
    | some v => exact clip_eq v n n
theorem places_gen (i j : Nat) : Builtin.Slice.slicePlaces (i : Int) (j : Int) 1 = j - i := by
  unfold Builtin.Slice.slicePlaces
  have h1 : (1 : Int) > 0 := by omega
  simp only [h1, if_true, Int.ediv_one]
  split <;> omega
theorem slicePart_ {v : Value} {o : Option Int} {Q : Option Int → Shared → Prop} (p : IsPart v o) (h : Q o s) : wpAny (model prog w) A (Builtin.Slice.slicePartIndex v) Q E s := by
  cases p with
  | none => exact slicePart_none h
  | int i t => exact slicePart_int h
theorem sliceApplied_gen {sl : Addr} {vl vu : Value} {lo hi : Option Int} {n : Nat} {Q : Int × Int × Nat → Shared → Prop} (hs : s.heap.IsSliceOf sl vl vu .none) (pl : IsPart vl lo) (pu : IsPart vu hi)
    (h : Q (((sIx n 0 lo : Nat) : Int), 1, sIx n n hi - sIx n 0 lo) s) : wpAny (model prog w) A (Builtin.Slice.sliceApplied (.ref sl) (pure (n : Int))) Q E s := by
  obtain ⟨os, hos, hcs, hds⟩ := id hs
  unfold Builtin.Slice.sliceApplied Builtin.Slice.sliceFields
  refine wpAny_bind (wpAny_bind (wpAny_field hos hds (x := vl) rfl (wpAny_bind (wpAny_field hos hds (x := vu) rfl (wpAny_bind (wpAny_field hos hds (x := .none) rfl (wpAny_pure ?_)))))))
  refine wpAny_bind (slicePart_none ?_)
  show wpAny _ _ (if ((1 : Int) == 0) = true then _ else _) _ _ s
  rw [if_neg (by decide)]
  refine wpAny_bind (slicePart_ pl (wpAny_bind (slicePart_ pu (wpAny_bind (wpAny_pure ?_)))))
  show wpAny _ _ (match Builtin.Slice.sliceAdjust lo hi 1 (n : Int) with | (lo, hi) => pure (lo, (1 : Int), Builtin.Slice.slicePlaces lo hi 1)) _ _ s
  rw [adjust_gen lo hi n]
  show wpAny _ _ (pure (((sIx n 0 lo : Nat) : Int), (1 : Int), Builtin.Slice.slicePlaces ((sIx n 0 lo : Nat) : Int) ((sIx n n hi : Nat) : Int) 1)) _ _ s
  rw [places_gen]
  exact wpAny_pure h
theorem pick_gen (xs : Array Value) (i k : Nat) : ((List.range k).filterMap fun (m : Nat) => xs[((i : Int) + (m : Int) * 1).toNat]?).toArray = ((xs.toList.drop i).take k).toArray := by
  have e : (fun (m : Nat) => xs[((i : Int) + (m : Int) * 1).toNat]?) = fun m => xs[i + m]? := by
    funext m
    have : ((i : Int) + (m : Int) * 1).toNat = i + m := by omega
    rw [this]
  rw [e]
  have := pick_run xs i k
  rw [List.filterMap_map] at this
  have e2 : ((fun x => xs[x]?) ∘ fun x => i + x) = fun m => xs[i + m]? := rfl
  rw [e2] at this
  rw [this]

theorem getItem_tuple_cut {t sl : Addr} {items : Array Value} {vl vu : Value} {lo hi : Option Int} {Q : Value → Shared → Prop} (ht : IsTup s.heap t items) (hs : s.heap.IsSliceOf sl vl vu .none) (pl : IsPart vl lo) (pu : IsPart vu hi)
    (hw : ¬ (sIx items.size 0 lo = 0 ∧ sIx items.size items.size hi = items.size))
    (h : Q (.ref s.heap.objs.size) { s with heap := s.heap.push { cls := .type "tuple", data := .seq ((items.toList.drop (sIx items.size 0 lo)).take (sIx items.size items.size hi - sIx items.size 0 lo)).toArray } })
    (hsz : items.size ≤ sizeLine) : wpAny (model prog w) A (getItem (.ref t) (.ref sl)) Q E s := by
  have htake : sizeOk (.seq ((items.toList.drop (sIx items.size 0 lo)).take (sIx items.size items.size hi - sIx items.size 0 lo)).toArray) := by
    show ((items.toList.drop (sIx items.size 0 lo)).take (sIx items.size items.size hi - sIx items.size 0 lo)).toArray.size ≤ sizeLine
    rw [List.size_toArray, List.length_take, List.length_drop, Array.length_toList]
    omega
  have hj : sIx items.size items.size hi ≤ items.size := sIx_le _ _ (Nat.le_refl _) hi
  obtain ⟨os, hos, hcs, hds⟩ := id hs
  have hTs : s.TypeIs (.ref sl) "slice" := ⟨os, hos, hcs⟩
  unfold getItem
  try with_reducible refine wpAny_holding ?_
  first | refine wpAny_bind (wpAny_pure ?_) | skip
  refine wpAny_bind (wpAny_sequenceKey ht.typeIs (by decide) ?_)
  refine wpAny_bind (wpAny_callSpecial?_slot (name := Str.ofString "__getitem__") ht.typeIs PyProof.Rows.slot_tuple_getitem
    (wpAny_call_entry PyProof.Rows.slot_tuple_getitem ht.typeIs entry_tuple_getitem ?_ (args_tuple_getitem _ _)))
  show wpAny _ _ (Builtin.Tuple.tupleItemsOf (.ref t) >>= _) _ _ s
  refine wpAny_bind (tupleItemsOf_ ht ?_)
  refine wpAny_bind (wpAny_typeOf hTs ?_)
  rw [if_pos (by decide)]
  refine wpAny_bind (sliceApplied_gen hs pl pu ?_)
  have hno : ¬ ((((sIx items.size 0 lo : Nat) : Int) == 0 && (1 : Int) == 1 && (sIx items.size items.size hi - sIx items.size 0 lo) == items.size) = true) := by
    intro q
    rw [Bool.and_eq_true, Bool.and_eq_true] at q
    have q1 : ((sIx items.size 0 lo : Nat) : Int) = 0 := eq_of_beq q.1.1
    have q2 : sIx items.size items.size hi - sIx items.size 0 lo = items.size := eq_of_beq q.2
    exact hw ⟨by omega, by omega⟩
  show wpAny _ _ (if (((sIx items.size 0 lo : Nat) : Int) == 0 && (1 : Int) == 1 && (sIx items.size items.size hi - sIx items.size 0 lo) == items.size) = true then _ else _) _ _ s
  rw [if_neg hno, pick_gen]
  first
    | exact wpAny_bind (m := Builtin.Tuple.tupleExact _) (wpAny_newObj_type (wpAny_pure ⟨_, rfl, wpAny_pure h⟩) htake)
    | exact wpAny_bind (m := Builtin.Tuple.tupleExact _) (wpAny_newObj_type (wpAny_bind (wpAny_pure (wpAny_pure ⟨_, rfl, wpAny_pure h⟩))) htake)
    | exact wpAny_bind (wpAny_bind (m := Builtin.Tuple.tupleExact _) (wpAny_newObj_type (wpAny_pure (wpAny_pure ⟨_, rfl, wpAny_pure h⟩)) htake))
    | exact wpAny_bind (wpAny_bind (m := Builtin.Tuple.tupleExact _) (wpAny_newObj_type (wpAny_pure ⟨_, rfl, wpAny_pure h⟩) htake))
end
end HT

namespace L2
open PySem PySem.Spec PyProof.Rows

abbrev TO := St → Hp → (Option Int → Hp → Prop) → Prop
def PO (X : Cx) (e : Option Expr) (t : TO) : Prop :=
  ∀ (pins : List (Addr × Obj)) (s : Shared) (σ : St) (H : Hp) (Q : Option Int → Hp → Prop), Inv X pins σ H s → t σ H Q →
    wpAny (model X.prog X.w) X.A (evalPart e X.env) (fun u s' => ∃ o H', Inv X pins σ H' s' ∧ IsPart u o ∧ Q o H') X.xe s
def tNoPart : TO := fun _ H Q => Q none H
def tPart (t : TE) : TO := fun σ H Q => t σ H fun x H1 => ∃ i, x = .int i ∧ Q (some i) H1

section
variable {X : Cx} {e : Expr} {te : TE} {lo hi : Option Expr} {tl th : TO} {pos p2 : Pos}

theorem po_none : PO X none tNoPart := by
  intro pins s σ H Q I h
  rw [evalPart_none]
  exact wpAny_pure ⟨none, H, I, .none, h⟩
theorem po_some (h : PE X e te) : PO X (some e) (tPart te) := by
  intro pins s σ H Q I hw
  rw [evalPart_some]
  refine thn (h pins s σ H _ I hw) fun u s1 ⟨x, H1, I1, r1, q1⟩ => ?_
  obtain ⟨i, rfl, q⟩ := q1
  obtain ⟨t, rfl⟩ := r1
  exact ⟨some i, H1, I1, .int i t, q⟩

def SlR (X : Cx) (r : V → Option Int → Option Int → Hp → VK → Prop) : Prop :=
  ∀ (pins : List (Addr × Obj)) (s : Shared) (σ : St) (H : Hp) (x : V) (v vl vu : Value) (lo hi : Option Int) (sl : Addr) (Q : VK), Inv X pins σ H s → RelV x v → s.heap.IsSliceOf sl vl vu .none → IsPart vl lo → IsPart vu hi → r x lo hi H Q →
    ∃ T id, typeLookup (.type T) "__getitem__" = pure (some (.builtin id)) ∧ s.TypeIs v T ∧ wpAny (model X.prog X.w) X.A (getItem v (.ref sl)) (EP X pins σ Q) X.xe s
def tSl (r : V → Option Int → Option Int → Hp → VK → Prop) (te : TE) (tl th : TO) : TE := fun σ H Q => te σ H fun x H1 => tl σ H1 fun l H2 => th σ H2 fun u H3 => r x l u H3 Q
theorem pe_slice {r : V → Option Int → Option Int → Hp → VK → Prop} (hr : SlR X r) (he : PE X e te) (hl : PO X lo tl) (hu : PO X hi th) : PE X (.Subscript e (.Slice lo hi none p2) pos) (tSl r te tl th) := by
  intro pins s σ H Q I h
  refine Subscript_ (thn (he pins s σ H _ I h) fun v s1 ⟨x, H1, I1, r1, q1⟩ => ?_)
  refine wpAny_Slice (thn (hl pins s1 σ H1 _ I1 q1) fun vl s2 ⟨l, H2, I2, pl, q2⟩ => thn (hu pins s2 σ H2 _ I2 q2) fun vu s3 ⟨u, H3, I3, pu, q3⟩ => ?_)
  rw [evalPart_none]
  refine wpAny_pure ?_
  have I4 : Inv X pins σ H3 { s3 with heap := s3.heap.push { cls := .type "slice", data := .fields #[vl, vu, .none] } } := I3.kept (t' := s3.toks) fun b ob q => Heap.get?_push_of_some _ q
  obtain ⟨T, id, hT, ht, hg⟩ := hr pins { s3 with heap := s3.heap.push { cls := .type "slice", data := .fields #[vl, vu, .none] } } σ H3 x v vl vu l u s3.heap.objs.size Q I4 r1 (Heap.IsSliceOf.new ..) pl pu q3
  show wpAny (model X.prog X.w) X.A (subscriptTail e (.Slice lo hi none p2) v (.ref s3.heap.objs.size)) (EP X pins σ Q) X.xe { s3 with heap := s3.heap.push { cls := .type "slice", data := .fields #[vl, vu, .none] } }
  exact tail_any (ops := [.ref s3.heap.objs.size, v]) ht hT hg (by with_unfolding_all rfl)

def cutV (xs : List V) (lo hi : Option Int) : List V := (xs.drop (HT.sIx xs.length 0 lo)).take (HT.sIx xs.length xs.length hi - HT.sIx xs.length 0 lo)
theorem cutV_length (xs : List V) (lo hi : Option Int) : (cutV xs lo hi).length ≤ xs.length := by
  unfold cutV
  rw [List.length_take, List.length_drop]
  omega
def rSlT (K : PySem.W.Frag) : V → Option Int → Option Int → Hp → VK → Prop := fun x lo hi H Q => ∃ a xs, x = .ref a ∧ SqT K H a xs ∧
  ¬ (HT.sIx xs.length 0 lo = 0 ∧ HT.sIx xs.length xs.length hi = xs.length) ∧ ∀ p, H p = none → Q (.ref p) (upd H p (.tup (cutV xs lo hi)))
theorem sl_tup : SlR X (rSlT X.K) := by
  intro pins s σ H x v vl vu lo hi sl Q I rx hs pl pu h
  obtain ⟨a, xs, rfl, hx, hw, q⟩ := h
  cases rx
  obtain ⟨its, r, ht, hz⟩ := I.tuple hx
  have hlen : its.toArray.size = xs.length := by rw [List.size_toArray]; exact r.length.symm
  refine ⟨"tuple", _, PyProof.Rows.slot_tuple_getitem.lookup, ht.typeIs, ?_⟩
  refine HT.getItem_tuple_cut ht hs pl pu (by rw [hlen]; exact hw) ?_ (by rw [hlen]; exact hz)
  rw [hlen]
  refine ⟨.ref s.heap.objs.size, _, I.laid (t' := s.toks) (o := .tup (cutV xs lo hi)) (fun b ob q => Heap.get?_push_of_some _ q) (Nat.le_refl _) ?_, rfl, q _ (I.hok.fresh (Nat.le_refl _))⟩
  exact ⟨Nat.le_trans (cutV_length xs lo hi) hz, _, (r.drop (HT.sIx xs.length 0 lo)).take (HT.sIx xs.length xs.length hi - HT.sIx xs.length 0 lo), IsTup.new _ _⟩

end
end L2

namespace L2
open PySem PySem.Spec PyProof.Rows

def ixN (n : Nat) (i : Int) : Option Nat := if 0 ≤ i then (if i < n then some i.toNat else none) else if -(n : Int) ≤ i then some (i + n).toNat else none
def atI {α : Type} (xs : List α) (i : Int) : Option α := (ixN xs.length i).bind fun j => xs[j]?
theorem ixN_seq {n : Nat} {i : Int} {j : Nat} (h : ixN n i = some j) : seqIndex? i n = some j ∧ j < n ∧ -(n : Int) ≤ i ∧ i < n := by
  unfold ixN at h
  by_cases h0 : 0 ≤ i
  · rw [if_pos h0] at h
    by_cases h1 : i < n
    · rw [if_pos h1] at h
      have e : i.toNat = j := Option.some.inj h
      exact ⟨by rw [seqIndex_of h0 h1, e], by omega, by omega, h1⟩
    · rw [if_neg h1] at h; cases h
  · rw [if_neg h0] at h
    by_cases h1 : -(n : Int) ≤ i
    · rw [if_pos h1] at h
      have e : (i + n).toNat = j := Option.some.inj h
      exact ⟨by rw [seqIndex_neg (by omega) h1, e], by omega, h1, by omega⟩
    · rw [if_neg h1] at h; cases h
theorem atI_get {α : Type} {xs : List α} {i : Int} {v : α} (h : atI xs i = some v) : ∃ j, seqIndex? i xs.length = some j ∧ xs[j]? = some v ∧ j < xs.length ∧ -(xs.length : Int) ≤ i ∧ i < xs.length := by
  unfold atI at h
  cases e : ixN xs.length i with
  | none => rw [e] at h; cases h
  | some j =>
    rw [e] at h
    obtain ⟨h1, h2, h3, h4⟩ := ixN_seq e
    exact ⟨j, h1, h, h2, h3, h4⟩
theorem atI_nat {α : Type} {xs : List α} {j : Nat} {v : α} (h : xs[j]? = some v) : atI xs (j : Int) = some v := by
  have hj : j < xs.length := (List.getElem?_eq_some_iff.mp h).1
  have e : ixN xs.length (j : Int) = some j := by
    unfold ixN
    rw [if_pos (by omega), if_pos (by omega)]; simp
  unfold atI; rw [e]; exact h
def PlainIx (b : Expr) : Prop := ∀ o i, subscripted b false o i = operate [o, i] (getItem o i)
def IxR (X : Cx) (r : R2) : Prop :=
  ∀ (value slice : Expr) (pins : List (Addr × Obj)) (s : Shared) (σ : St) (H : Hp) (x y : V) (v u : Value) (Q : VK), Inv X pins σ H s → RelV x v → RelV y u → r x y H Q →
    subscripted slice false v u = operate [v, u] (getItem v u) → wpAny (model X.prog X.w) X.A (subscriptTail value slice v u) (EP X pins σ Q) X.xe s
def MtR (X : Cx) (id : String) (r : V → List V → Hp → VK → Prop) : Prop :=
  ∀ (pins : List (Addr × Obj)) (s : Shared) (σ : St) (H : Hp) (x : V) (xs : List V) (v : Value) (us : List Value) (Q : VK), Inv X pins σ H s → RelV x v → Vals xs us → r x xs H Q →
    wpAny (model X.prog X.w) X.A (call (.builtin id) (v :: us)) (EP X pins σ Q) X.xe s
section
variable {X : Cx} {a b : Expr} {ta tb : TE} {pos : Pos}
theorem pe_ix {r : R2} (hr : IxR X r) (ha : PE X a ta) (hb : PE X b tb) (hs : PlainIx b) : PE X (.Subscript a b pos) (tOp r ta tb) := by
  intro pins s σ H Q I h
  exact Subscript_ (binT ha hb I h fun v u s2 x y H2 I2 rx ry q => hr a b pins s2 σ H2 x y v u Q I2 rx ry q (hs _ _))

def rIxL (K : PySem.W.Frag) : R2 := fun x y H Q => ∃ p xs i v, x = .ref p ∧ y = .int i ∧ SqL K H p xs ∧ atI xs i = some v ∧ Q v H
def rIxT (K : PySem.W.Frag) : R2 := fun x y H Q => ∃ p xs i v, x = .ref p ∧ y = .int i ∧ SqT K H p xs ∧ atI xs i = some v ∧ Q v H
theorem ix_list : IxR X (rIxL X.K) := by
  intro value slice pins s σ H x y v u Q I rx ry h hs
  obtain ⟨p, xs, i, z, rfl, rfl, hq, he, q⟩ := h
  cases rx
  obtain ⟨t, rfl⟩ := ry
  obtain ⟨its, r, pl, hz⟩ := I.list hq
  obtain ⟨j, h1, h2, h3, h4, h5⟩ := atI_get he
  obtain ⟨w, ew, rw'⟩ := r.get h2
  have hl := r.length
  have hn := line63
  have fin : EP X pins σ Q w s := ⟨z, H, I, rw', q⟩
  by_cases h0 : 0 ≤ i
  · have hj : i.toNat = j := by
      rw [seqIndex_of h0 h5] at h1
      exact Option.some.inj h1
    exact item_listR pl.isList h0 (by omega) (by rw [hj]; simpa using ew) fin hs
  · have hj : (i + (its.toArray.size : Int)).toNat = j := by
      rw [seqIndex_neg (by omega) h4] at h1
      rw [List.size_toArray, ← hl]
      exact Option.some.inj h1
    exact subscriptTail_builtinR (x := w) pl.isList.typeIs slot_list_getitem.lookup
      (wpAny_getItem_list_neg (Q := fun r s' => r = w ∧ EP X pins σ Q r s') pl.isList (by omega) (by rw [List.size_toArray] <;> omega) (by omega) (by rw [hj]; simpa using ew) ⟨rfl, fin⟩) hs
theorem ix_tup : IxR X (rIxT X.K) := by
  intro value slice pins s σ H x y v u Q I rx ry h hs
  obtain ⟨p, xs, i, z, rfl, rfl, hq, he, q⟩ := h
  cases rx
  obtain ⟨t, rfl⟩ := ry
  obtain ⟨its, r, pl, hz⟩ := I.tuple hq
  obtain ⟨j, h1, h2, h3, h4, h5⟩ := atI_get he
  obtain ⟨w, ew, rw'⟩ := r.get h2
  have hl := r.length
  have hn := line63
  have fin : EP X pins σ Q w s := ⟨z, H, I, rw', q⟩
  exact subscriptTail_builtinR (x := w) pl.typeIs slot_tuple_getitem.lookup
    (getItem_tuple (j := j) (Q := fun r s' => r = w ∧ EP X pins σ Q r s') pl (by omega) (by omega) (by rw [List.size_toArray, ← hl]; exact h1) (by simpa using ew) ⟨rfl, fin⟩) hs
theorem mapSeq_set (its : List Value) (n j : Nat) (u : Value) : Obj.mapSeq (·.setIfInBounds j u) { cls := .type "list", data := .seq its.toArray n } = { cls := .type "list", data := .seq (its.set j u).toArray n } := by
  simp [Obj.mapSeq]
theorem Inv.lst {pins : List (Addr × Obj)} {σ : St} {H : Hp} {s : Shared} {p : Addr} {xs : List V} (I : Inv X pins σ H s) (h : H p = some (.lst xs)) :
    ∃ (its : List Value) (n : Nat), Vals xs its ∧ s.heap.get? p = some { cls := .type "list", data := .seq its.toArray n } ∧ xs.length ≤ sizeLine := by
  obtain ⟨z, its, n, r, e⟩ := I.hok p _ h
  exact ⟨its, n, r, e, z⟩
theorem Inv.lstUpd {pins : List (Addr × Obj)} {σ : St} {H : Hp} {s : Shared} {p : Addr} {xs ys : List V} {its its' : List Value} {n n' : Nat} {f : Obj → Obj} (I : Inv X pins σ H s) (h : H p = some (.lst xs))
    (ho : s.heap.get? p = some { cls := .type "list", data := .seq its.toArray n }) (hf : f { cls := .type "list", data := .seq its.toArray n } = { cls := .type "list", data := .seq its'.toArray n' }) (r : Vals ys its') (hz : ys.length ≤ sizeLine) (t : Nat) :
    Inv X pins σ (upd H p (.lst ys)) { s with heap := s.heap.update p f, toks := t } := by
  have e : (s.heap.update p f).get? p = some { cls := .type "list", data := .seq its'.toArray n' } := by
    rw [Heap.get?_update_self f ho (by rw [hf] <;> rfl), hf]
  refine I.write (x := p) (e := p) (by rw [h]; trivial) (.inl rfl) (fun b u hb q => (Heap.get?_update_other _ _ (Ne.symm hb)).trans q) ⟨_, e⟩ ?_
  exact ⟨hz, its', n', r, e⟩
def rSetL : V → V → V → Hp → (Hp → Prop) → Prop := fun o i v H Q => ∃ p xs k j, o = .ref p ∧ i = .int k ∧ H p = some (.lst xs) ∧ ixN xs.length k = some j ∧ Q (upd H p (.lst (xs.set j v)))
theorem set_list : PSet X rSetL := by
  intro pins s σ H o i v ov iv u Q I ro ri rv h
  obtain ⟨p, xs, k, j, rfl, rfl, hp, hj, q⟩ := h
  cases ro
  obtain ⟨t, rfl⟩ := ri
  obtain ⟨its, n, r, ho, hz⟩ := I.lst hp
  obtain ⟨h1, h2, h3, h4⟩ := ixN_seq hj
  have hl := r.length
  have hn := line63
  have I' : Inv X pins σ (upd H p (.lst (xs.set j v))) { s with heap := s.heap.update p (Obj.mapSeq (·.setIfInBounds j u)) } :=
    I.lstUpd hp ho (mapSeq_set its n j u) (r.set rv j) (by rw [List.length_set]; exact hz) s.toks
  by_cases h0 : 0 ≤ k
  · have hk : k.toNat = j := by
      rw [seqIndex_of h0 h4] at h1
      exact Option.some.inj h1
    exact PySem.W.ki_setAt ho h0 (by omega) (by rw [List.size_toArray, ← hl]; exact h4) (by rw [hk]; exact ⟨_, I', q⟩)
  · have hk : (k + (its.toArray.size : Int)).toNat = j := by
      rw [seqIndex_neg (by omega) h3] at h1
      rw [List.size_toArray, ← hl]
      exact Option.some.inj h1
    exact PySem.W.ki_setBack ho (by omega) (by rw [List.size_toArray, ← hl]; exact h3) (by omega) (by rw [hk]; exact ⟨_, I', q⟩)

theorem slice_bounds (lo hi : Option Int) (n : Nat) : (sliceBounds lo hi none n).1 = ((HT.sIx n 0 lo : Nat) : Int) ∧ (sliceBounds lo hi none n).2.1 = ((HT.sIx n n hi : Nat) : Int) ∧ (sliceBounds lo hi none n).2.2 = 1 := by
  refine ⟨?_, ?_, rfl⟩
  · cases lo with
    | none => simp [sliceBounds, HT.sIx]
    | some i =>
      simp only [sliceBounds, HT.sIx, Option.getD_none, show (1 : Int) > 0 by decide, if_true]
      by_cases h : i < 0
      · simp only [h, if_true] <;> omega
      · simp only [h, if_false] <;> omega
  · cases hi with
    | none => simp [sliceBounds, HT.sIx]
    | some i =>
      simp only [sliceBounds, HT.sIx, Option.getD_none, show (1 : Int) > 0 by decide, if_true]
      by_cases h : i < 0
      · simp only [h, if_true] <;> omega
      · simp only [h, if_false] <;> omega
theorem slicePick_cut (its : List Value) (lo hi : Option Int) : slicePick its.toArray lo hi none = ((its.drop (HT.sIx its.length 0 lo)).take (HT.sIx its.length its.length hi - HT.sIx its.length 0 lo)).toArray := by
  obtain ⟨h1, h2, h3⟩ := slice_bounds lo hi its.toArray.size
  unfold slicePick
  rw [h1, h2, h3]
  simp only [sliceRange_one, pick_run, List.size_toArray] <;> rfl
def rSlL (K : PySem.W.Frag) : V → Option Int → Option Int → Hp → VK → Prop := fun x lo hi H Q => ∃ a xs, x = .ref a ∧ SqL K H a xs ∧ ∀ p, H p = none → Q (.ref p) (upd H p (.lst (cutV xs lo hi)))
theorem sl_list : SlR X (rSlL X.K) := by
  intro pins s σ H x v vl vu lo hi sl Q I rx hs pl pu h
  obtain ⟨a, xs, rfl, hx, q⟩ := h
  cases rx
  obtain ⟨its, r, ht, hz⟩ := I.list hx
  have hlen := r.length
  refine ⟨"list", _, slot_list_getitem.lookup, ht.isList.typeIs, ?_⟩
  refine wpAny_getItem_list_slice ht.isList hs pl pu .none (by simp) ?_ (by rw [List.size_toArray] <;> omega)
  rw [slicePick_cut, ← hlen]
  refine ⟨.ref s.heap.objs.size, _, I.laid (t' := s.toks) (o := .lst (cutV xs lo hi)) (fun b ob q => Heap.get?_push_of_some _ q) (Nat.le_refl _) ?_, rfl, q _ (I.hok.fresh (Nat.le_refl _))⟩
  exact ⟨Nat.le_trans (cutV_length xs lo hi) hz, _, 0, (r.drop (HT.sIx xs.length 0 lo)).take (HT.sIx xs.length xs.length hi - HT.sIx xs.length 0 lo), Heap.get?_push_size _ rfl⟩

def flatV : V → Bool
  | .non => true
  | .bl _ => true
  | .int _ => true
  | .str _ => true
  | _ => false
def eqV : V → V → Bool
  | .non, .non => true
  | .bl a, .bl b => a == b
  | .bl a, .int b => (if a then 1 else 0) == b
  | .int a, .bl b => a == (if b then 1 else 0)
  | .int a, .int b => a == b
  | .str a, .str b => a == b
  | _, _ => false
theorem eqAt_V {A : Around} {s : Shared} {y x : V} {u v : Value} (ry : RelV y u) (rx : RelV x v) (fy : flatV y = true) (fx : flatV x = true) : SeqAt.EqAt A s u v (eqV y x) := by
  cases y with
  | non =>
    cases ry
    cases x with
    | non => cases rx; exact SeqAt.EqAt.same _
    | bl b => cases rx; exact SeqAt.EqAt.none_bool b
    | int b => obtain ⟨t, rfl⟩ := rx; exact SeqAt.EqAt.none_int b t
    | str b => obtain ⟨t, rfl⟩ := rx; exact SeqAt.EqAt.none_str b t
    | _ => exact absurd (show false = true from fx) Bool.false_ne_true
  | bl a =>
    cases ry
    cases x with
    | non => cases rx; exact SeqAt.EqAt.bool_none a
    | bl b => cases rx; exact SeqAt.EqAt.bool_bool a b
    | int b => obtain ⟨t, rfl⟩ := rx; exact SeqAt.EqAt.bool_int a b t
    | str b => obtain ⟨t, rfl⟩ := rx; exact SeqAt.EqAt.bool_str a b t
    | _ => exact absurd (show false = true from fx) Bool.false_ne_true
  | int a =>
    obtain ⟨t', rfl⟩ := ry
    cases x with
    | non => cases rx; exact SeqAt.EqAt.int_none a t'
    | bl b => cases rx; exact SeqAt.EqAt.int_bool a t' b
    | int b => obtain ⟨t, rfl⟩ := rx; exact SeqAt.EqAt.int_int a t' b t
    | str b => obtain ⟨t, rfl⟩ := rx; exact SeqAt.EqAt.int_str a t' b t
    | _ => exact absurd (show false = true from fx) Bool.false_ne_true
  | str a =>
    obtain ⟨t', rfl⟩ := ry
    cases x with
    | non => cases rx; exact SeqAt.EqAt.str_none a t'
    | bl b => cases rx; exact SeqAt.EqAt.str_bool a t' b
    | int b => obtain ⟨t, rfl⟩ := rx; exact SeqAt.EqAt.str_int a t' b t
    | str b => obtain ⟨t, rfl⟩ := rx; exact SeqAt.EqAt.str_str a t' b t
    | _ => exact absurd (show false = true from fx) Bool.false_ne_true
  | _ => exact absurd (show false = true from fy) Bool.false_ne_true
def eqU (x : V) (u : Value) : Bool := match u with
  | .none => eqV .non x
  | .bool b => eqV (.bl b) x
  | .int i _ => eqV (.int i) x
  | .str z _ => eqV (.str z) x
  | _ => false
theorem eqU_of {x y : V} {u : Value} (r : RelV y u) (f : flatV y = true) : eqU x u = eqV y x := by
  cases y with
  | non => cases r; rfl
  | bl b => cases r; rfl
  | int i => obtain ⟨t, rfl⟩ := r; rfl
  | str z => obtain ⟨t, rfl⟩ := r; rfl
  | _ => exact absurd (show false = true from f) Bool.false_ne_true
theorem any_eqU {x : V} : ∀ {xs : List V} {us : List Value}, Vals xs us → xs.all flatV = true → us.any (eqU x) = xs.any fun y => eqV y x
  | _, _, .nil, _ => rfl
  | y :: xs, u :: us, .cons r t, f => by
    rw [List.all_cons, Bool.and_eq_true] at f
    rw [List.any_cons, List.any_cons, eqU_of r f.1, any_eqU t f.2]
theorem mem_eqAt {A : Around} {s : Shared} {x : V} {v : Value} (rx : RelV x v) (fx : flatV x = true) : ∀ {xs : List V} {us : List Value}, Vals xs us → xs.all flatV = true → ∀ u ∈ us, SeqAt.EqAt A s u v (eqU x u)
  | _, _, .nil, _ => fun u hu => by cases hu
  | y :: xs, u :: us, .cons r t, f => fun u' hu => by
    rw [List.all_cons, Bool.and_eq_true] at f
    rcases List.mem_cons.mp hu with rfl | hu
    · rw [eqU_of r f.1]; exact eqAt_V r rx f.1 fx
    · exact mem_eqAt rx fx t f.2 u' hu
def inV (x : V) (xs : List V) : Bool := xs.any fun y => eqV y x
def rIn (K : PySem.W.Frag) (neg : Bool) : R2 := fun x y H Q => ∃ p xs, y = .ref p ∧ (SqL K H p xs ∨ SqT K H p xs) ∧ flatV x = true ∧ xs.all flatV = true ∧ Q (.bl (if neg then !inV x xs else inV x xs)) H
theorem op_in_seq : OpR X (compareOp .In) (rIn X.K false) := by
  intro pins s σ H x y v u Q I rx ry h
  obtain ⟨p, xs, rfl, hq, fx, fs, q⟩ := h
  cases ry
  rcases hq with hq | hq
  · obtain ⟨its, r, pl, hz⟩ := I.list hq
    refine SeqAt.in_listAt (eqU x) pl.isList (fun w hw => mem_eqAt rx fx r fs w (by simpa using hw)) ⟨.bl _, H, I, rfl, ?_⟩
    rw [show its.toArray.any (eqU x) = its.any (eqU x) by simp, any_eqU r fs]
    exact q
  · obtain ⟨its, r, pl, hz⟩ := I.tuple hq
    refine SeqAt.in_tupleAt (eqU x) pl (fun w hw => mem_eqAt rx fx r fs w (by simpa using hw)) ⟨.bl _, H, I, rfl, ?_⟩
    rw [show its.toArray.any (eqU x) = its.any (eqU x) by simp, any_eqU r fs]
    exact q
theorem op_notIn_seq : OpR X (compareOp .NotIn) (rIn X.K true) := by
  intro pins s σ H x y v u Q I rx ry h
  obtain ⟨p, xs, rfl, hq, fx, fs, q⟩ := h
  cases ry
  rcases hq with hq | hq
  · obtain ⟨its, r, pl, hz⟩ := I.list hq
    refine SeqAt.notIn_listAt (eqU x) pl.isList (fun w hw => mem_eqAt rx fx r fs w (by simpa using hw)) ⟨.bl _, H, I, rfl, ?_⟩
    rw [show its.toArray.any (eqU x) = its.any (eqU x) by simp, any_eqU r fs]
    exact q
  · obtain ⟨its, r, pl, hz⟩ := I.tuple hq
    refine SeqAt.notIn_tupleAt (eqU x) pl (fun w hw => mem_eqAt rx fx r fs w (by simpa using hw)) ⟨.bl _, H, I, rfl, ?_⟩
    rw [show its.toArray.any (eqU x) = its.any (eqU x) by simp, any_eqU r fs]
    exact q
theorem call_len_seq : CallR X (.builtin "len") (fun xs H Q => ∃ p ys, xs = [.ref p] ∧ (SqL X.K H p ys ∨ SqT X.K H p ys) ∧ Q (.int ys.length) H) := by
  intro pins s σ H xs us Q I r h
  obtain ⟨p, ys, rfl, hq, q⟩ := h
  obtain ⟨u, rfl, rx⟩ := vals1 r
  cases rx
  have hn := line63
  rcases hq with hq | hq
  · obtain ⟨its, r', pl, hz⟩ := I.list hq
    have hlen := r'.length
    exact Calls.call_len_list pl.isList (by simp only [List.size_toArray] <;> omega) ⟨.int ys.length, H, I.tok _, ⟨s.toks + 1, by rw [List.size_toArray, hlen]⟩, q⟩
  · obtain ⟨its, r', pl, hz⟩ := I.tuple hq
    have hlen := r'.length
    exact len_tuple pl (by simp only [List.size_toArray] <;> omega) ⟨.int ys.length, H, I.tok _, ⟨s.toks + 1, by rw [List.size_toArray, hlen]⟩, q⟩
theorem call_list_of : CallR X (.type "list") (fun xs H Q => ∃ p ys, xs = [.ref p] ∧ (SqL X.K H p ys ∨ SqT X.K H p ys) ∧ ∀ l, H l = none → Q (.ref l) (upd H l (.lst ys))) := by
  intro pins s σ H xs us Q I r h
  obtain ⟨p, ys, rfl, hq, q⟩ := h
  obtain ⟨u, rfl, rx⟩ := vals1 r
  cases rx
  have fin : ∀ (its : List Value), Vals ys its → ys.length ≤ sizeLine → ∀ (h' : Heap) (c' : Nat), (∀ b o', s.heap.get? b = some o' → h'.get? b = some o') →
      h'.get? s.heap.objs.size = some { cls := .type "list", dict := none, data := .seq its.toArray c', slots := #[] } → EP X pins σ Q (.ref s.heap.objs.size) { s with heap := h' } := fun its r' hz h' c' kp e =>
    ⟨.ref s.heap.objs.size, _, I.laid (t' := s.toks) kp (Nat.le_refl _) (show ObjOk X.prog X.w _ h' _ (.lst ys) from ⟨hz, its, c', r', e⟩), rfl, q _ (I.hok.fresh (Nat.le_refl _))⟩
  rcases hq with hq | hq
  · obtain ⟨its, r', pl, hz⟩ := I.list hq
    have hlen := r'.length
    obtain ⟨o, ho, hc, n, hd⟩ := pl.isList
    exact call_list_seq p (.inl rfl) ho hc hd (fun h' c' kp e => fin its r' hz h' c' kp e) (by simp only [List.size_toArray] <;> omega)
  · obtain ⟨its, r', pl, hz⟩ := I.tuple hq
    have hlen := r'.length
    obtain ⟨o, ho, hc, n, hd⟩ := pl
    exact call_list_seq p (.inr rfl) ho hc hd (fun h' c' kp e => fin its r' hz h' c' kp e) (by simp only [List.size_toArray] <;> omega)
def tyV (K : PySem.W.Frag) (T : String) (x : V) (H : Hp) : Prop := match x with
  | .str _ => T = "str"
  | .int _ => T = "int"
  | .ref p => (T = "list" ∧ ∃ xs, SqL K H p xs) ∨ (T = "tuple" ∧ ∃ o, K.lookup p = some o ∧ o.cls = .type "tuple" ∧ o.dict = none) ∨
      (T = "dict" ∧ ((∃ kvs, H p = some (.dK kvs)) ∨ ∃ kvs, H p = some (.dT kvs))) ∨ (T = "set" ∧ ∃ S n, H p = some (.set S n))
  | _ => False
theorem tyV_is {pins : List (Addr × Obj)} {σ : St} {H : Hp} {s : Shared} {T : String} {x : V} {v : Value} (I : Inv X pins σ H s) (r : RelV x v) (ty : tyV X.K T x H) :
    s.TypeIs v T ∧ ∀ a, v = .ref a → ∃ ob, s.heap.get? a = some ob ∧ ob.dict = none := by
  cases x with
  | str z =>
    obtain ⟨t, rfl⟩ := r
    cases (show T = "str" from ty)
    exact ⟨typeIs_str s z t, fun _ e => nomatch e⟩
  | int i =>
    obtain ⟨t, rfl⟩ := r
    cases (show T = "int" from ty)
    exact ⟨typeIs_int s i t, fun _ e => nomatch e⟩
  | ref p =>
    cases r
    rcases ty with ⟨rfl, xs, hq⟩ | ⟨rfl, o, hk, hc, hd⟩ | ⟨rfl, hk⟩ | ⟨rfl, S, n, hk⟩
    · obtain ⟨its, _, pl, _⟩ := I.list hq
      refine ⟨pl.isList.typeIs, fun a e => ?_⟩
      cases e
      obtain ⟨o, n, e, c, hd, _⟩ := pl
      exact ⟨o, e, hd⟩
    · refine ⟨⟨o, I.kIn p o hk, hc⟩, fun a e => ?_⟩
      cases e
      exact ⟨o, I.kIn _ o hk, hd⟩
    · have z : ∃ o, s.heap.get? p = some o ∧ o.ExactDict := by
        rcases hk with ⟨kvs, hk⟩ | ⟨kvs, hk⟩
        · obtain ⟨_, _, _, _, o, _, _, e, ex, _⟩ := I.hok p _ hk
          exact ⟨o, e, ex⟩
        · obtain ⟨_, _, _, _, o, _, _, e, ex, _⟩ := I.hok p _ hk
          exact ⟨o, e, ex⟩
      obtain ⟨o, e, ex⟩ := z
      refine ⟨⟨o, e, ex.1⟩, fun a e2 => ?_⟩
      cases e2
      exact ⟨o, e, ex.2.1⟩
    · obtain ⟨o, _, _, _, e, ex, _⟩ := I.hok p _ hk
      refine ⟨⟨o, e, ex.1⟩, fun a e2 => ?_⟩
      cases e2
      exact ⟨o, e, ex.2.1⟩
  | _ => exact False.elim ty
def tBM (K : PySem.W.Frag) (T : String) (r : V → List V → Hp → VK → Prop) (to : TE) (t : TA) : TE := fun σ H Q => to σ H fun x H1 => tyV K T x H1 ∧ t σ H1 fun xs H2 => r x xs H2 Q
variable {o e : Expr} {es : List Expr} {to : TE} {t : TA} {name : Str} {apos cpos : Pos} {T id : String} {r : V → List V → Hp → VK → Prop}
theorem pe_bm (pa : PlainAttrs T) (slot : Slot T name id) (hty : typeOf (.builtin id) = pure (.type "method_descriptor")) (hm : MtR X id r) (ho : PE X o to) (ha : PA X (e :: es) t)
    (hbase : attributeBase o name X.env (eval o X.env) = eval o X.env := by rfl)
    (hfew : ((backTo cpos (starEach (e :: es) X.env)).all (fun x => !x.1) && (backToKw cpos (keywordEach [] X.env)).all (fun x => x.1.isSome)
      && decide ((e :: es).length + ([] : List Keyword).length + (if ([] : List Keyword).isEmpty then 0 else 1) < 30)) = true := by rfl)
    (hline : (apos.endLine == cpos.line) = true := by rfl) (hs : starEach (e :: es) X.env = (false, eval e X.env) :: starEach es X.env := by rfl) (hplain : (backTo cpos (starEach es X.env)).any (·.1) = false := by rfl) :
    PE X (.Call (.Attribute o name apos) (e :: es) [] cpos) (tBM X.K T r to t) := by
  intro pins s σ H Q I h
  refine wpAny_Call_method_late hbase hfew hline rfl (thn (ho pins s σ H _ I h) fun v s1 ⟨x, H1, I1, r1, ty, q1⟩ => ?_)
  obtain ⟨h1, h2⟩ := tyV_is I1 r1 ty
  refine ⟨T, id, pa, slot, hty, h1, h2, ?_⟩
  have hA := ha cpos pins s1 σ H1 _ I1 q1
  rw [hs] at hA ⊢
  refine Calls.callWith_builtin (by show (false || (backTo cpos (starEach es X.env)).any (·.1)) = false; rw [hplain] <;> rfl) (Calls.evalArgs_plain ?_)
  exact thn hA fun us s2 ⟨vs, H2, I2, r2, q2⟩ => hm pins s2 σ H2 x vs v us Q I2 r1 r2 q2
end
end L2

namespace L2
open PySem PySem.Spec PyProof.Rows

def MtM (X : Cx) (id : String) (r : V → List V → Hp → VK → Prop) : Prop :=
  ∀ (pins : List (Addr × Obj)) (s : Shared) (σ : St) (H : Hp) (x : V) (xs : List V) (v : Value) (us : List Value) (Q : VK), Inv X pins σ H s → RelV x v → Vals xs us → r x xs H Q →
    wpAny (model X.prog X.w) X.A (call (.builtin id) (v :: us)) (EP X pins σ Q) X.xe s

theorem Vals.one : ∀ {x : V} {us : List Value}, Vals [x] us → ∃ u, us = [u] ∧ RelV x u
  | _, _, .cons r .nil => ⟨_, rfl, r⟩
theorem Vals.zero : ∀ {us : List Value}, Vals [] us → us = []
  | _, .nil => rfl
theorem Vals.reverse {xs : List V} {us : List Value} (h : Vals xs us) : Vals xs.reverse us.reverse := by
  induction h with
  | nil => exact .nil
  | cons r t ih => rw [List.reverse_cons, List.reverse_cons]; exact Vals.append ih (.cons r .nil)
theorem Vals.rep {xs : List V} {us : List Value} (h : Vals xs us) : ∀ k : Nat, Vals (List.replicate k xs).flatten (List.replicate k us).flatten
  | 0 => .nil
  | k + 1 => by
    rw [List.replicate_succ, List.replicate_succ, List.flatten_cons, List.flatten_cons]
    exact Vals.append h (Vals.rep h k)
theorem foldl_rep (its : List Value) : ∀ (k : Nat) (acc : List Value),
    List.foldl (fun x1 x2 => x1 ++ x2) acc.toArray (List.replicate k its.toArray) = (acc ++ (List.replicate k its).flatten).toArray
  | 0, acc => by simp
  | k + 1, acc => by
    have e : acc.toArray ++ its.toArray = (acc ++ its).toArray := by simp
    have e2 : (acc ++ its) ++ (List.replicate k its).flatten = acc ++ (List.replicate (k + 1) its).flatten := by
      rw [List.replicate_succ, List.flatten_cons, List.append_assoc]
    rw [← e2, ← foldl_rep its k (acc ++ its), ← e, List.replicate_succ, List.foldl_cons]

section
variable {X : Cx} {pins : List (Addr × Obj)} {σ : St} {H : Hp} {s : Shared} {l b : Addr} {xs ys zs : List V}

theorem Inv.lset {its its' : List Value} {n : Nat} {f : Array Value → Array Value} {t' : Nat} (I : Inv X pins σ H s) (hH : H l = some (.lst xs))
    (e : s.heap.get? l = some { cls := .type "list", data := .seq its.toArray n }) (hf : f its.toArray = its'.toArray) (hv : Vals ys its') (hz : ys.length ≤ sizeLine) :
    Inv X pins σ (upd H l (.lst ys)) { s with heap := s.heap.update l (Obj.mapSeq f), toks := t' } := by
  have q := PySem.IsL.update e f
  rw [hf] at q
  refine I.write (x := l) (e := l) (by rw [hH]; exact trivial) (.inl rfl) (fun b' u hb hu => (Heap.get?_update_other s.heap (Obj.mapSeq f) (Ne.symm hb)).trans hu) ⟨_, q⟩ ?_
  exact ⟨hz, its', _, hv, q⟩
theorem Inv.lnew {its : List Value} {t' : Nat} (I : Inv X pins σ H s) (hv : Vals ys its) (hz : ys.length ≤ sizeLine) :
    Inv X pins σ (upd H s.heap.objs.size (.lst ys)) { s with heap := s.heap.push { cls := .type "list", data := .seq its.toArray }, toks := t' } :=
  I.laid (fun _ _ q => Heap.get?_push_of_some _ q) (Nat.le_refl _) ⟨hz, its, 0, hv, Heap.get?_push_size _ rfl⟩
theorem Inv.fresh (I : Inv X pins σ H s) : H s.heap.objs.size = none := I.hok.fresh (Nat.le_refl _)
theorem Inv.lstM (I : Inv X pins σ H s) (hH : H l = some (.lst xs)) : xs.length ≤ sizeLine ∧ ∃ (its : List Value) (n : Nat), Vals xs its ∧ xs.length = its.length ∧ s.heap.get? l = some { cls := .type "list", data := .seq its.toArray n } := by
  obtain ⟨z, its, n, r, e⟩ := I.hok l _ hH
  exact ⟨z, its, n, r, r.length, e⟩

theorem notLongL {n : Nat} (h : n ≤ sizeLine) : Builtin.List.listTooLong n = false := by
  unfold Builtin.List.listTooLong
  exact decide_eq_false (by omega)
end

section
variable {X : Cx}

def rAppend : V → List V → Hp → VK → Prop := fun x vs H Q => ∃ l xs y, x = .ref l ∧ vs = [y] ∧ H l = some (.lst xs) ∧ xs.length < sizeLine ∧ Q .non (upd H l (.lst (xs ++ [y])))
theorem mt_append : MtM X "list.append" rAppend := by
  intro pins s σ H x vs v us Q I rx rv h
  obtain ⟨l, xs, y, rfl, rfl, hH, hz, q⟩ := h
  cases rx
  obtain ⟨u, rfl, ru⟩ := rv.one
  obtain ⟨z, its, n, r, hl, e⟩ := I.lstM hH
  refine call_meets F.slot_list_append ⟨_, e, rfl⟩ F.entry_list_append (F.args_list_append_2 _ _) (PySem.list_append l its.toArray n u (by rw [List.size_toArray]; omega)) ⟨e, ?_⟩
  refine ⟨.non, _, I.lset (its' := its ++ [u]) hH e (by simp) (r.append (.cons ru .nil)) ?_, rfl, q⟩
  rw [List.length_append, List.length_singleton]
  omega

def rCat : R2 := fun x y H Q => ∃ l b xs zs, x = .ref l ∧ y = .ref b ∧ H l = some (.lst xs) ∧ H b = some (.lst zs) ∧ xs.length + zs.length ≤ sizeLine ∧ ∀ p, H p = none → Q (.ref p) (upd H p (.lst (xs ++ zs)))
theorem op_cat : OpR X (binaryOp .Add) rCat := by
  intro pins s σ H x y v u Q I rx ry h
  obtain ⟨l, b, xs, zs, rfl, rfl, hH, hB, hz, q⟩ := h
  cases rx
  cases ry
  obtain ⟨z, its, n, r, hl, e⟩ := I.lstM hH
  obtain ⟨z2, its2, n2, r2, hl2, e2⟩ := I.lstM hB
  refine PySem.P.add_list e e2 ?_ (by rw [List.size_toArray, List.size_toArray]; omega)
  have ea : its.toArray ++ its2.toArray = (its ++ its2).toArray := by simp
  rw [ea]
  exact ⟨.ref _, _, I.lnew (t' := s.toks) (r.append r2) (by rw [List.length_append]; omega), rfl, q _ I.fresh⟩
def rRep : R2 := fun x y H Q => ∃ l k xs, x = .ref l ∧ y = .int k ∧ H l = some (.lst xs) ∧ -(2 ^ 63) ≤ k ∧ k < 2 ^ 63 ∧ xs.length * k.toNat ≤ sizeLine ∧
  ∀ p, H p = none → Q (.ref p) (upd H p (.lst (List.replicate k.toNat xs).flatten))
theorem len_rep {α : Type} (xs : List α) (k : Nat) : (List.replicate k xs).flatten.length = k * xs.length := by
  induction k with
  | zero => simp
  | succ k ih => rw [List.replicate_succ, List.flatten_cons, List.length_append, ih, Nat.succ_mul, Nat.add_comm]
theorem op_rep : OpR X (binaryOp .Mult) rRep := by
  intro pins s σ H x y v u Q I rx ry h
  obtain ⟨l, k, xs, rfl, rfl, hH, h1, h2, hz, q⟩ := h
  cases rx
  obtain ⟨t, rfl⟩ := ry
  obtain ⟨z, its, n, r, hl, e⟩ := I.lstM hH
  have hlen : its.toArray.size * k.toNat ≤ sizeLine := by rw [List.size_toArray, ← hl]; exact hz
  have hcap : ¬ its.toArray.size * k.toNat > (2 ^ 63 - 1) / 8 := by
    have : (sizeLine : Nat) ≤ (2 ^ 63 - 1) / 8 := by decide
    omega
  have hfit : ¬ (!Builtin.List.listFitsIndex k) = true := by
    rw [fitsIndex_both h1 h2]
    exact Bool.false_ne_true
  have hlong : ¬ Builtin.List.listTooLong (its.toArray.size * k.toNat) = true := by
    rw [notLongL hlen]
    exact Bool.false_ne_true
  have hnew : List.foldl (fun x1 x2 => x1 ++ x2) #[] (List.replicate (if its.toArray.isEmpty = true then 0 else k.toNat) its.toArray) = (List.replicate k.toNat its).flatten.toArray := by
    have f0 : ∀ m : Nat, List.foldl (fun x1 x2 => x1 ++ x2) #[] (List.replicate m its.toArray) = (List.replicate m its).flatten.toArray := fun m => by
      have := foldl_rep its m []
      rw [List.nil_append] at this
      exact this
    rw [f0]
    cases its with
    | nil => simp
    | cons a r' => rw [if_neg (by simp)]
  refine wpAny_binaryOp_repeat_ref (T := "list") (U := "int") (by decide) ⟨_, e, rfl⟩ (fun s' => typeIs_int s' k t) noFill_list_mul F.fills_int_mul F.slot_int_rmul repeat_list F.slot_int_index.lookup
    (call_meets F.slot_int_rmul (typeIs_int s k t) F.entry_int_rmul (F.args_int_rmul_2 _ _) (int___rmul___int_list k t l its.toArray n)
      ⟨e, rfl, ⟨_, e, rfl⟩, call_meets F.slot_list_mul ⟨_, e, rfl⟩ F.entry_list_mul (F.args_list_mul_2 _ _) (AutoListH.list___mul___list_int_3 l its.toArray n k t hfit hcap hlong) ⟨e, ?_⟩⟩)
  rw [hnew]
  exact ⟨.ref _, _, I.lnew (t' := s.toks) (r.rep k.toNat) (by rw [len_rep, Nat.mul_comm]; exact hz), rfl, q _ I.fresh⟩

end

section
variable {prog : Program} {w : World} {A : Around} {E : Value → Shared → Prop} {s : Shared}
end

section
variable {X : Cx}
end
end L2

namespace L2
open PySem PySem.Spec PyProof.Rows

theorem Vals.ints : ∀ {ns : List Int} {us : List Value}, Vals (ns.map V.int) us → IntsAre us ns
  | [], us, h => by
    rw [List.map_nil] at h
    cases h
    exact IntsAre.nil
  | n :: ns, us, h => by
    rw [List.map_cons] at h
    cases h with
    | cons r t =>
      obtain ⟨k, rfl⟩ := r
      exact IntsAre.cons n k (Vals.ints t)
theorem vals_of_ints : ∀ {us : List Value} {ns : List Int}, IntsAre us ns → Vals (ns.map V.int) us
  | _, _, .nil => by rw [List.map_nil]; exact Paired.nil
  | _, _, .cons n t h => by rw [List.map_cons]; exact Paired.cons (show RelV (V.int n) (Value.int n t) from ⟨t, rfl⟩) (vals_of_ints h)
theorem Vals.strs : ∀ {xs : List Str} {us : List Value}, Vals (xs.map V.str) us → StrsAre us xs
  | [], us, h => by
    rw [List.map_nil] at h
    cases h
    exact StrsAre.nil
  | x :: xs, us, h => by
    rw [List.map_cons] at h
    cases h with
    | cons r t =>
      obtain ⟨k, rfl⟩ := r
      exact StrsAre.cons x k (Vals.strs t)
theorem Vals.bls : ∀ {bs : List Bool} {us : List Value}, Vals (bs.map V.bl) us → us = bs.map Value.bool
  | [], us, h => by
    rw [List.map_nil] at h
    cases h
    rfl
  | b :: bs, us, h => by
    rw [List.map_cons] at h
    cases h with
    | cons r t =>
      cases r
      rw [Vals.bls t, List.map_cons]
theorem Vals.ref1 {a : Addr} {us : List Value} (r : Vals [V.ref a] us) : us = [Value.ref a] := by
  cases r with
  | cons r t =>
    cases t
    cases r
    rfl
section
variable {prog : Program} {w : World} {A : Around} {E : Value → Shared → Prop} {s : Shared} {l : Addr} {its : List Value} {ns : List Int} {Q : Value → Shared → Prop}
theorem sum_raw (hh : A.handled = none) (hl : s.heap.IsList l its.toArray) (hi : IntsAre its ns)
    (h : ∀ h' tk t', (∀ b o, s.heap.get? b = some o → h'.get? b = some o) → Q (.int ns.sum t') { s with heap := h', toks := tk }) : wpAny (model prog w) A (call (.builtin "sum") [.ref l]) Q E s := by
  obtain ⟨xs, e⟩ := hi.allInts.items
  have hn : numsOf (intItems xs).toList = ns := by rw [← e]; exact hi.numsOf
  rw [nums_intItems] at hn
  rw [e] at hl
  refine PySem.sum_intListG hh hl fun h' tk t' hk => ?_
  have := h h' tk t' hk
  rw [preSum_eq, List.take_of_length_le (by simp), hn]; exact this
end

section
variable {X : Cx}
def rSum (K : PySem.W.Frag) : List V → Hp → VK → Prop := fun vs H Q => ∃ (a : Addr) (ns : List Int), vs = [V.ref a] ∧ SqL K H a (ns.map V.int) ∧ Q (.int ns.sum) H
theorem cr_sum (hc : X.calm = true) : CallR X (.builtin "sum") (rSum X.K) := by
  intro pins s σ H vs us Q I r h
  obtain ⟨a, ns, rfl, hs, q⟩ := h
  obtain ⟨its, rv, hl, _⟩ := I.list hs
  rw [Vals.ref1 r]
  exact sum_raw (I.ok.hd hc) hl.isList rv.ints fun h' tk t' hk => ⟨.int _, H, I.kept hk, ⟨_, rfl⟩, q⟩
def rSorted (K : PySem.W.Frag) : List V → Hp → VK → Prop := fun vs H Q => ∃ (a : Addr) (ns : List Int), vs = [V.ref a] ∧ SqL K H a (ns.map V.int) ∧ ns.length < 64 ∧
  ∀ (ns' : List Int) (p : Addr), ns'.Perm ns → ns'.Pairwise (· ≤ ·) → H p = none → Q (.ref p) (upd H p (.lst (ns'.map V.int)))
theorem small64 {n : Nat} (h : n < 64) : n ≤ sizeLine := by rw [sizeLine_eq]; omega
theorem cr_sorted : CallR X (.builtin "sorted") (rSorted X.K) := by
  intro pins s σ H vs us Q I r h
  obtain ⟨a, ns, rfl, hs, h64, q⟩ := h
  obtain ⟨its, rv, hl, _⟩ := I.list hs
  rw [Vals.ref1 r]
  have hi := rv.ints
  refine PyProof.Rows.sorted_ints hl.isList hi (by rw [hi.length]; exact h64) fun out ns' h1 h2 h3 => ?_
  obtain ⟨ep, he'⟩ := PyProof.Rows.sortedAll_at s.heap its out
  have hlen : (ns'.map V.int).length ≤ sizeLine := by rw [List.length_map, h2.length_eq]; exact small64 h64
  exact ⟨.ref _, upd H (s.heap.objs.size + 1) (.lst (ns'.map V.int)), I.laid (t' := s.toks) (fun _ _ => PyProof.Rows.sortedAll_old) (Nat.le_succ _) ⟨hlen, out.toList, ep, vals_of_ints h1, he'⟩, rfl, q ns' _ h2 h3 (I.hok.fresh (Nat.le_succ _))⟩
end

section
variable {X : Cx}
end

section
variable {X : Cx}
end

theorem iter_any {prog : Program} {w : World} {A : Around} {E : Value → Shared → Prop} {s : Shared} {l : Addr} {items : Array Value} {Q : Value → Shared → Prop} (hl : s.heap.IsList l items)
    (h : ∀ s₂ : Shared, s₂ = { s with heap := s.heap.push { cls := .type "list_iterator", data := .fields #[.ref l, .int 0 0] } } →
      (s₂.heap.IsListIter s.heap.objs.size l 0 ∧ s₂.heap.IsList l items) → l ≠ s.heap.objs.size → Q (.ref s.heap.objs.size) s₂) : wpAny (model prog w) A (pyIter (.ref l)) Q E s := by
  have hlt : l < s.heap.objs.size := by obtain ⟨_, e, _⟩ := hl; exact Heap.lt_size e
  exact wpAny_pyIter_list hl (h _ rfl ⟨⟨_, Heap.get?_push_size _ rfl, rfl, rfl⟩, hl.push _⟩ (Nat.ne_of_lt hlt))
theorem truth_bools {prog : Program} {w : World} {A : Around} {bs : List Bool} {its : List Value} (e : its = bs.map Value.bool) :
    TruthOf prog w A (fun i v => its.toArray[i]? = some v) (fun i => bs.getD i false) := fun i v s Q E hv hq => by
  have hv' : its[i]? = some v := by simpa using hv
  rw [e, List.getElem?_map] at hv'
  obtain ⟨b, hb, rfl⟩ := Option.map_eq_some_iff.mp hv'
  have hg : bs.getD i false = b := by rw [List.getD_eq_getElem?_getD, hb] <;> rfl
  have hq' : Q (bs.getD i false) s := hq
  rw [hg] at hq'
  exact wpAny_truthy_bool hq'
theorem any_range : ∀ bs : List Bool, (List.range bs.length).any (fun i => bs.getD i false) = bs.any id
  | [] => rfl
  | b :: bs => by
    rw [List.length_cons, List.range_succ_eq_map, List.any_cons, List.any_map, List.any_cons, ← any_range bs]
    all_goals rfl
section
variable {X : Cx}
def rAny (K : PySem.W.Frag) : List V → Hp → VK → Prop := fun vs H Q => ∃ (a : Addr) (bs : List Bool), vs = [V.ref a] ∧ SqL K H a (bs.map V.bl) ∧ Q (.bl (bs.any id)) H
theorem cr_any (hc : X.calm = true) : CallR X (.builtin "any") (rAny X.K) := by
  intro pins s σ H vs us Q I r h
  obtain ⟨a, bs, rfl, hs, q⟩ := h
  obtain ⟨its, rv, hl, _⟩ := I.list hs
  rw [Vals.ref1 r]
  have hb := rv.bls
  refine call_any_walk (iter_any hl.isList fun s₂ e2 st hne => ?_)
  subst e2
  refine ⟨_, _, _, _, _, _, _, rfl, Walks.list (A := X.A.in1) (I.ok.hd hc) _ a hne its.toArray, st, truth_bools hb, fun h' tk hk => ?_⟩
  refine ⟨.bl _, H, I.kept fun b o eo => hk b o (fun hmem => ?_) (Heap.get?_push_of_some _ eo), ?_, q⟩
  · rcases List.mem_cons.mp hmem with e1 | hmem
    · exact absurd (e1 ▸ Heap.lt_size eo) (Nat.lt_irrefl _)
    · cases hmem
  · show Value.bool _ = Value.bool _
    rw [← any_range, hb, List.size_toArray, List.length_map]
end

mutual
inductive Dp (K : PySem.W.Frag) (H : Hp) : V → PyData → Prop
  | non : Dp K H .non .none
  | bl (b : Bool) : Dp K H (.bl b) (.bool b)
  | int (i : Int) : Dp K H (.int i) (.int i)
  | str (x : Str) : Dp K H (.str x) (.str x)
  | lst {a : Addr} {xs : List V} {ds : List PyData} : SqL K H a xs → DpAll K H xs ds → Dp K H (.ref a) (.list ds)
  | tup {a : Addr} {xs : List V} {ds : List PyData} : SqT K H a xs → DpAll K H xs ds → Dp K H (.ref a) (.tuple ds)
inductive DpAll (K : PySem.W.Frag) (H : Hp) : List V → List PyData → Prop
  | nil : DpAll K H [] []
  | cons {v : V} {vs : List V} {d : PyData} {ds : List PyData} : Dp K H v d → DpAll K H vs ds → DpAll K H (v :: vs) (d :: ds)
end
section
variable {X : Cx} {pins : List (Addr × Obj)} {σ : St} {H : Hp} {s : Shared}
mutual
theorem Dp.reads (I : Inv X pins σ H s) : ∀ (d : PyData) (v : V) (u : Value), Dp X.K H v d → RelV v u → ∃ as, Reads s.heap u d as
  | .none, _, _, h, r => by
    cases h
    cases r
    exact ⟨_, Reads.none⟩
  | .bool b, _, _, h, r => by
    cases h
    cases r
    exact ⟨_, Reads.bool b⟩
  | .int i, _, _, h, r => by
    cases h
    obtain ⟨t, rfl⟩ := r
    exact ⟨_, Reads.int i t⟩
  | .str x, _, _, h, r => by
    cases h
    obtain ⟨t, rfl⟩ := r
    exact ⟨_, Reads.str x t⟩
  | .list ds, _, _, h, r => by
    cases h with
    | lst hs ha =>
      cases r
      obtain ⟨its, rv, ⟨o, n, ho, hc, _, hd⟩, _⟩ := I.list hs
      obtain ⟨as, hr⟩ := Dp.readsAll I ds _ its ha rv
      exact ⟨_, Reads.list ho hc hd hr⟩
  | .tuple ds, _, _, h, r => by
    cases h with
    | tup hs ha =>
      cases r
      obtain ⟨its, rv, ⟨o, ho, hc, n, hd⟩, _⟩ := I.tuple hs
      obtain ⟨as, hr⟩ := Dp.readsAll I ds _ its ha rv
      exact ⟨_, Reads.tuple ho hc hd hr⟩
  | .dict _, _, _, h, _ => by cases h
theorem Dp.readsAll (I : Inv X pins σ H s) : ∀ (ds : List PyData) (vs : List V) (us : List Value), DpAll X.K H vs ds → Vals vs us → ∃ as, ReadsAll s.heap us ds as
  | [], _, _, h, r => by
    cases h
    cases r
    exact ⟨_, ReadsAll.nil⟩
  | d :: ds, _, _, h, r => by
    cases h with
    | cons h1 h2 =>
      cases r with
      | cons r1 r2 =>
        obtain ⟨as, q1⟩ := Dp.reads I d _ _ h1 r1
        obtain ⟨bs, q2⟩ := Dp.readsAll I ds _ _ h2 r2
        exact ⟨_, ReadsAll.cons q1 q2⟩
end
end
section
variable {X : Cx}
def rEqD (K : PySem.W.Frag) : R2 := fun x y H Q => ∃ d e, Dp K H x d ∧ Dp K H y e ∧ SeqAt.shaped d = true ∧ SeqAt.shaped e = true ∧ Q (.bl (PyData.eqv d e)) H
def rNeD (K : PySem.W.Frag) : R2 := fun x y H Q => ∃ d e, Dp K H x d ∧ Dp K H y e ∧ SeqAt.shaped d = true ∧ SeqAt.shaped e = true ∧ Q (.bl (!PyData.eqv d e)) H
theorem op_eqD (hu : X.A.units + 64 < cLine) : OpR X (compareOp .Eq) (rEqD X.K) := by
  intro pins s σ H x y v u Q I rx ry h
  obtain ⟨d, e, hd, he, sd, se, q⟩ := h
  obtain ⟨as, r1⟩ := Dp.reads I d x v hd rx
  obtain ⟨bs, r2⟩ := Dp.reads I e y u he ry
  exact SeqAt.compareEq_shaped r1 r2 sd se hu ⟨.bl _, H, I, rfl, q⟩
theorem op_neD (hu : X.A.units + 64 < cLine) : OpR X (compareOp .NotEq) (rNeD X.K) := by
  intro pins s σ H x y v u Q I rx ry h
  obtain ⟨d, e, hd, he, sd, se, q⟩ := h
  obtain ⟨as, r1⟩ := Dp.reads I d x v hd rx
  obtain ⟨bs, r2⟩ := Dp.reads I e y u he ry
  exact SeqAt.compareNe_shaped r1 r2 sd se hu ⟨.bl _, H, I, rfl, q⟩
end
end L2

namespace L2
open PySem PySem.Spec PyProof.Rows
abbrev CellAt (h : Heap) (c : Addr) (v : Option Value) : Prop := h.IsCell c v
def relS (scope sc : Scope) : Scope :=
  { scope with names := scope.names.map fun (n, k) => if (k == .free && sc.kind == .function && sc.names.lookup n == some .cell) then (n, .cell) else (n, k) }

def cloFrom (cells : List (Str × Addr)) : List (Str × NameKind) → List (Str × Addr) → List (Str × Addr)
  | [], acc => acc
  | (n, k) :: r, acc => if k == .free then cloFrom cells r ((n, (cells.lookup n).getD 0) :: acc) else cloFrom cells r acc

theorem closure_loop (env : Env) (f : Str × NameKind → List (Str × Addr) → Sem (ForInStep (List (Str × Addr))))
    (hf : ∀ n k c, f (n, k) c = if k == .free then (do let a ← cellOf env n; pure (.yield ((n, a) :: c))) else pure (.yield c)) :
    ∀ (names : List (Str × NameKind)) (acc : List (Str × Addr)), (∀ y ∈ names, y.2 = .free → ∃ c, env.cells.lookup y.1 = some c) → forIn names acc f = pure (cloFrom env.cells names acc)
  | [], acc, _ => by rw [List.forIn_nil]; rfl
  | (n, k) :: r, acc, h => by
    rw [List.forIn_cons, hf]
    have ih := fun acc => closure_loop env f hf r acc fun y hy => h y (List.mem_cons_of_mem _ hy)
    unfold cloFrom
    by_cases hk : (k == NameKind.free) = true
    · rw [if_pos hk, if_pos hk]
      obtain ⟨c, hc⟩ := h (n, k) List.mem_cons_self (by simpa using hk)
      have e : cellOf env n = pure c := by unfold cellOf; rw [hc]
      rw [e]
      have e2 : (env.cells.lookup n).getD 0 = c := by rw [hc]; rfl
      rw [e2]
      exact ih _
    · rw [if_neg hk, if_neg hk]
      exact ih _
theorem closure_ok {scope : Scope} {env : Env} (h : ∀ y ∈ scope.names, y.2 = .free → ∃ c, env.cells.lookup y.1 = some c) : closureFor scope env = pure (cloFrom env.cells scope.names []) := by
  simp only [closureFor]
  rw [closure_loop env _ (fun n k c => rfl) scope.names [] h]
  rfl

theorem mem_lookup {α : Type} : ∀ {l : List (Str × α)} {n : Str} {c : α}, (n, c) ∈ l → ∃ c', l.lookup n = some c'
  | (k, v) :: r, n, c, h => by
    rw [List.lookup_cons]
    cases hb : n == k with
    | true => exact ⟨_, rfl⟩
    | false =>
      rcases List.mem_cons.mp h with e | h
      · cases e; simp at hb
      · exact mem_lookup h

theorem cloFrom_mem {cells : List (Str × Addr)} : ∀ {names : List (Str × NameKind)} {acc : List (Str × Addr)} {n : Str} {c : Addr}, (n, c) ∈ cloFrom cells names acc → (n, c) ∈ acc ∨ ((n, .free) ∈ names ∧ c = (cells.lookup n).getD 0)
  | [], _, _, _, h => .inl h
  | (m, k) :: r, acc, n, c, h => by
    unfold cloFrom at h
    split at h
    · rename_i hk
      have hk : k = .free := by simpa using hk
      rcases cloFrom_mem h with h | ⟨h1, h2⟩
      · rcases List.mem_cons.mp h with e | h
        · cases e; exact .inr ⟨hk ▸ List.mem_cons_self, rfl⟩
        · exact .inl h
      · exact .inr ⟨List.mem_cons_of_mem _ h1, h2⟩
    · rcases cloFrom_mem h with h | ⟨h1, h2⟩
      · exact .inl h
      · exact .inr ⟨List.mem_cons_of_mem _ h1, h2⟩
theorem cloFrom_acc {cells : List (Str × Addr)} : ∀ {names : List (Str × NameKind)} {acc : List (Str × Addr)} {p : Str × Addr}, p ∈ acc → p ∈ cloFrom cells names acc
  | [], _, _, h => h
  | (m, k) :: r, acc, p, h => by
    unfold cloFrom
    split
    · exact cloFrom_acc (List.mem_cons_of_mem _ h)
    · exact cloFrom_acc h
theorem cloFrom_has {cells : List (Str × Addr)} : ∀ {names : List (Str × NameKind)} {acc : List (Str × Addr)} {n : Str}, (n, .free) ∈ names → (n, (cells.lookup n).getD 0) ∈ cloFrom cells names acc
  | (m, k) :: r, acc, n, h => by
    unfold cloFrom
    rcases List.mem_cons.mp h with e | h
    · cases e
      exact cloFrom_acc List.mem_cons_self
    · split
      · exact cloFrom_has h
      · exact cloFrom_has h

theorem cells_mem : ∀ {names : List (Str × NameKind)} {h : Heap} {acc : List (Str × Addr)} {x : Str} {c : Addr}, (x, c) ∈ cellsFrom h.objs.size names acc →
    (x, c) ∈ acc ∨ ((x, .cell) ∈ names ∧ h.objs.size ≤ c ∧ CellAt (pushCells h names) c none)
  | [], _, _, _, _, h => .inl h
  | (n, k) :: r, h, acc, x, c, hm => by
    unfold cellsFrom at hm
    unfold pushCells
    split at hm
    · rename_i hk
      rw [if_pos hk]
      have hk : k = .cell := by simpa using hk
      rw [← Heap.size_push h { cls := .type "cell", data := .cell none }] at hm
      rcases cells_mem hm with hm | ⟨h1, h2, h3⟩
      · rcases List.mem_cons.mp hm with e | hm
        · cases e
          exact .inr ⟨hk ▸ List.mem_cons_self, Nat.le_refl _, _, pushCells_keeps r _ _ _ (Heap.get?_push_size _ rfl), rfl⟩
        · exact .inl hm
      · rw [Heap.size_push] at h2
        exact .inr ⟨List.mem_cons_of_mem _ h1, Nat.le_of_succ_le h2, h3⟩
    · rename_i hk
      rw [if_neg hk]
      rcases cells_mem hm with hm | ⟨h1, h2, h3⟩
      · exact .inl hm
      · exact .inr ⟨List.mem_cons_of_mem _ h1, h2, h3⟩
theorem cells_acc : ∀ {names : List (Str × NameKind)} {n : Nat} {acc : List (Str × Addr)} {p : Str × Addr}, p ∈ acc → p ∈ cellsFrom n names acc
  | [], _, _, _, h => h
  | (m, k) :: r, n, acc, p, h => by
    unfold cellsFrom
    split
    · exact cells_acc (List.mem_cons_of_mem _ h)
    · exact cells_acc h
theorem cells_has : ∀ {names : List (Str × NameKind)} {n : Nat} {acc : List (Str × Addr)} {x : Str}, (x, .cell) ∈ names → ∃ c, (x, c) ∈ cellsFrom n names acc
  | (m, k) :: r, n, acc, x, h => by
    unfold cellsFrom
    rcases List.mem_cons.mp h with e | h
    · cases e
      exact ⟨n, cells_acc List.mem_cons_self⟩
    · split
      · exact cells_has h
      · exact cells_has h
theorem cells_inj : ∀ {names : List (Str × NameKind)} {h : Heap} {acc : List (Str × Addr)} {x y : Str} {c : Addr}, (∀ p ∈ acc, p.2 < h.objs.size) → (∀ x y c, (x, c) ∈ acc → (y, c) ∈ acc → x = y) →
    (x, c) ∈ cellsFrom h.objs.size names acc → (y, c) ∈ cellsFrom h.objs.size names acc → x = y
  | [], _, _, _, _, _, _, hi, h1, h2 => hi _ _ _ h1 h2
  | (n, k) :: r, h, acc, x, y, c, hl, hi, h1, h2 => by
    unfold cellsFrom at h1 h2
    split at h1
    · rename_i hk
      rw [if_pos hk] at h2
      rw [← Heap.size_push h { cls := .type "cell", data := .cell none }] at h1 h2
      refine cells_inj (h := h.push _) (fun p hp => ?_) (fun x y c a b => ?_) h1 h2
      · rw [Heap.size_push]
        rcases List.mem_cons.mp hp with rfl | hp
        · exact Nat.lt_succ_self _
        · exact Nat.lt_succ_of_lt (hl p hp)
      · rcases List.mem_cons.mp a with e | a <;> rcases List.mem_cons.mp b with e' | b
        · cases e; cases e'; rfl
        · cases e; exact absurd (hl _ b) (Nat.lt_irrefl _)
        · cases e'; exact absurd (hl _ a) (Nat.lt_irrefl _)
        · exact hi _ _ _ a b
    · rename_i hk
      rw [if_neg hk] at h2
      exact cells_inj hl hi h1 h2

theorem newEnv_comp {M : Model} {A : Around} {E : Value → Shared → Prop} {s : Shared} {scope : Scope} {globals : Addr} {closure : List (Str × Addr)} {qual : Str} {func : Option Addr} {code : Value} {around : Env} {builtins : Addr} {Q : Env → Shared → Prop}
    (h : Q (newEnv scope s.heap.objs.size globals (cellsFrom (s.heap.objs.size + 1) scope.names closure) qual func code (some around) builtins)
      { s with heap := pushCells (s.heap.push { cls := .type "dict", data := .dict #[] }) scope.names }) :
    wpAny M A (newFunctionEnv scope globals closure [] qual func code (some around) builtins) Q E s := by
  simp only [newFunctionEnv, Option.isSome_some, if_true]
  refine wpAny_bind (wpAny_alloc ?_)
  refine wpAny_bind (wpAny_layCells _ (fun n k c => rfl) scope.names closure _ _ ?_)
  rw [show ({ s with heap := s.heap.push { cls := .type "dict", data := .dict #[] } } : Shared).heap.objs.size = s.heap.objs.size + 1 from Heap.size_push ..]
  rw [List.forIn_nil]
  exact wpAny_bind (wpAny_pure (wpAny_pure h))

theorem lookup_relS {sc : Scope} : ∀ {names : List (Str × NameKind)} {x : Str} {k : NameKind},
    (names.map fun (n, k) => if (k == NameKind.free && sc.kind == .function && sc.names.lookup n == some .cell) then (n, NameKind.cell) else (n, k)).lookup x = some k →
    ∃ k', names.lookup x = some k' ∧ (k = k' ∨ (k' = .free ∧ k = .cell))
  | [], _, _, h => by simp at h
  | (n, k₀) :: r, x, k, h => by
    have ih := @lookup_relS sc r x k
    have h' : List.lookup x ((if (k₀ == NameKind.free && sc.kind == .function && sc.names.lookup n == some .cell) = true then (n, NameKind.cell) else (n, k₀)) :: (r.map _)) = some k := h
    cases hx : x == n with
    | true =>
      simp only [List.lookup_cons, hx]
      by_cases hc : (k₀ == NameKind.free && sc.kind == .function && sc.names.lookup n == some .cell) = true
      · rw [if_pos hc] at h'
        simp only [List.lookup_cons, hx] at h'
        cases h'
        simp only [Bool.and_eq_true, beq_iff_eq] at hc
        exact ⟨k₀, rfl, .inr ⟨hc.1.1, rfl⟩⟩
      · rw [if_neg hc] at h'
        simp only [List.lookup_cons, hx] at h'
        cases h'
        exact ⟨_, rfl, .inl rfl⟩
    | false =>
      simp only [List.lookup_cons, hx]
      by_cases hc : (k₀ == NameKind.free && sc.kind == .function && sc.names.lookup n == some .cell) = true
      · rw [if_pos hc] at h'
        simp only [List.lookup_cons, hx] at h'
        exact ih h'
      · rw [if_neg hc] at h'
        simp only [List.lookup_cons, hx] at h'
        exact ih h'
structure BlkOk (N : List Str) (sc scope : Scope) (own : List (Str × Nat)) : Prop where
  kind : scope.kind = .function
  uniq : ∀ y ∈ scope.names, scope.names.lookup y.1 = some y.2
  ix : ∀ p ∈ own, N[p.2]? = some p.1
  free : ∀ y ∈ scope.names, y.2 = .free → sc.names.lookup y.1 = some .cell ∨ sc.names.lookup y.1 = some .free
  own : ∀ y ∈ scope.names, y.2 = .local ∨ y.2 = .cell → y.1 ∈ own.map (·.1) ∨ y.1 ∉ N
def wipe (σ : St) : List Nat → St
  | [] => σ
  | v :: vs => (wipe σ vs).set v none
theorem wipe_length (σ : St) : ∀ vs : List Nat, (wipe σ vs).length = σ.length
  | [] => rfl
  | v :: vs => by unfold wipe; rw [List.length_set, wipe_length σ vs]
theorem wipe_some {σ : St} {i : Nat} {x : V} : ∀ {vs : List Nat}, (wipe σ vs)[i]? = some (some x) → σ[i]? = some (some x) ∧ i ∉ vs
  | [], h => ⟨h, by simp⟩
  | v :: vs, h => by
    unfold wipe at h
    by_cases hi : v = i
    · subst hi
      by_cases hv : v < (wipe σ vs).length
      · rw [List.getElem?_set_self hv] at h; cases h
      · rw [List.getElem?_eq_none (by simpa using hv)] at h; cases h
    · rw [List.getElem?_set_ne hi] at h
      obtain ⟨h1, h2⟩ := wipe_some h
      exact ⟨h1, by simp only [List.mem_cons, not_or]; exact ⟨fun e => hi e.symm, h2⟩⟩

abbrev Cx.blk (X : Cx) (s : Shared) (H : Hp) (scope : Scope) (cenv : Env) (fp : List Addr) : Cx := { X with s_0 := s, H_0 := H, env := cenv, outer := X.stack, ex := fp, fn := fun x => scope.names.lookup x == some .cell, pn := [], xe := fun _ _ => False }
section
variable {X : Cx} {pins : List (Addr × Obj)} {σ : St} {H : Hp} {s : Shared}
theorem block_start {scope : Scope} {own : List (Str × Nat)} {fp : List Addr} (I : Inv X pins σ H s) (ok : BlkOk X.N X.env.scope scope own) (hN : X.N.Nodup) (hfp : ∀ b ∈ fp, FpOk X pins H b ∧ b < s.heap.objs.size) :
    Inv (X.blk s H scope (compEnvC scope (cellsFrom (s.heap.objs.size + 1) scope.names (cloFrom X.env.cells scope.names [])) s.heap.objs.size X.env) fp) [] (wipe σ (own.map (·.2))) H { s with heap := pushCells (s.heap.push { cls := .type "dict", data := .dict #[] }) scope.names } := by
  have hfree : ∀ y ∈ scope.names, y.2 = .free → ∃ c, X.env.cells.lookup y.1 = some c := fun y hy e => by
    rcases ok.free y hy e with k | k
    · exact I.ok.has _ (.inl k)
    · exact I.ok.has _ (.inr k)
  generalize hcenv : compEnvC scope (cellsFrom (s.heap.objs.size + 1) scope.names (cloFrom X.env.cells scope.names [])) s.heap.objs.size X.env = cenv
  have kp : ∀ b o, s.heap.get? b = some o → (pushCells (s.heap.push { cls := .type "dict", data := .dict #[] }) scope.names).get? b = some o := fun b o e => pushCells_keeps _ _ _ _ (Heap.get?_push_of_some _ e)
  have hL : cenv.locals = s.heap.objs.size := by rw [← hcenv]; rfl
  have hcl : cenv.cells = cellsFrom (s.heap.objs.size + 1) scope.names (cloFrom X.env.cells scope.names []) := by rw [← hcenv]; rfl
  have hsc : cenv.scope = relS scope X.env.scope := by rw [← hcenv]; rfl
  rw [← Heap.size_push s.heap { cls := .type "dict", data := .dict #[] }] at hcl
  have cm : ∀ {y c}, (y, c) ∈ cloFrom X.env.cells scope.names [] → X.env.cells.lookup y = some c ∧ c < s.heap.objs.size := fun {y c} hm => by
    rcases cloFrom_mem hm with hm | ⟨h1, rfl⟩
    · cases hm
    · obtain ⟨c, hc⟩ := hfree _ h1 rfl
      rw [hc]
      obtain ⟨w, z⟩ := I.cell _ _ hc
      exact ⟨rfl, z.lt⟩
  have mem : ∀ {y c}, cenv.cells.lookup y = some c → (X.env.cells.lookup y = some c ∧ c < s.heap.objs.size) ∨ (s.heap.objs.size + 1 ≤ c ∧ CellAt (pushCells (s.heap.push { cls := .type "dict", data := .dict #[] }) scope.names) c none) := fun {y c} e => by
    rw [hcl] at e
    rcases cells_mem (PySem.mem_of_lookup e) with hm | ⟨_, h2, h3⟩
    · exact .inl (cm hm)
    · rw [Heap.size_push] at h2; exact .inr ⟨h2, h3⟩
  have look : ∀ {y}, scope.names.lookup y = some .free → ∃ c, cenv.cells.lookup y = some c ∧ X.env.cells.lookup y = some c := fun {y} hl => by
    have hy : (y, NameKind.free) ∈ scope.names := PySem.mem_of_lookup hl
    obtain ⟨c', e'⟩ := mem_lookup (cells_acc (names := scope.names) (n := (s.heap.push { cls := .type "dict", data := .dict #[] }).objs.size) (cloFrom_has (cells := X.env.cells) (acc := []) hy))
    rw [← hcl] at e'
    refine ⟨c', e', ?_⟩
    rw [hcl] at e'
    rcases cells_mem (PySem.mem_of_lookup e') with hm | ⟨h1, _, _⟩
    · exact (cm hm).1
    · have := ok.uniq _ h1
      rw [hl] at this; cases this
  have okB : (X.blk s H scope cenv fp).Ok := by
    refine ⟨I.ok.mod, by show cenv.scope.kind = _; rw [hsc]; exact ok.kind, by show cenv.globals = _; rw [← hcenv]; exact I.ok.glob, by show cenv.builtins = _; rw [← hcenv]; exact I.ok.blt, by show s.heap.objs.size ≤ cenv.locals; rw [hL]; exact Nat.le_refl _,
      fun y z c e1 e2 => ?_, fun y hy => ?_, fun y c z e => ?_, I.ok.hd, I.ok.frames, .inl rfl, fun b hb => ⟨?_, fun y c e z => ?_⟩, I.bs, Nat.le_trans I.ok.bsz I.sz, fun b o e hb => ?_, fun b hb z => ?_, I.stack, I.stkFree⟩
    · have e1 : cenv.cells.lookup y = some c := e1
      have e2 : cenv.cells.lookup z = some c := e2
      rw [hcl] at e1 e2
      refine cells_inj (fun p hp => ?_) (fun y z c a b => I.ok.inj y z c (cm a).1 (cm b).1) (PySem.mem_of_lookup e1) (PySem.mem_of_lookup e2)
      rw [Heap.size_push]
      exact Nat.lt_succ_of_lt (cm (y := p.1) (c := p.2) hp).2
    · show ∃ c, cenv.cells.lookup y = some c
      have key : ∀ k, cenv.kindOf y = some k → (k = .cell ∨ k = .free) → ∃ c, cenv.cells.lookup y = some c := fun k hk hk' => by
        unfold Env.kindOf at hk
        rw [hsc] at hk
        obtain ⟨k', e, r⟩ := lookup_relS hk
        have : k' = .cell ∨ k' = .free := by
          rcases r with rfl | ⟨rfl, _⟩
          · exact hk'
          · exact .inr rfl
        rcases this with rfl | rfl
        · obtain ⟨c, hm⟩ := cells_has (n := (s.heap.push { cls := .type "dict", data := .dict #[] }).objs.size) (acc := cloFrom X.env.cells scope.names []) (PySem.mem_of_lookup e)
          obtain ⟨c', e'⟩ := mem_lookup hm
          exact ⟨c', by rw [hcl]; exact e'⟩
        · obtain ⟨c, h1, _⟩ := look e
          exact ⟨c, h1⟩
      rcases hy with hy | hy
      · exact key _ hy (.inl rfl)
      · exact key _ hy (.inr rfl)
    · have z : (scope.names.lookup y == some NameKind.cell) = true := z
      have z : scope.names.lookup y = some .cell := by simpa using z
      have e : cenv.cells.lookup y = some c := e
      rw [hcl] at e
      rcases cells_mem (PySem.mem_of_lookup e) with hm | ⟨_, h2, _⟩
      · rcases cloFrom_mem hm with hm | ⟨h1, _⟩
        · cases hm
        · have q := ok.uniq _ h1
          rw [z] at q; cases q
      · rw [Heap.size_push] at h2
        exact Nat.le_of_succ_le h2
    · show b ≠ cenv.locals
      rw [hL]; exact Nat.ne_of_lt (hfp b hb).2
    · have e : cenv.cells.lookup y = some c := e
      rcases mem e with ⟨h1, _⟩ | ⟨h1, _⟩
      · exact (hfp b hb).1.2.2.2.2.1 y c h1 z
      · have h2 : s.heap.objs.size + 1 ≤ b := by rw [← z]; exact h1
        exact absurd (Nat.lt_of_lt_of_le (hfp b hb).2 (Nat.le_of_succ_le h2)) (Nat.lt_irrefl _)
    · rcases (hfp b hb).1.2.2.2.1 with z | z
      · exact I.ok.noex b o e z
      · exact absurd (Nat.lt_of_lt_of_le (Heap.lt_size e) (Nat.le_trans I.ok.bsz z)) (Nat.lt_irrefl _)
    · rcases List.mem_cons.mp (I.stkSub b z) with z | z
      · exact (hfp b hb).1.2.1 z
      · exact (hfp b hb).1.2.2.1 z
  refine ⟨okB, rfl, I.bare, Un.kept kp, ⟨fun _ => none, ?_, fun i y av e1 e2 e3 => ?_⟩, fun y c e => ?_, ?_, fun y c e => ?_, fun p hp => ?_, I.hok.kept kp, by rw [wipe_length]; exact I.len⟩
  · show Heap.Ns _ cenv.locals _
    rw [hL]
    exact Heap.Ns.keeps (Heap.Ns.new ..) fun b o e => pushCells_keeps _ _ _ _ e
  · obtain ⟨e2, hne⟩ := wipe_some e2
    have hfr : scope.names.lookup y = some .free ∧ (cenv.kindOf y = some .cell ∨ cenv.kindOf y = some .free) := by
      have key : ∀ k, cenv.scope.names.lookup y = some k → k = .local ∨ k = .cell ∨ k = .free → scope.names.lookup y = some .free ∧ (cenv.kindOf y = some .cell ∨ cenv.kindOf y = some .free) := fun k hk hk' => by
        have hk0 := hk
        rw [hsc] at hk
        obtain ⟨k', e, r⟩ := lookup_relS hk
        have no : ¬ (k' = .local ∨ k' = .cell) := fun hh => by
          rcases ok.own _ (PySem.mem_of_lookup e) hh with e' | e'
          · obtain ⟨p, hp, hpy⟩ := List.mem_map.mp e'
            have e3 := ok.ix p hp
            have : p.1 = y := hpy
            rw [this] at e3
            exact hne (List.mem_map.mpr ⟨p, hp, nodup_ix hN e3 e1⟩)
          · exact e' (List.mem_of_getElem? e1)
        rcases r with rfl | ⟨rfl, rfl⟩
        · rcases hk' with rfl | rfl | rfl
          · exact absurd (.inl rfl) no
          · exact absurd (.inr rfl) no
          · exact ⟨e, .inr hk0⟩
        · exact ⟨e, .inl hk0⟩
      have e3 : Vis cenv.scope y := e3
      rcases e3 with e3 | e3 | e3
      · exact key _ e3 (.inl rfl)
      · exact key _ e3 (.inr (.inl rfl))
      · exact key _ e3 (.inr (.inr rfl))
    obtain ⟨m, hn, hl⟩ := I.loc
    have hvis : Vis X.env.scope y := (ok.free _ (PySem.mem_of_lookup hfr.1) rfl).elim (fun k => .inr (.inl k)) (fun k => .inr (.inr k))
    obtain ⟨w, r, q⟩ := hl i y av e1 e2 hvis
    refine ⟨w, r, .inr ⟨hfr.2, ?_⟩⟩
    obtain ⟨c, h1, h2⟩ := look hfr.1
    rcases q with ⟨k, _⟩ | ⟨_, c', e', z⟩
    · have k : X.env.scope.names.lookup y = some .local := k
      rcases ok.free _ (PySem.mem_of_lookup hfr.1) rfl with k' | k' <;> rw [show X.env.scope.names.lookup y = _ from k'] at k <;> cases k
    · rw [h2] at e'; cases e'
      exact ⟨c, h1, z.keeps kp⟩
  · have e : cenv.cells.lookup y = some c := e
    rcases mem e with ⟨h1, _⟩ | ⟨_, z⟩
    · obtain ⟨w, z⟩ := I.cell y c h1
      exact ⟨w, z.keeps kp⟩
    · exact ⟨_, z⟩
  · show H cenv.locals = none
    rw [hL]; exact I.hok.fresh (Nat.le_refl _)
  · have e : cenv.cells.lookup y = some c := e
    rcases mem e with ⟨h1, _⟩ | ⟨h1, _⟩
    · exact I.freeC y c h1
    · exact I.hok.fresh (Nat.le_of_succ_le h1)
  · exact absurd (show p ∈ ([] : List (Addr × Obj)) ++ [] from hp) (by simp)

theorem app_ok {E : Value → Shared → Prop} {D : Addr} {xs : List V} {y : V} {v : Value} {Q : Value → Shared → Prop} (I : Inv X pins σ H s) (hD : H D = some (.lst xs)) (hz : xs.length < sizeLine) (r : RelV y v)
    (h : ∀ s', Inv X pins σ (upd H D (.lst (xs ++ [y]))) s' → Q .none s') : wpAny (model X.prog X.w) X.A (call (.builtin "list.append") [.ref D, v]) Q E s := by
  obtain ⟨hz', its, n, ri, e⟩ := I.hok D _ hD
  have hl := ri.length
  refine append_at (hsz := by rw [List.size_toArray]; omega) e fun h' sb ho' => ?_
  refine h { s with heap := h' } (I.write (t' := s.toks) (by rw [hD]; trivial) (.inl rfl) (fun b u hb q => (sb.2 b hb).trans q) ⟨_, ho'⟩ ⟨by rw [List.length_append]; exact hz, its ++ [v], n + 1, ri.append (.cons r .nil), ?_⟩)
  rw [ho']
  simp

def PTs (X : Cx) (ifs : List Expr) (t : TT) : Prop :=
  ∀ (pins : List (Addr × Obj)) (s : Shared) (σ : St) (H : Hp) (Q : Bool → Hp → Prop), Inv X pins σ H s → t σ H Q →
    wpAny (model X.prog X.w) X.A (forIn ifs true fun c r => if r = true then do let ok ← isTrue c X.env (eval c X.env); pure (ForInStep.yield ok) else pure (ForInStep.yield r)) (TP X pins σ Q) X.xe s
def tYes : TT := fun _ H Q => Q true H
theorem pts_nil : PTs X [] tYes := fun _ _ _ H _ I h => wpAny_tests_nil ⟨H, I, h⟩
theorem pts_one {c : Expr} {t : TT} (h : PT X c t) : PTs X [c] t := fun pins s σ H Q I hw => wpAny_tests_one (h pins s σ H Q I hw)
end

theorem thnF {α : Type} {t : Sem α} {Q Q' : α → Shared → Prop} {M : Model} {A : Around} {E : Value → Shared → Prop} {s : Shared} (h : wpAny M A t Q (fun _ _ => False) s) (hQ : ∀ a s, Q a s → Q' a s) : wpAny M A t Q' E s := wpAny_mono h hQ fun _ _ z => False.elim z

theorem compLoop_any {prog : Program} {w : World} {A : Around} {R : Result → Shared → Prop} {s : Shared} {elt target iter : Expr} {ifs : List Expr} {scope : Scope} {pos : Pos} {it acc : Value} {env : Env} (I : Nat → Shared → Prop)
    (turn : ∀ n s, I n s → wpAny (model prog w) A (pyNext it) (fun r s₁ => match r with
      | none => R (.ok .next) s₁
      | some v => wpAny (model prog w) A (letOwnedTupleGo target it v) (fun _ s₁' => wpAny (model prog w) A (assign target env v) (fun _ s₂ =>
          wpAny (model prog w) A (forIn ifs true fun c r => if r = true then do let ok ← isTrue c env (eval c env); pure (ForInStep.yield ok) else pure (ForInStep.yield r)) (fun ok s₃ =>
            if ok = true then wpAny (model prog w) A (eval elt env) (fun x s₄ =>
              wpAny (model prog w) A (call (.builtin "list.append") [acc, x]) (fun _ s₅ => ∃ m, m < n ∧ I m s₅) (notedBy (model prog w) A env fun e s' => R (.error e) s') s₄) (notedBy (model prog w) A env fun e s' => R (.error e) s') s₃
            else ∃ m, m < n ∧ I m s₃) (notedBy (model prog w) A env fun e s' => R (.error e) s') s₂) (notedBy (model prog w) A env fun e s' => R (.error e) s') s₁') (notedBy (model prog w) A env fun e s' => R (.error e) s') s₁) (notedBy (model prog w) A env fun e s' => R (.error e) s') s)
    (n : Nat) (h : I n s) :
    codeAny (model prog w) A (.compLoop (.ListComp elt [⟨target, iter, ifs, 0⟩] scope pos) 0 it acc env) R s := by
  refine codeAny_loop rfl I (fun n s hI => ?_) n h
  show wpAny _ A ((compTurn (.ListComp elt [⟨target, iter, ifs, 0⟩] scope pos) 0 it acc env).onRaise (fun x => do noteFrame x env; theTreesLotGoes x)) _ _ s
  refine wpAny_noted ?_
  rw [compTurn_list]
  refine wpAny_bind (wpAny_standAt (wpAny_bind (wpAny_mono (turn n s hI) (fun r s₁ h₁ => ?_) fun _ _ h' => h')))
  cases r with
  | none => exact wpAny_pure h₁
  | some v =>
    refine wpAny_bind (wpAny_mono h₁ (fun _ s₁' h₁' => ?_) fun _ _ h' => h')
    refine wpAny_bind (wpAny_mono h₁' (fun _ s₂ h₂ => wpAny_bind (wpAny_mono h₂ (fun ok s₃ h₃ => ?_) fun _ _ h' => h')) fun _ _ h' => h')
    cases ok with
    | false => exact wpAny_pure ⟨rfl, h₃⟩
    | true =>
      exact wpAny_bind (wpAny_bind (wpAny_mono h₃ (fun x s₄ h₄ => wpAny_bind (wpAny_mono h₄ (fun _ s₅ h₅ => wpAny_pure (wpAny_pure ⟨rfl, h₅⟩)) fun _ _ h' => h')) fun _ _ h' => h'))

section
variable {X : Cx}
def tLc (wi : TI) (g : TG) (tt : TT) (te : TE) (vs : List Nat) : TE := fun σ H Q => wi σ H fun J H1 => ∀ D, H1 D = none → ∃ W : Nat → Nat → Hp → Prop, (∃ m, W 0 m (upd H1 D (.lst []))) ∧ ∀ i m H, W i m H →
  (J.stop i H ∧ Q (.ref D) H) ∨ (J.go i H ∧ ∃ Nx : Hp → Prop, (∀ H', Nx H' → ∃ m', m' < m ∧ W (i + 1) m' H') ∧ ∀ x H', J.yld i H x H' → g x (wipe σ vs) H' fun σ2 H2 => wipe σ2 vs = wipe σ vs ∧ tt σ2 H2 fun b H3 =>
    if b = true then te σ2 H3 fun y H4 => ∃ acc, H4 D = some (.lst acc) ∧ acc.length < sizeLine ∧ Nx (upd H4 D (.lst (acc ++ [y]))) else Nx H3)
theorem lc_core {pins : List (Addr × Obj)} {s : Shared} {σ : St} {H : Hp} {Q : VK} {elt tg iter : Expr} {ifs : List Expr} {scope : Scope} {own : List (Str × Nat)} {pos pos' : Pos} {wi : TI} {g : TG} {tt : TT} {te : TE} {use : Option (Value → Sem Unit)} {Qf : Value → Shared → Prop}
    (hc : X.calm = true) (hN : X.N.Nodup) (I : Inv X pins σ H s) (hi : PI X tg iter wi) (ok : BlkOk X.N X.env.scope scope own)
    (hg : ∀ (s : Shared) (H : Hp) (C : Addr) (cl : List (Str × Addr)) (fp : List Addr), PG (X.blk s H scope (compEnvC scope cl C X.env) fp) tg g) (ht : ∀ (s : Shared) (H : Hp) (C : Addr) (cl : List (Str × Addr)) (fp : List Addr), PTs (X.blk s H scope (compEnvC scope cl C X.env) fp) ifs tt)
    (he : ∀ (s : Shared) (H : Hp) (C : Addr) (cl : List (Str × Addr)) (fp : List Addr), PE (X.blk s H scope (compEnvC scope cl C X.env) fp) elt te) (hs : ∀ x, foldedSetIterable iter X.env x = pure x)
    (h : tLc wi g tt te (own.map (·.2)) σ H Q)
    (hRR : ∀ D C s' m H', Inv X pins σ H' s' → Q (.ref D) H' → s'.heap.Ns C m → FpOk X pins H' C → compPost (model X.prog X.w) X.A X.xe use Qf (.ref D) C (.ok .next) s') :
    wpAny (model X.prog X.w) X.A (comprehension (.ListComp elt [⟨tg, iter, ifs, 0⟩] scope pos) scope X.env pos' (newList []) false (eval iter X.env) use) Qf X.xe s := by
  have hfree : ∀ y ∈ scope.names, y.2 = .free → ∃ c, X.env.cells.lookup y.1 = some c := fun y hy e => by
    rcases ok.free y hy e with k | k
    · exact I.ok.has _ (.inl k)
    · exact I.ok.has _ (.inr k)
  refine wpAny_comprehension_free (use := use) rfl hs (closure_ok hfree) ok.kind (fun y hy e => by rw [ok.uniq y hy, e])
    (thn (hi pins s σ H _ I h) fun xv s1 hx => thn hx fun itv s2 h2 => ?_)
  obtain ⟨it, fp, tn, J, H2, e, I2, T, st2, f2, q⟩ := h2
  subst e
  refine wpAny_newObj_type (newEnv_comp ?_) (by show 0 ≤ sizeLine; decide)
  generalize hD : s2.heap.objs.size = D
  have hDn : H2 D = none := I2.hok.fresh (Nat.le_of_eq hD)
  obtain ⟨W, ⟨m0, w0⟩, turn⟩ := q D hDn
  generalize hs3 : ({ s2 with heap := s2.heap.push { cls := .type "list", data := .seq ([] : List Value).toArray } } : Shared) = s3
  have I3 : Inv X pins σ (upd H2 D (.lst [])) s3 := by
    rw [← hs3]
    refine I2.laid (t' := s2.toks) (fun b o e => Heap.get?_push_of_some _ e) (Nat.le_of_eq hD) ⟨Nat.zero_le _, [], 0, .nil, ?_⟩
    rw [← hD]
    exact Heap.get?_push_size _ rfl
  have h3 : s3.heap = s2.heap.push { cls := .type "list", data := .seq ([] : List Value).toArray } := by rw [← hs3]
  have sz : ∀ b ∈ fp, b < s2.heap.objs.size := fun b hb => by
    obtain ⟨o, e, _⟩ := T.obj _ _ st2 b hb
    exact Heap.lt_size e
  have f3 : ∀ b ∈ fp, FpOk X pins (upd H2 D (.lst [])) b ∧ b < s3.heap.objs.size := fun b hb => by
    have hlt := sz b hb
    refine ⟨⟨?_, (f2 b hb).2⟩, by rw [h3, Heap.size_push]; exact Nat.lt_succ_of_lt hlt⟩
    rw [upd_ne (by rw [← hD]; exact Nat.ne_of_lt hlt)]
    exact (f2 b hb).1
  have st3 : tn 0 s3.heap := T.keep _ _ _ st2 fun b _ o e => by rw [h3]; exact Heap.get?_push_of_some _ e
  have I4 := block_start I3 ok hN f3
  have pg := hg s3 (upd H2 D (.lst [])) s3.heap.objs.size (cellsFrom (s3.heap.objs.size + 1) scope.names (cloFrom X.env.cells scope.names [])) fp
  have pt := ht s3 (upd H2 D (.lst [])) s3.heap.objs.size (cellsFrom (s3.heap.objs.size + 1) scope.names (cloFrom X.env.cells scope.names [])) fp
  have pe := he s3 (upd H2 D (.lst [])) s3.heap.objs.size (cellsFrom (s3.heap.objs.size + 1) scope.names (cloFrom X.env.cells scope.names [])) fp
  show codeAny _ _ (.compStart (.ListComp elt [⟨tg, iter, ifs, 0⟩] scope pos) 0 (.ref it) (.ref D) (compEnvC scope (cellsFrom (s3.heap.objs.size + 1) scope.names (cloFrom X.env.cells scope.names [])) s3.heap.objs.size X.env)) (compPost (model X.prog X.w) X.A X.xe use Qf (.ref D) s3.heap.objs.size) { s3 with heap := pushCells (s3.heap.push { cls := .type "dict", data := .dict #[] }) scope.names }
  have nfp : ∀ b ∈ fp, (upd H2 D (.lst [])) b = none := fun b hb => (f3 b hb).1.1
  generalize hce : compEnvC scope (cellsFrom (s3.heap.objs.size + 1) scope.names (cloFrom X.env.cells scope.names [])) s3.heap.objs.size X.env = ce at I4 pg pt pe ⊢
  have cL : ce.locals = s3.heap.objs.size := by subst hce; rfl
  generalize hH3 : upd H2 D (.lst []) = H3 at I3 I4 pg pt pe w0 nfp f3
  generalize hs4 : ({ s3 with heap := pushCells (s3.heap.push { cls := .type "dict", data := .dict #[] }) scope.names } : Shared) = s4 at I4 ⊢
  have st4 : tn 0 s4.heap := T.keep _ _ _ st3 fun b _ o e => by rw [← hs4]; exact pushCells_keeps _ _ _ _ (Heap.get?_push_of_some _ e)
  have stat : ∀ {σ' : St} {H' : Hp} {s' : Shared}, Inv (X.blk s3 H3 scope ce fp) [] σ' H' s' → (∀ b ∈ fp, H' b = none) → ∀ b ∈ fp, FpOk (X.blk s3 H3 scope ce fp) [] H' b := fun {σ' H' s'} I' hn b hb =>
    ⟨hn b hb, (I'.ok.exf b hb).1, I'.ok.exfs b hb, .inl hb, fun x c e => (I'.ok.exf b hb).2 x c e, fun p hp => absurd (show p ∈ ([] : List (Addr × Obj)) ++ [] from hp) (by simp)⟩
  have loop : codeAny (model X.prog X.w) X.A (.compLoop (.ListComp elt [⟨tg, iter, ifs, 0⟩] scope pos) 0 (.ref it) (.ref D) ce) (compPost (model X.prog X.w) X.A X.xe use Qf (.ref D) s3.heap.objs.size) s4 := by
    refine compLoop_any (fun n s' => ∃ i H', Inv (X.blk s3 H3 scope ce fp) [] (wipe σ (own.map (·.2))) H' s' ∧ tn i s'.heap ∧ (∀ b ∈ fp, H' b = none) ∧ W i n H') ?_ m0 ⟨0, H3, I4, st4, nfp, w0⟩
    rintro n s5 ⟨i, H5, I5, st5, n5, w5⟩
    rcases turn i n H5 w5 with ⟨stop, qq⟩ | ⟨go, Nx, hNx, step⟩
    · have td := T.done (X.blk s3 H3 scope ce fp) rfl rfl rfl hc i [] s5 _ H5 (fun _ _ => False) I5 (stat I5 n5) st5 stop
      refine thnF td fun r s6 ⟨hr, I6⟩ => ?_
      subst hr
      have I7 : Inv X pins σ H5 s6 := I3.call' (ch := fp) I6.os I6.base I6.hok I6.bare fun b hb => ⟨(f3 b hb).1.2.2.2.1, (f3 b hb).1.2.1, (f3 b hb).1.2.2.2.2.1, (f3 b hb).1.2.2.2.2.2⟩
      have nC : H5 s3.heap.objs.size = none := by
        have z : H5 ce.locals = none := I6.free
        rw [cL] at z
        exact z
      obtain ⟨m, hn, _⟩ := I6.loc
      have hn : s6.heap.Ns ce.locals m := hn
      rw [cL] at hn
      exact hRR D s3.heap.objs.size s6 m H5 I7 qq hn (I3.fpOk (Nat.le_refl _) nC)
    · have ti := T.item (X.blk s3 H3 scope ce fp) rfl rfl rfl hc i [] s5 _ H5 (fun _ _ => False) I5 (stat I5 n5) st5 go
      refine thnF ti fun r s6 ⟨u, hr, h6⟩ => ?_
      subst hr
      refine thnF h6 fun _ s7 ⟨x, H7, I7, r7, y7, st7, n7⟩ => ?_
      have I7' := I7.pinned (stat I7 n7) (T.obj _ _ st7)
      refine thnF (pg _ s7 _ H7 x u _ I7' r7 (step x H7 y7)) fun _ s8 ⟨σ8, H8, I8, hw8, q8⟩ => ?_
      refine thnF (pt _ s8 σ8 H8 _ I8 q8) fun b s9 ⟨H9, I9, q9⟩ => ?_
      have fin : ∀ {s' : Shared} {H' : Hp}, Inv (X.blk s3 H3 scope ce fp) ([] ++ pinsAt fp s7.heap) σ8 H' s' → Nx H' → ∃ m, m < n ∧ ∃ i H', Inv (X.blk s3 H3 scope ce fp) [] (wipe σ (own.map (·.2))) H' s' ∧ tn i s'.heap ∧ (∀ b ∈ fp, H' b = none) ∧ W i m H' := fun {s' H'} I' nx => by
        obtain ⟨m', hm, w'⟩ := hNx H' nx
        have pin' : ∀ b ∈ fp, ∀ o, s7.heap.get? b = some o → s'.heap.get? b = some o ∧ H' b = none := fun b hb o e =>
          let z := I'.pin (b, o) (List.mem_append_right _ (List.mem_append_right _ (mem_pinsAt hb e)))
          ⟨z.1, z.2.1⟩
        have hl : (wipe σ (own.map (·.2))).length = σ8.length := by rw [← hw8, wipe_length]
        refine ⟨m', hm, i + 1, H', (I'.unpinned (pins := [])).weak hl (fun j v e => ?_), T.keep _ _ _ st7 fun b hb o e => (pin' b hb o e).1, fun b hb => ?_, w'⟩
        · rw [← hw8] at e
          exact (wipe_some e).1
        · obtain ⟨o, e, _⟩ := T.obj _ _ st7 b hb
          exact (pin' b hb o e).2
      cases b with
      | false =>
        simp only [Bool.false_eq_true, if_false] at q9 ⊢
        exact fin I9 q9
      | true =>
        simp only [if_true] at q9 ⊢
        refine thnF (pe _ s9 σ8 H9 _ I9 q9) fun z s10 ⟨yv, H10, I10, r10, acc, hD10, hz10, nx⟩ => ?_
        exact app_ok (X := X.blk s3 H3 scope ce fp) I10 hD10 hz10 r10 fun s11 I11 => fin I11 nx
  exact codeAny_compStart_list loop (T.self X.A 0 _ _ _ st4 loop)
theorem pe_lc {elt tg iter : Expr} {ifs : List Expr} {scope : Scope} {own : List (Str × Nat)} {pos : Pos} {wi : TI} {g : TG} {tt : TT} {te : TE} (hc : X.calm = true) (hN : X.N.Nodup) (hi : PI X tg iter wi) (ok : BlkOk X.N X.env.scope scope own)
    (hg : ∀ (s : Shared) (H : Hp) (C : Addr) (cl : List (Str × Addr)) (fp : List Addr), PG (X.blk s H scope (compEnvC scope cl C X.env) fp) tg g) (ht : ∀ (s : Shared) (H : Hp) (C : Addr) (cl : List (Str × Addr)) (fp : List Addr), PTs (X.blk s H scope (compEnvC scope cl C X.env) fp) ifs tt)
    (he : ∀ (s : Shared) (H : Hp) (C : Addr) (cl : List (Str × Addr)) (fp : List Addr), PE (X.blk s H scope (compEnvC scope cl C X.env) fp) elt te) (hs : ∀ x, foldedSetIterable iter X.env x = pure x := by intro _; rfl) :
    PE X (.ListComp elt [⟨tg, iter, ifs, 0⟩] scope pos) (tLc wi g tt te (own.map (·.2))) := by
  intro pins s σ H Q I h
  rw [eval_ListComp]
  refine lc_core hc hN I hi ok hg ht he hs h fun D C s' m H' I' q hn f => ⟨m, hn, fun h'' sb => ?_⟩
  obtain ⟨f0, f1, f2, f3, f4, f5⟩ := f
  exact ⟨.ref D, H', I'.turned (t' := s'.toks) (fun b o hb e => (sb.2 b hb).trans e) f0 f1 f3 f4 f5, rfl, q⟩
theorem ps_setLc {i : Nat} {y : Str} {py : Pos} {elt tg iter : Expr} {ifs : List Expr} {scope : Scope} {own : List (Str × Nat)} {pos spos : Pos} {wi : TI} {g : TG} {tt : TT} {te : TE} (hc : X.calm = true) (hN : X.N.Nodup) (hy : X.N[i]? = some y) (hyl : X.env.scope.names.lookup y = some .local)
    (hsw : swapsWith (.ListComp elt [⟨tg, iter, ifs, 0⟩] scope pos) (some (.Name y py)) spos.line X.env = pure true) (hi : PI X tg iter wi) (ok : BlkOk X.N X.env.scope scope own)
    (hg : ∀ (s : Shared) (H : Hp) (C : Addr) (cl : List (Str × Addr)) (fp : List Addr), PG (X.blk s H scope (compEnvC scope cl C X.env) fp) tg g) (ht : ∀ (s : Shared) (H : Hp) (C : Addr) (cl : List (Str × Addr)) (fp : List Addr), PTs (X.blk s H scope (compEnvC scope cl C X.env) fp) ifs tt)
    (he : ∀ (s : Shared) (H : Hp) (C : Addr) (cl : List (Str × Addr)) (fp : List Addr), PE (X.blk s H scope (compEnvC scope cl C X.env) fp) elt te) (hs : ∀ x, foldedSetIterable iter X.env x = pure x := by intro _; rfl) :
    PS X (.Assign [.Name y py] (.ListComp elt [⟨tg, iter, ifs, 0⟩] scope pos) spos) (tAsg (tLc wi g tt te (own.map (·.2))) (gName i)) := by
  intro pins s σ H D I h
  rw [exec_Assign_Name_used _ _ _ _ hsw]
  refine wpAny_bind (wpAny_standAt (wpAny_bind ?_))
  show wpAny _ X.A (do let _ ← comprehension (.ListComp elt [⟨tg, iter, ifs, 0⟩] scope pos) scope X.env (firstIterPos [⟨tg, iter, ifs, 0⟩] pos) (newList []) false (eval iter X.env) (some (assign (.Name y py) X.env))) _ _ s
  have h : tLc wi g tt te (own.map (·.2)) σ H (fun x H1 => gName i x σ H1 D.nx) := h
  refine wpAny_bind (thn (lc_core (Qf := fun _ s' => SP X pins D .next s') hc hN I hi ok hg ht he hs h fun L C s' m H' I' q hn f => ?_) fun _ s' hq => wpAny_pure (wpAny_pure hq))
  show wpAny _ _ (assign (.Name y py) X.env (.ref L)) _ _ _
  refine wpAny_assign_Name (store_ok2 (v := V.ref L) I' hN hy (.inl hyl) rfl (fun s2 I2 ⟨a, sb, ha⟩ => ?_) (.inr hyl))
  obtain ⟨f0, f1, f2, f3, f4, f5⟩ := f
  have haC : C ≠ a := by
    rcases ha with z | z
    · rw [z]; exact f1
    · exact fun e => f4 y a z e.symm
  refine ⟨m, hn.sameBut sb haC, fun h3 sb3 => ?_⟩
  exact ⟨_, H', I2.turned (t' := s2.toks) (fun b o hb e => (sb3.2 b hb).trans e) f0 f1 f3 f4 f5, q⟩
theorem sw_true {elt : Expr} {gs : List Comprehension} {scope : Scope} {pos py : Pos} {y : Str} {l : Nat} {env : Env} (hk : env.scope.kind = .function) (hy : env.scope.names.lookup y = some .local) (hl : (py.line == pos.line) = true)
    (ha : (scope.names.any fun (n, k) => n == y && (k == .local || k == .cell)) = false) : swapsWith (.ListComp elt gs scope pos) (some (.Name y py)) l env = pure true := by
  have ky : env.kindOf y = some .local := hy
  have hb : env.blockKind = .function := by unfold Env.blockKind; rw [hk]; rfl
  unfold swapsWith
  simp only [hb, ky, ha, Expr.pos, hl]
  rfl
end

theorem lc_range {lo : Int} {n : Nat} {g : TG} {tt : TT} {te : TE} {vs : List Nat} {σ : St} {H1 : Hp} {D : Addr} {Qd : Hp → Prop} (Pv : Nat → Hp → Prop) (h0 : Pv 0 (upd H1 D (.lst [])))
    (hs : ∀ i H, i < n → Pv i H → g (.int (lo + i)) (wipe σ vs) H fun σ2 H2 => wipe σ2 vs = wipe σ vs ∧ tt σ2 H2 fun b H3 =>
      if b = true then te σ2 H3 fun y H4 => ∃ acc, H4 D = some (.lst acc) ∧ acc.length < sizeLine ∧ Pv (i + 1) (upd H4 D (.lst (acc ++ [y]))) else Pv (i + 1) H3) (hd : ∀ H, Pv n H → Qd H) :
    ∃ W : Nat → Nat → Hp → Prop, (∃ m, W 0 m (upd H1 D (.lst []))) ∧ ∀ i m H, W i m H →
      ((Itr lo n).stop i H ∧ Qd H) ∨ ((Itr lo n).go i H ∧ ∃ Nx : Hp → Prop, (∀ H', Nx H' → ∃ m', m' < m ∧ W (i + 1) m' H') ∧ ∀ x H', (Itr lo n).yld i H x H' → g x (wipe σ vs) H' fun σ2 H2 => wipe σ2 vs = wipe σ vs ∧ tt σ2 H2 fun b H3 =>
        if b = true then te σ2 H3 fun y H4 => ∃ acc, H4 D = some (.lst acc) ∧ acc.length < sizeLine ∧ Nx (upd H4 D (.lst (acc ++ [y]))) else Nx H3) := by
  refine ⟨fun i m H => m = n - i ∧ i ≤ n ∧ Pv i H, ⟨n, by simp, Nat.zero_le _, h0⟩, ?_⟩
  rintro i m H ⟨rfl, hi, p⟩
  by_cases hlt : i < n
  · refine .inr ⟨hlt, Pv (i + 1), fun H' p' => ⟨n - (i + 1), by omega, rfl, hlt, p'⟩, fun x H' y => ?_⟩
    obtain ⟨e, y⟩ := y
    subst e y
    exact hs i _ hlt p
  · have e : i = n := by omega
    subst e
    exact .inl ⟨Nat.le_refl _, hd H p⟩
theorem lc_list {K : PySem.W.Frag} {a : Addr} {xs : List V} {g : TG} {tt : TT} {te : TE} {vs : List Nat} {σ : St} {H1 : Hp} {D : Addr} {Qd : Hp → Prop} (Pv : Nat → Hp → Prop) (h0 : Pv 0 (upd H1 D (.lst []))) (hl : ∀ i H, i ≤ xs.length → Pv i H → SqL K H a xs)
    (hs : ∀ i x H, xs[i]? = some x → Pv i H → g x (wipe σ vs) H fun σ2 H2 => wipe σ2 vs = wipe σ vs ∧ tt σ2 H2 fun b H3 =>
      if b = true then te σ2 H3 fun y H4 => ∃ acc, H4 D = some (.lst acc) ∧ acc.length < sizeLine ∧ Pv (i + 1) (upd H4 D (.lst (acc ++ [y]))) else Pv (i + 1) H3) (hd : ∀ H, Pv xs.length H → Qd H) :
    ∃ W : Nat → Nat → Hp → Prop, (∃ m, W 0 m (upd H1 D (.lst []))) ∧ ∀ i m H, W i m H →
      ((Itl K a).stop i H ∧ Qd H) ∨ ((Itl K a).go i H ∧ ∃ Nx : Hp → Prop, (∀ H', Nx H' → ∃ m', m' < m ∧ W (i + 1) m' H') ∧ ∀ x H', (Itl K a).yld i H x H' → g x (wipe σ vs) H' fun σ2 H2 => wipe σ2 vs = wipe σ vs ∧ tt σ2 H2 fun b H3 =>
        if b = true then te σ2 H3 fun y H4 => ∃ acc, H4 D = some (.lst acc) ∧ acc.length < sizeLine ∧ Nx (upd H4 D (.lst (acc ++ [y]))) else Nx H3) := by
  refine ⟨fun i m H => m = xs.length - i ∧ i ≤ xs.length ∧ Pv i H, ⟨xs.length, by simp, Nat.zero_le _, h0⟩, ?_⟩
  rintro i m H ⟨rfl, hi, p⟩
  have q := hl i H hi p
  by_cases hlt : i < xs.length
  · refine .inr ⟨⟨xs, xs[i], q, by simp [hlt]⟩, Pv (i + 1), fun H' p' => ⟨xs.length - (i + 1), by omega, rfl, hlt, p'⟩, fun x H' y => ?_⟩
    obtain ⟨e, y⟩ := y
    subst e
    exact hs i x _ (y xs q) p
  · have e : i = xs.length := by omega
    subst e
    exact .inl ⟨⟨xs, q, Nat.le_refl _⟩, hd H p⟩
def blkC (N : List Str) (sc scope : Scope) (own : List (Str × Nat)) : Bool :=
  (match scope.kind with | .function => true | _ => false) && (scope.names.all fun y => decide (scope.names.lookup y.1 = some y.2)) && (own.all fun p => decide (N[p.2]? = some p.1)) &&
    (scope.names.all fun y => match y.2 with
      | .free => (match sc.names.lookup y.1 with | some .cell => true | some .free => true | _ => false)
      | .local => decide (y.1 ∈ own.map (·.1)) || decide (y.1 ∉ N)
      | .cell => decide (y.1 ∈ own.map (·.1)) || decide (y.1 ∉ N)
      | _ => true)
theorem blkOk_by {N : List Str} {sc scope : Scope} {own : List (Str × Nat)} (h : blkC N sc scope own = true) : BlkOk N sc scope own := by
  unfold blkC at h
  simp only [Bool.and_eq_true, List.all_eq_true, decide_eq_true_eq] at h
  obtain ⟨⟨⟨h1, h2⟩, h3⟩, h4⟩ := h
  refine ⟨?_, h2, h3, fun y hy e => ?_, fun y hy e => ?_⟩
  · split at h1
    · assumption
    · cases h1
  · have q := h4 y hy
    simp only [e] at q
    split at q <;> first | exact .inl (by assumption) | exact .inr (by assumption) | cases q
  · have q := h4 y hy
    rcases e with e | e <;> (simp only [e, Bool.or_eq_true, decide_eq_true_eq] at q; exact q)
end L2

namespace L2
open PySem PySem.Spec PyProof.Rows

section
variable {prog : Program} {w : World} {A : Around} {R : Result → Shared → Prop} {s : Shared} {elt t0 i0 t1 i1 : Expr} {ifs0 ifs1 : List Expr} {scope : Scope} {pos : Pos} {it acc : Value} {env : Env}
end

section
variable {X : Cx}
end
end L2

namespace L2
open PySem PySem.Spec PyProof.Rows

section
variable {κ : Type} [DecidableEq κ]
def valV (kvs : List (κ × V)) (k : κ) : Option V := (kvs.find? fun kv => decide (kv.1 = k)).map (·.2)
def putK (kvs : List (κ × V)) (k : κ) (v : V) : List (κ × V) :=
  if (kvs.any fun kv => decide (kv.1 = k)) = true then kvs.map (fun kv => if kv.1 = k then (kv.1, v) else kv) else kvs ++ [(k, v)]
def dropK (kvs : List (κ × V)) (k : κ) : List (κ × V) := kvs.filter fun kv => decide (kv.1 ≠ k)

theorem valV_pos {p : κ × V} {r : List (κ × V)} {k : κ} (e : p.1 = k) : valV (p :: r) k = some p.2 := by simp [valV, List.find?_cons, e]
theorem valV_neg {p : κ × V} {r : List (κ × V)} {k : κ} (e : ¬ p.1 = k) : valV (p :: r) k = valV r k := by simp [valV, List.find?_cons, e]
theorem valV_any (k : κ) : ∀ kvs : List (κ × V), (kvs.any fun kv => decide (kv.1 = k)) = (valV kvs k).isSome
  | [] => rfl
  | p :: r => by
    rw [List.any_cons]
    by_cases e : p.1 = k
    · simp only [valV_pos e, decide_eq_true e, Bool.true_or, Option.isSome_some]
    · rw [valV_neg e, decide_eq_false e, Bool.false_or]; exact valV_any k r
theorem valV_map (k j : κ) (y : V) : ∀ kvs : List (κ × V), valV (kvs.map fun kv => if kv.1 = k then (kv.1, y) else kv) j = (valV kvs j).map fun x => if j = k then y else x
  | [] => rfl
  | p :: r => by
    have ih := valV_map k j y r
    rw [List.map_cons]
    by_cases h : p.1 = k
    · rw [if_pos h]
      by_cases e : p.1 = j
      · rw [valV_pos (p := (p.1, y)) e, valV_pos e, Option.map_some, if_pos (e.symm.trans h)]
      · rw [valV_neg (p := (p.1, y)) e, valV_neg e, ih]
    · rw [if_neg h]
      by_cases e : p.1 = j
      · rw [valV_pos (p := p) e, valV_pos e, Option.map_some, if_neg (fun z => h (e.trans z))]
      · rw [valV_neg (p := p) e, valV_neg e, ih]
theorem valV_snoc (k j : κ) (y : V) : ∀ kvs : List (κ × V), valV kvs k = none → valV (kvs ++ [(k, y)]) j = if j = k then some y else valV kvs j
  | [], _ => by
    by_cases e : k = j
    · rw [if_pos e.symm]; exact valV_pos (p := (k, y)) e
    · rw [if_neg (fun z => e z.symm)]; exact valV_neg (p := (k, y)) e
  | p :: r, hn => by
    rw [List.cons_append]
    have hk : ¬ p.1 = k := fun z => by rw [valV_pos z] at hn; cases hn
    rw [valV_neg hk] at hn
    have ih := valV_snoc k j y r hn
    by_cases e : p.1 = j
    · rw [valV_pos e, valV_pos e, if_neg (fun z => hk (e.trans z))]
    · rw [valV_neg e, valV_neg e, ih]
theorem valV_put (kvs : List (κ × V)) (k j : κ) (y : V) : valV (putK kvs k y) j = if j = k then some y else valV kvs j := by
  unfold putK
  by_cases a : (kvs.any fun kv => decide (kv.1 = k)) = true
  · rw [if_pos a, valV_map]
    rw [valV_any] at a
    by_cases e : j = k
    · obtain ⟨x, hx⟩ := Option.isSome_iff_exists.mp a
      rw [if_pos e, e, hx, Option.map_some, if_pos rfl]
    · rw [if_neg e]
      cases valV kvs j with
      | none => rfl
      | some x => rw [Option.map_some, if_neg e]
  · rw [if_neg a]
    refine valV_snoc k j y kvs ?_
    rw [valV_any] at a
    cases q : valV kvs k with
    | none => rfl
    | some x => rw [q] at a; exact (a rfl).elim
theorem length_putK (kvs : List (κ × V)) (k : κ) (v : V) : (putK kvs k v).length ≤ kvs.length + 1 := by
  unfold putK
  split
  · rw [List.length_map]; omega
  · rw [List.length_append, List.length_cons, List.length_nil]; omega
theorem putK_new {kvs : List (κ × V)} {k : κ} (v : V) (h : valV kvs k = none) : putK kvs k v = kvs ++ [(k, v)] := by
  unfold putK
  rw [valV_any, h]
  exact if_neg (by decide)

theorem RelO.isSome_eq {o : Option V} {u : Option Value} (r : RelO o u) : o.isSome = u.isSome := by
  cases o with
  | none => cases u with
    | none => rfl
    | some _ => exact (show False from r).elim
  | some _ => cases u with
    | none => exact (show False from r).elim
    | some _ => rfl
theorem RelO.getD {o : Option V} {u : Option Value} {d : V} {d' : Value} (r : RelO o u) (rd : RelV d d') : RelV (o.getD d) (u.getD d') := by
  cases o with
  | none => cases u with
    | none => exact rd
    | some _ => exact (show False from r).elim
  | some _ => cases u with
    | none => exact (show False from r).elim
    | some _ => exact r

theorem KV.val {kvs : List (κ × V)} {vs : List (κ × Value)} (r : KV kvs vs) (k : κ) : RelO (valV kvs k) (valueAt vs k) := by
  unfold KV at r
  induction r with
  | nil => exact True.intro
  | @cons p q ps qs h t ih =>
    obtain ⟨h1, h2⟩ := h
    by_cases e : p.1 = k
    · have e' : q.1 = k := h1.symm.trans e
      have b : valueAt (q :: qs) k = some q.2 := by simp [valueAt, List.find?_cons, e']
      rw [valV_pos e, b]; exact h2
    · have e' : ¬ q.1 = k := fun z => e (h1.trans z)
      have b : valueAt (q :: qs) k = valueAt qs k := by simp [valueAt, List.find?_cons, e']
      rw [valV_neg e, b]; exact ih
theorem KV.any {kvs : List (κ × V)} {vs : List (κ × Value)} (r : KV kvs vs) (k : κ) : (kvs.any fun kv => decide (kv.1 = k)) = vs.any fun kv => decide (kv.1 = k) := by
  unfold KV at r
  induction r with
  | nil => rfl
  | cons h t ih => rw [List.any_cons, List.any_cons, ih, h.1]
theorem KV.repl {kvs : List (κ × V)} {vs : List (κ × Value)} (r : KV kvs vs) (k : κ) {y : V} {u : Value} (ry : RelV y u) :
    KV (kvs.map fun kv => if kv.1 = k then (kv.1, y) else kv) (vs.map fun kv => if kv.1 = k then (kv.1, u) else kv) := by
  unfold KV at r ⊢
  induction r with
  | nil => exact .nil
  | @cons p q ps qs h t ih =>
    rw [List.map_cons, List.map_cons]
    refine .cons ?_ ih
    obtain ⟨h1, h2⟩ := h
    by_cases e : p.1 = k
    · rw [if_pos e, if_pos (h1.symm.trans e)]; exact ⟨h1, ry⟩
    · rw [if_neg e, if_neg (fun z => e (h1.trans z))]; exact ⟨h1, h2⟩
theorem KV.put {kvs : List (κ × V)} {vs : List (κ × Value)} (r : KV kvs vs) (k : κ) {y : V} {u : Value} (ry : RelV y u) : KV (putK kvs k y) (stored vs k u) := by
  unfold putK stored
  rw [r.any k]
  by_cases e : (vs.any fun kv => decide (kv.1 = k)) = true
  · rw [if_pos e, if_pos e]; exact r.repl k ry
  · rw [if_neg e, if_neg e]; exact Paired.snoc r ⟨rfl, ry⟩
theorem KV.drop {kvs : List (κ × V)} {vs : List (κ × Value)} (r : KV kvs vs) (k : κ) : KV (dropK kvs k) (without vs k) := by
  unfold KV at r ⊢
  unfold dropK without
  induction r with
  | nil => exact .nil
  | @cons p q ps qs h t ih =>
    obtain ⟨h1, h2⟩ := h
    rw [List.filter_cons, List.filter_cons]
    by_cases e : p.1 = k
    · have a : ¬ decide (p.1 ≠ k) = true := by simp [e]
      have b : ¬ decide (q.1 ≠ k) = true := by simp [h1.symm.trans e]
      rw [if_neg a, if_neg b]; exact ih
    · have e' : ¬ q.1 = k := fun z => e (h1.trans z)
      have a : decide (p.1 ≠ k) = true := by simp [e]
      have b : decide (q.1 ≠ k) = true := by simp [e']
      rw [if_pos a, if_pos b]; exact .cons ⟨h1, h2⟩ ih
theorem KV.keys {kvs : List (κ × V)} {vs : List (κ × Value)} (r : KV kvs vs) : kvs.map (·.1) = vs.map (·.1) := by
  unfold KV at r
  induction r with
  | nil => rfl
  | cons h t ih => rw [List.map_cons, List.map_cons, ih, h.1]
theorem KV.length {kvs : List (κ × V)} {vs : List (κ × Value)} (r : KV kvs vs) : kvs.length = vs.length := Paired.length r
end


theorem kV_is {P : Program} {w : World} {k : Key} {u : Value} (r : RelV (kV k) u) : (mixKind P w).is k u = true := by
  cases k with
  | inl i => obtain ⟨t, e⟩ := (show ∃ t, u = Value.int i t from r); subst e; exact mixKind_int P w i t
  | inr x => obtain ⟨t, e⟩ := (show ∃ t, u = Value.str x t from r); subst e; exact mixKind_str P w x t
theorem items_are {P : Program} {w : World} : ∀ {ks : List Key} {us : List Value}, Vals (ks.map kV) us → ItemsAre (mixKind P w) ks us
  | [], _, r => by rw [List.map_nil] at r; cases r; exact .nil
  | k :: ks, _, r => by
    rw [List.map_cons] at r
    cases r with
    | cons h t => exact .cons (kV_is h) (items_are t)

abbrev KT (H : Hp) : List (List Key × V) → List (List Key × Addr × Value) → Prop := Paired fun p q => p.1 = q.1 ∧ H q.2.1 = some (.tup (p.1.map kV)) ∧ RelV p.2 q.2.2
theorem KT.val {H : Hp} {kvs : List (List Key × V)} {xs : List (List Key × Addr × Value)} (r : KT H kvs xs) (k : List Key) : RelO (valV kvs k) ((atKey xs k).map (·.2)) := by
  induction r with
  | nil => exact True.intro
  | @cons p q ps qs h t ih =>
    obtain ⟨h1, _, h2⟩ := h
    by_cases e : p.1 = k
    · have e' : q.1 = k := h1.symm.trans e
      have b : atKey (q :: qs) k = some q.2 := by simp [atKey, List.find?_cons, e']
      rw [valV_pos e, b]; exact h2
    · have e' : ¬ q.1 = k := fun z => e (h1.trans z)
      have b : atKey (q :: qs) k = atKey qs k := by simp [atKey, List.find?_cons, e']
      rw [valV_neg e, b]; exact ih
theorem KT.repl {H : Hp} {kvs : List (List Key × V)} {xs : List (List Key × Addr × Value)} (r : KT H kvs xs) (k : List Key) {y : V} {u : Value} (ry : RelV y u) :
    KT H (kvs.map fun kv => if kv.1 = k then (kv.1, y) else kv) (xs.map (putAt k u)) := by
  induction r with
  | nil => exact .nil
  | @cons p q ps qs h t ih =>
    rw [List.map_cons, List.map_cons]
    refine .cons ?_ ih
    obtain ⟨h1, h2, h3⟩ := h
    unfold putAt
    by_cases e : p.1 = k
    · rw [if_pos e, if_pos (h1.symm.trans e)]; exact ⟨h1, h2, ry⟩
    · rw [if_neg e, if_neg (fun z => e (h1.trans z))]; exact ⟨h1, h2, h3⟩
theorem KT.put {H : Hp} {kvs : List (List Key × V)} {xs : List (List Key × Addr × Value)} (r : KT H kvs xs) (k : List Key) {b : Addr} {y : V} {u : Value} (hb : H b = some (.tup (k.map kV))) (ry : RelV y u) :
    KT H (putK kvs k y) (storedH xs k b u) := by
  have e : (kvs.any fun kv => decide (kv.1 = k)) = (atKey xs k).isSome := by
    rw [valV_any, (r.val k).isSome_eq, Option.isSome_map]
  unfold putK storedH
  rw [e]
  by_cases q : (atKey xs k).isSome = true
  · rw [if_pos q, if_pos q]; exact r.repl k ry
  · rw [if_neg q, if_neg q]; exact Paired.snoc r ⟨rfl, hb, ry⟩
theorem KT.keeps {H H' : Hp} {kvs : List (List Key × V)} {xs : List (List Key × Addr × Value)} (r : KT H kvs xs) (ht : ∀ b ys, H b = some (.tup ys) → H' b = some (.tup ys)) : KT H' kvs xs :=
  Paired.mapP r fun _ _ z => ⟨z.1, ht _ _ z.2.1, z.2.2⟩

section
variable {P : Program} {w : World} {H : Hp} {h : Heap} {a : Addr}
theorem rd_of {u : HO} (ok : HOk P w H h) (e : Rd H a u) : ObjOk P w H h a u := e.ok ok
theorem dk_rd {kvs : List (Key × V)} (ok : HOk P w H h) (e : Rd H a (.dK kvs)) : kvs.length ≤ sizeLine ∧ (a == sysModules) = false ∧ ∃ vs, KV kvs vs ∧ h.DictOf (mixKind P w) a vs :=
  show ObjOk P w H h a (.dK kvs) from rd_of ok e
theorem dk_of {kvs : List (Key × V)} (ok : HOk P w H h) (e : H a = some (.dK kvs)) : kvs.length ≤ sizeLine ∧ (a == sysModules) = false ∧ ∃ vs, KV kvs vs ∧ h.DictOf (mixKind P w) a vs := dk_rd ok (.inl e)
theorem key_of {ks : List Key} (ok : HOk P w H h) (e : H a = some (.tup (ks.map kV))) : (tupleKind (mixKind P w)).is h ks a := by
  obtain ⟨_, its, r, o, h1, h2, n, h3⟩ := (show ObjOk P w H h a (.tup (ks.map kV)) from ok a _ e)
  exact ⟨o, its.toArray, n, h1, h2, h3, by simpa using items_are r⟩
theorem dt_rd {kvs : List (List Key × V)} (ok : HOk P w H h) (e : Rd H a (.dT kvs)) : kvs.length ≤ sizeLine ∧ (a == sysModules) = false ∧
    ∃ xs, KT H kvs xs ∧ h.DictOfH (tupleKind (mixKind P w)) a xs := by
  obtain ⟨z, y, xs, r, o, es, ep, h1, h2, h3, h4, h5⟩ := (show ObjOk P w H h a (.dT kvs) from rd_of ok e)
  refine ⟨z, y, xs, r, o, es, ep, h1, h2, h3, h4, fun x hx => ?_, h5⟩
  have all : ∀ {l : List (List Key × V)} {m : List (List Key × Addr × Value)}, KT H l m → ∀ x ∈ m, (tupleKind (mixKind P w)).is h x.1 x.2.1 := by
    intro l m q
    induction q with
    | nil => intro x hx; exact nomatch hx
    | @cons p q ps qs hq t ih =>
      intro x hx
      rcases List.mem_cons.mp hx with e | hx
      · subst e
        exact key_of ok (by rw [← hq.1]; exact hq.2.1)
      · exact ih x hx
  exact all r x hx
theorem dt_of {kvs : List (List Key × V)} (ok : HOk P w H h) (e : H a = some (.dT kvs)) : kvs.length ≤ sizeLine ∧ (a == sysModules) = false ∧
    ∃ xs, KT H kvs xs ∧ h.DictOfH (tupleKind (mixKind P w)) a xs := dt_rd ok (.inl e)
end

def DGet (H : Hp) (a : Addr) (y : V) (r : Option V) : Prop :=
  (∃ kvs k, Rd H a (.dK kvs) ∧ y = kV k ∧ r = valV kvs k) ∨ ∃ kvs k b, Rd H a (.dT kvs) ∧ y = .ref b ∧ H b = some (.tup (k.map kV)) ∧ r = valV kvs k
def DPut (H : Hp) (a : Addr) (y v : V) (H' : Hp) : Prop :=
  (∃ kvs k, H a = some (.dK kvs) ∧ y = kV k ∧ kvs.length < sizeLine ∧ H' = upd H a (.dK (putK kvs k v))) ∨
  ∃ kvs k b, H a = some (.dT kvs) ∧ y = .ref b ∧ H b = some (.tup (k.map kV)) ∧ kvs.length < sizeLine ∧ H' = upd H a (.dT (putK kvs k v))
theorem DGet.k {H : Hp} {a : Addr} {kvs : List (Key × V)} {k : Key} (e : H a = some (.dK kvs)) : DGet H a (kV k) (valV kvs k) := .inl ⟨kvs, k, .inl e, rfl, rfl⟩
theorem DGet.t {H : Hp} {a b : Addr} {kvs : List (List Key × V)} {k : List Key} (e : H a = some (.dT kvs)) (eb : H b = some (.tup (k.map kV))) : DGet H a (.ref b) (valV kvs k) := .inr ⟨kvs, k, b, .inl e, rfl, eb, rfl⟩
theorem DPut.k {H : Hp} {a : Addr} {kvs : List (Key × V)} {k : Key} {v : V} (e : H a = some (.dK kvs)) (hl : kvs.length < sizeLine) : DPut H a (kV k) v (upd H a (.dK (putK kvs k v))) := .inl ⟨kvs, k, e, rfl, hl, rfl⟩
theorem DPut.t {H : Hp} {a b : Addr} {kvs : List (List Key × V)} {k : List Key} {v : V} (e : H a = some (.dT kvs)) (eb : H b = some (.tup (k.map kV))) (hl : kvs.length < sizeLine) :
    DPut H a (.ref b) v (upd H a (.dT (putK kvs k v))) := .inr ⟨kvs, k, b, e, rfl, eb, hl, rfl⟩


section
variable {X : Cx} {pins : List (Addr × Obj)} {σ : St} {H : Hp} {s : Shared} {a : Addr} {y v : V} {u r : Value} {o : Option V} {A : Around} {E : Value → Shared → Prop}

theorem Inv.big (I : Inv X pins σ H s) : sysModules < s.heap.objs.size := by
  have h : mainGlobals < s.heap.objs.size := (I.mod.glob.keeps I.bk).lt
  exact Nat.lt_trans (by decide) h

theorem d_getItem {Q : Value → Shared → Prop} (hu : A.units + 1 < cLine) (I : Inv X pins σ H s) (g : DGet H a y (some v)) (ry : RelV y u) (h : ∀ w' s', Inv X pins σ H s' → RelV v w' → Q w' s') :
    wpAny (model X.prog X.w) A (getItem (.ref a) u) Q E s := by
  rcases g with ⟨kvs, k, e, ey, l⟩ | ⟨kvs, k, b, e, ey, eb, l⟩
  · subst ey
    obtain ⟨z, hd, vs, rel, dd⟩ := dk_rd I.hok e
    obtain ⟨w', hw, rw'⟩ := RelO.some_of (v := v) (o := valueAt vs k) (by rw [l]; exact rel.val k)
    exact wpAny_getItem_of (kV_is ry) dd.mapOf hw (h w' _ (I.tok _) rw')
  · subst ey
    cases (show u = Value.ref b from ry)
    obtain ⟨z, hd, xs, rel, dd⟩ := dt_rd I.hok e
    obtain ⟨w', hw, rw'⟩ := RelO.some_of (v := v) (o := (atKey xs k).map (·.2)) (by rw [l]; exact rel.val k)
    obtain ⟨p, hp, hp2⟩ := Option.map_eq_some_iff.mp hw
    refine wpAny_getItem_heap (tupleKind_room_in1 hu) (key_of I.hok eb) dd hp ?_
    rw [hp2]
    exact h w' _ (I.tok _) rw'
theorem d_write {h' : Heap} {t' : Nat} {ob : HO} (I : Inv X pins σ H s) (mu : Mut (H a)) (hs : Heap.SameBut a s.heap h') (he : ∃ q, h'.get? a = some q) (new : ObjOk X.prog X.w (upd H a ob) h' a ob) :
    Inv X pins σ (upd H a ob) { s with heap := h', toks := t' } :=
  I.write (x := a) (e := a) mu (.inl rfl) (fun b q hb z => (hs.2 b hb).trans z) he new
theorem dk_new {P : Program} {w : World} {H' : Hp} {h' : Heap} {kvs : List (Key × V)} {vs : List (Key × Value)} (z : kvs.length ≤ sizeLine) (hd : (a == sysModules) = false) (rel : KV kvs vs) (dd : h'.DictOf (mixKind P w) a vs) :
    ObjOk P w H' h' a (.dK kvs) := ⟨z, hd, vs, rel, dd⟩
theorem d_setItem {H' : Hp} {Q : Unit → Shared → Prop} (hu : A.units + 1 < cLine) (I : Inv X pins σ H s) (g : DPut H a y v H') (ry : RelV y u) (rv : RelV v r) (h : ∀ s', Inv X pins σ H' s' → Q () s') :
    wpAny (model X.prog X.w) A (setItem (.ref a) u r) Q E s := by
  rcases g with ⟨kvs, k, e, ey, l, eH⟩ | ⟨kvs, k, b, e, ey, eb, l, eH⟩
  · subst ey eH
    obtain ⟨z, hd, vs, rel, dd⟩ := dk_of I.hok e
    have hz : vs.length ≤ sizeLine := by rw [← rel.length]; exact z
    have hl : (putK kvs k v).length ≤ sizeLine := by have := length_putK kvs k v; omega
    refine wpAny_setItem_pairs (hsz := hz) (kV_is ry) dd fun h' dd' hs => h _ ?_
    have he : ∃ q, h'.get? a = some q := let ⟨q, _, _, hq, _⟩ := dd'; ⟨q, hq⟩
    exact d_write I (by rw [e]; exact True.intro) hs he (dk_new hl hd (rel.put k rv) dd')
  · subst ey eH
    cases (show u = Value.ref b from ry)
    obtain ⟨z, hd, xs, rel, dd⟩ := dt_of I.hok e
    have hz : xs.length ≤ sizeLine := by rw [← Paired.length rel]; exact z
    have hl : (putK kvs k v).length ≤ sizeLine := by have := length_putK kvs k v; omega
    refine wpAny_setItem_heap (hsz := hz) (tupleKind_room_in1 hu) (key_of I.hok eb) dd fun h' dd' hs => h _ ?_
    obtain ⟨q, es, ep, hq, h2, h3, h4, _, h5⟩ := dd'
    refine d_write I (by rw [e]; exact True.intro) hs ⟨q, hq⟩ ⟨hl, hd, _, (rel.put k eb rv).keeps fun c ys ec => ?_, q, es, ep, hq, h2, h3, h4, h5⟩
    rw [upd_ne (ne_of ec e (fun z => nomatch z))]
    exact ec
end

section
variable {X : Cx} {pins : List (Addr × Obj)} {σ : St} {H : Hp} {s : Shared} {a : Addr} {kvs : List (Key × V)} {k : Key} {u : Value} {A : Around} {E : Value → Shared → Prop}
end


def NoSl (i : Expr) : Prop := ∀ ov iv, subscripted i false ov iv = operate [ov, iv] (getItem ov iv)
theorem subD_of {prog : Program} {w : World} {A : Around} {E : Value → Shared → Prop} {s : Shared} {env : Env} {value slice : Expr} {pos : Pos} {T id : String} {Q : Value → Shared → Prop}
    (hl : typeLookup (.type T) "__getitem__" = pure (some (.builtin id))) (hs : NoSl slice)
    (h : wpAny (model prog w) A (eval value env) (fun o s₁ => wpAny (model prog w) A (eval slice env) (fun i s₂ => s₂.TypeIs o T ∧ wpAny (model prog w) A (getItem o i) Q E s₂) E s₁) E s) :
    wpAny (model prog w) A (eval (.Subscript value slice pos) env) Q E s := by
  refine Subscript_ (wpAny_mono h (fun o s₁ h₁ => wpAny_mono h₁ (fun i s₂ h₂ => ?_) fun _ _ x => x) fun _ _ x => x)
  obtain ⟨hT, h₂⟩ := h₂
  unfold subscriptTail
  refine wpAny_bind ?_
  rw [getitemInPython_of_ne hT.not_modules]
  refine wpAny_bind (wpAny_specialOf hT hl ?_)
  have fin : wpAny (model prog w) A (subscripted slice false o i) (fun r s₃ => wpAny (model prog w) A (letTemporaryGo value o r >>= fun _ => pure r) Q E s₃) E s₂ := by
    rw [hs o i]
    exact wpAny_operating (wpAny_mono h₂ (fun r s₃ h₃ => wpAny_bind (wpAny_letTemporaryGo (wpAny_pure h₃))) fun _ _ x => x)
  first
    | exact wpAny_pure (wpAny_bind fin)
    | exact wpAny_bind (wpAny_pure (wpAny_bind fin))
    | exact wpAny_bind fin

theorem dict_typeIs {X : Cx} {pins : List (Addr × Obj)} {σ : St} {H : Hp} {s : Shared} {a : Addr} {y : V} {o : Option V} (I : Inv X pins σ H s) (g : DGet H a y o) : s.TypeIs (.ref a) "dict" := by
  rcases g with ⟨kvs, k, e, _, _⟩ | ⟨kvs, k, b, e, _, _, _⟩
  · obtain ⟨_, _, vs, _, dd⟩ := dk_rd I.hok e
    exact dd.typeIs
  · obtain ⟨_, _, xs, _, dd⟩ := dt_rd I.hok e
    exact dd.typeIs
def tDGet (td ty : TE) : TE := fun σ H Q => td σ H fun x H1 => ty σ H1 fun y H2 => ∃ a v, x = .ref a ∧ DGet H2 a y (some v) ∧ Q v H2
def sDPut (td ty tv : TE) : TS := fun D σ H => tv σ H fun v H1 => td σ H1 fun x H2 => ty σ H2 fun y H3 => ∃ a H4, x = .ref a ∧ DPut H3 a y v H4 ∧ D.nx σ H4
section
variable {X : Cx} {o i e value : Expr} {pos pos' tpos : Pos} {td ty tv : TE}
theorem pe_dget (hu : X.A.units + 1 < cLine) (ho : PE X o td) (hi : PE X i ty) (hs : NoSl i) : PE X (.Subscript o i pos) (tDGet td ty) := by
  intro pins s σ H Q I h
  refine subD_of PySem.F.slot_dict_getitem.lookup hs (thn (ho pins s σ H _ I h) fun u s1 ⟨x, H1, I1, rx, q1⟩ => thn (hi pins s1 σ H1 _ I1 q1) fun iv s2 ⟨y, H2, I2, ry, a, v, ex, g, q2⟩ => ?_)
  subst ex
  obtain rfl : u = Value.ref a := rx
  exact ⟨dict_typeIs I2 g, d_getItem hu I2 g ry fun w' s3 I3 rw' => ⟨v, H2, I3, rw', q2⟩⟩
theorem ps_dput (hu : X.A.units + 1 < cLine) (ho : PE X o td) (hi : PE X i ty) (hv : PE X value tv) (hs : swapsWith value (some (.Subscript o i pos')) pos.line X.env = pure false) :
    PS X (.Assign [.Subscript o i pos'] value pos) (sDPut td ty tv) := by
  intro pins s σ H D I h
  refine wpAny_Assign_Subscript (thn (hv pins s σ H _ I h) fun r s1 ⟨v, H1, I1, rv, q1⟩ => thn (ho pins s1 σ H1 _ I1 q1) fun u s2 ⟨x, H2, I2, rx, q2⟩ => thn (hi pins s2 σ H2 _ I2 q2) fun iv s3 ⟨y, H3, I3, ry, a, H4, ex, g, q3⟩ => ?_) hs
  subst ex
  obtain rfl : u = Value.ref a := rx
  exact d_setItem hu I3 g ry rv fun s4 I4 => ⟨σ, H4, I4, q3⟩
end


theorem dk_empty {P : Program} {w : World} {H : Hp} (h : Heap) (hb : sysModules < h.objs.size) : ObjOk P w H (h.push { cls := .type "dict", data := .dict #[] }) h.objs.size (.dK []) :=
  ⟨Nat.zero_le _, beq_eq_false_iff_ne.mpr (Ne.symm (Nat.ne_of_lt hb)), [], .nil, Heap.DictOf.new h⟩
def tDNewK : TE := fun _ H Q => ∀ p, H p = none → Q (.ref p) (upd H p (.dK []))
section
variable {X : Cx} {pos : Pos}
theorem pe_dnewK : PE X (.Dict [] [] pos) tDNewK := fun pins s σ H Q I h =>
  wpAny_Dict_empty ⟨.ref s.heap.objs.size, _, I.laid (a := s.heap.objs.size) (o := .dK []) (t' := s.toks) (fun _ _ q => Heap.get?_push_of_some _ q) (Nat.le_refl _) (dk_empty s.heap I.big), rfl, h _ (I.hok.fresh (Nat.le_refl _))⟩
end

def tPairs : List (TE × TE) → St → Hp → (List (V × V) → Hp → Prop) → Prop
  | [], _, H, Q => Q [] H
  | (tk, tv) :: r, σ, H, Q => tk σ H fun x H1 => tv σ H1 fun y H2 => tPairs r σ H2 fun ps H3 => Q ((x, y) :: ps) H3
abbrev VV : List (V × V) → List (Value × Value) → Prop := Paired fun p q => RelV p.1 q.1 ∧ RelV p.2 q.2
def PPs (X : Cx) (pos : Pos) (keys : List (Option Expr)) (values : List Expr) (trs : List (TE × TE)) : Prop :=
  ∀ (pins : List (Addr × Obj)) (s : Shared) (σ : St) (H : Hp) (Q : List (V × V) → Hp → Prop), Inv X pins σ H s → tPairs trs σ H Q →
    wpAny (model X.prog X.w) X.A (evalPairs (pairTrees keys values X.env pos)) (fun vs s' => ∃ ps H', Inv X pins σ H' s' ∧ VV ps vs ∧ Q ps H') X.xe s
theorem pps_nil {X : Cx} {pos : Pos} : PPs X pos [] [] [] := fun pins s σ H Q I h => pairTrees_nil_walk ⟨[], H, I, .nil, h⟩
theorem pps_cons {X : Cx} {pos : Pos} {k v : Expr} {ks : List (Option Expr)} {vs : List Expr} {tk tv : TE} {trs : List (TE × TE)} (hk : PE X k tk) (hv : PE X v tv) (hr : PPs X pos ks vs trs) :
    PPs X pos (some k :: ks) (v :: vs) ((tk, tv) :: trs) := fun pins s σ H Q I h =>
  pairTrees_cons_walk (thn (hk pins s σ H _ I h) fun u s1 ⟨x, H1, I1, rx, q1⟩ => thn (hv pins s1 σ H1 _ I1 q1) fun w2 s2 ⟨y, H2, I2, ry, q2⟩ =>
    thn (hr pins s2 σ H2 _ I2 q2) fun ws s3 ⟨ps, H3, I3, rel, q3⟩ => ⟨(x, y) :: ps, H3, I3, .cons ⟨rx, ry⟩ rel, q3⟩)

def mergeK (kvs more : List (Key × V)) : List (Key × V) := more.foldl (fun acc kv => putK acc kv.1 kv.2) kvs
theorem KV.merge : ∀ {more : List (Key × V)} {rs : List (Key × Value)} {kvs : List (Key × V)} {vs : List (Key × Value)}, KV more rs → KV kvs vs → KV (mergeK kvs more) (merged vs rs) := by
  intro more rs kvs vs r
  unfold KV at r
  induction r generalizing kvs vs with
  | nil => intro q; exact q
  | @cons p q ps qs h t ih =>
    intro r0
    have e : KV (putK kvs p.1 p.2) (stored vs q.1 q.2) := by
      have := r0.put p.1 h.2
      rw [← h.1]; exact this
    exact ih e
theorem length_mergeK : ∀ (more kvs : List (Key × V)), (mergeK kvs more).length ≤ kvs.length + more.length
  | [], kvs => by show kvs.length ≤ kvs.length + 0; omega
  | p :: r, kvs => by
    have h1 := length_mergeK r (putK kvs p.1 p.2)
    have h2 := length_putK kvs p.1 p.2
    show (mergeK (putK kvs p.1 p.2) r).length ≤ _
    rw [List.length_cons]; omega
theorem carries_of {P : Program} {w : World} : ∀ {kvs : List (Key × V)} {ws : List (Value × Value)}, VV (kvs.map fun kv => (kV kv.1, kv.2)) ws → ∃ rs, Carries (mixKind P w) ws rs ∧ KV kvs rs
  | [], _, r => by rw [List.map_nil] at r; cases r; exact ⟨[], True.intro, .nil⟩
  | p :: kvs, _, r => by
    rw [List.map_cons] at r
    cases r with
    | @cons a b as bs h t =>
      obtain ⟨rs, c, q⟩ := carries_of (P := P) (w := w) t
      obtain ⟨b1, b2⟩ := b
      exact ⟨(p.1, b2) :: rs, ⟨kV_is h.1, rfl, c⟩, .cons ⟨rfl, h.2⟩ q⟩
def tDisp (trs : List (TE × TE)) : TE := fun σ H Q => ∀ p, H p = none → tPairs trs σ (upd H p (.dK [])) fun ps H2 => H2 p = some (.dK []) ∧ ∃ kvs : List (Key × V), ps = kvs.map (fun kv => (kV kv.1, kv.2)) ∧ kvs.length ≤ 15 ∧ Q (.ref p) (upd H2 p (.dK (mergeK [] kvs)))
theorem pe_disp {X : Cx} {pos : Pos} {keys : List (Option Expr)} {values : List Expr} {trs : List (TE × TE)} (h : PPs X pos keys values trs) (hall : keys.all (·.isSome) = true) (hl : keys.length = values.length) (h0 : keys ≠ [])
    (h15 : keys.length ≤ 15) : PE X (.Dict keys values pos) (tDisp trs) := by
  intro pins s σ H Q I q
  have hn := I.hok.fresh (Nat.le_refl s.heap.objs.size)
  have I1 := I.laid (a := s.heap.objs.size) (o := .dK []) (h' := s.heap.push { cls := .type "dict", data := .dict #[] }) (t' := s.toks) (fun _ _ q => Heap.get?_push_of_some _ q) (Nat.le_refl _) (dk_empty s.heap I.big)
  refine wpAny_Dict_walk (knd := mixKind X.prog X.w) hall hl h0 h15 (thn (h pins _ σ _ _ I1 (q _ hn)) fun ws s2 ⟨ps, H2, I2, rel, e, kvs, ep, lk, q2⟩ => ?_)
  subst ep
  obtain ⟨rs, c, rk⟩ := carries_of (P := X.prog) (w := X.w) rel
  obtain ⟨z, hd, vs0, r0, dd⟩ := dk_of I2.hok e
  cases r0
  refine ⟨rs, c, dd, fun h' dd' hs => ⟨.ref s.heap.objs.size, _, ?_, rfl, q2⟩⟩
  have hz : (mergeK [] kvs).length ≤ sizeLine := by
    have h1 := length_mergeK kvs []
    rw [List.length_nil] at h1
    rw [sizeLine_eq]; omega
  have he : ∃ q, h'.get? s.heap.objs.size = some q := let ⟨q, _, _, hq, _⟩ := dd'; ⟨q, hq⟩
  exact d_write I2 (by rw [e]; exact True.intro) hs he (dk_new hz hd (rk.merge .nil) dd')


section
variable {X : Cx} {pins : List (Addr × Obj)} {σ : St} {H : Hp} {s : Shared} {a : Addr} {y d : V} {u r : Value} {o : Option V} {A : Around} {E : Value → Shared → Prop}
end

section
variable {X : Cx} {o e f : Expr} {apos cpos : Pos} {td ty tx : TE}
end

section
variable {X : Cx} {pins : List (Addr × Obj)} {σ : St} {H : Hp} {s : Shared} {a : Addr} {kvs : List (Key × V)} {A : Around} {E : Value → Shared → Prop}
end


section
variable {X : Cx} {pins : List (Addr × Obj)} {σ : St} {H : Hp} {s : Shared} {a : Addr} {y : V} {u : Value} {A : Around} {E : Value → Shared → Prop}
end
end L2

namespace L2
open PySem PySem.Spec PyProof.Rows

section
variable {prog : Program} {w : World} {A : Around} {E : Value → Shared → Prop}
end

section
variable {X : Cx}
end
end L2

namespace L2
open PySem PySem.Spec PyProof.Rows

section
variable {X : Cx} {pins : List (Addr × Obj)} {σ : St} {H : Hp} {s : Shared} {h' : Heap}
theorem Inv.turnedL {t' : Nat} {ch : List Addr} (I : Inv X pins σ H s) (k : ∀ b o, b ∉ ch → s.heap.get? b = some o → h'.get? b = some o) (hf : ∀ b ∈ ch, FpOk X pins H b) : Inv X pins σ H { s with heap := h', toks := t' } := by
  have nit : ∀ b u, H b = some u → b ∉ ch := fun b u e z => by
    have q := (hf b z).1
    rw [q] at e; cases e
  refine I.step (g' := s.gens) (d' := s.drawn) (ch := ch) (fun b hb => ⟨(hf b hb).2.2.2.1, (hf b hb).2.1, (hf b hb).2.2.2.2.1, (hf b hb).2.2.2.2.2⟩) (fun b o _ _ hc e _ => k b o hc e) (fun b o _ _ hc e _ => ⟨o.slots, k b o hc e⟩)
    (fun _ _ _ _ n => n) (fun b o hc e => ⟨o, k b o hc e⟩) (fun _ _ e => e) (fun _ _ _ e => e) (fun b ps e => ⟨#[], by rw [e]; simp⟩) (fun m hm => ?_) (fun b u e => ?_) I.bare
  · obtain ⟨o, es, ep, ho, r⟩ := hm
    exact ⟨o, es, ep, k _ o (fun z => (hf _ z).2.1 rfl) ho, r⟩
  · refine (I.hok b u e).stay (fun c v hc q => k c v ?_ q) (fun _ q => q) fun _ _ q => q
    rcases hc with z | z
    · rw [z]; exact nit b u e
    · exact nit c _ z
theorem Inv.turnedNew {t' : Nat} {ch : List Addr} {T : Addr} {ob : HO} (I : Inv X pins σ H s) (k : ∀ b o, b ∉ ch → s.heap.get? b = some o → h'.get? b = some o) (hf : ∀ b ∈ ch, FpOk X pins H b) (hT : s.heap.objs.size ≤ T)
    (new : ObjOk X.prog X.w (upd H T ob) h' T ob) : Inv X pins σ (upd H T ob) { s with heap := h', toks := t' } := by
  have hn : H T = none := I.hok.fresh hT
  have nit : ∀ b u, H b = some u → b ∉ ch := fun b u e z => by
    have q := (hf b z).1
    rw [q] at e; cases e
  refine I.step (g' := s.gens) (d' := s.drawn) (ch := ch) (fun b hb => ⟨(hf b hb).2.2.2.1, (hf b hb).2.1, (hf b hb).2.2.2.2.1, (hf b hb).2.2.2.2.2⟩) (fun b o _ _ hc e _ => k b o hc e) (fun b o _ _ hc e _ => ⟨o.slots, k b o hc e⟩)
    (fun b o _ e n => ?_) (fun b o hc e => ⟨o, k b o hc e⟩) (fun b xs e => ?_) (fun b o u e => ?_) (fun b ps e => ⟨#[], ?_⟩) (fun m hm => ?_) (fun b u e => ?_) I.bare
  · rw [upd_ne (Nat.ne_of_lt (Nat.lt_of_lt_of_le (Heap.lt_size e) hT))]; exact n
  · rw [upd_ne (ne_of_none e hn)]; exact e
  · rw [upd_ne (ne_of_none e hn)]; exact e
  · rw [upd_ne (ne_of_none e hn), e]; simp
  · obtain ⟨o, es, ep, ho, r⟩ := hm
    exact ⟨o, es, ep, k _ o (fun z => (hf _ z).2.1 rfl) ho, r⟩
  · by_cases hb : b = T
    · subst hb
      rw [upd_same] at e
      cases e
      exact new
    · rw [upd_ne hb] at e
      refine (I.hok b u e).stay (fun c v hc q => k c v ?_ q) (fun c q => by rw [upd_ne (ne_of_none q hn)]; exact q) fun c xs q => by rw [upd_ne (ne_of_none q hn)]; exact q
      rcases hc with z | z
      · rw [z]; exact nit b u e
      · exact nit c _ z

theorem Inv.lock {d : Addr} {u : HO} (I : Inv X pins σ H s) (h : H d = some u) (mu : Mut (some u)) : ∃ od, Inv X pins σ (upd H d (.frz od u)) s := by
  have x := I.hok d u h
  have ex : ∃ od, s.heap.get? d = some od := by
    cases u with
    | lst xs => obtain ⟨_, _, _, _, e⟩ := x; exact ⟨_, e⟩
    | dK kvs => obtain ⟨_, _, _, _, o, _, _, e, _⟩ := x; exact ⟨o, e⟩
    | dT kvs => obtain ⟨_, _, _, _, o, _, _, e, _⟩ := x; exact ⟨o, e⟩
    | set S n => obtain ⟨o, _, _, _, e, _⟩ := x; exact ⟨o, e⟩
    | ins C dx fs => obtain ⟨_, _, _, e, _⟩ := x; exact ⟨_, e⟩
    | ext φ => obtain ⟨_, ⟨_, e⟩, _⟩ := x; exact ⟨_, e⟩
    | _ => exact False.elim mu
  obtain ⟨od, e⟩ := ex
  have new : ObjOk X.prog X.w (upd H d (.frz od u)) s.heap d (.frz od u) := by
    refine ⟨e, x.stay (fun b v _ q => q) (fun b q => ?_) fun b xs q => ?_⟩
    · rw [upd_ne (fun z => by rw [z, h] at q; cases q; exact mu)]; exact q
    · rw [upd_ne (fun z => by rw [z, h] at q; cases q; exact mu)]; exact q
  exact ⟨od, I.write (x := d) (e := d) (t' := s.toks) (h' := s.heap) (by rw [h]; exact mu) (.inl rfl) (fun b v _ q => q) ⟨od, e⟩ new⟩
theorem Inv.nofrz {d : Addr} {u : HO} (I : Inv X pins σ H s) (h : H d = some u) (mu : Mut (some u)) : ∀ o' u', X.H_0 d ≠ some (.frz o' u') := fun o' u' e => by
  have q := I.base.frzs d o' u' e
  rw [h] at q
  cases q
  exact mu
theorem Inv.unlock {d : Addr} {od : Obj} {u : HO} (I : Inv X pins σ H s) (h : H d = some (.frz od u)) (hn : ∀ o' u', X.H_0 d ≠ some (.frz o' u')) : Inv X pins σ (upd H d u) s := by
  have neH : ∀ b o, H b = some o → (∀ o' u', o ≠ .frz o' u') → b ≠ d := fun b o e hne z => by
    rw [z, h] at e
    cases e
    exact hne _ _ rfl
  have neN : ∀ b, H b = none → b ≠ d := fun b e z => by rw [z, h] at e; cases e
  refine ⟨I.ok, I.os, I.bare, ⟨I.base.keep, I.base.slot, fun b o e n hx => ?_, I.base.there, fun b xs e => ?_, fun b o x e => ?_, fun b ps e => ?_⟩, I.loc, I.cell, ?_, fun x c e => ?_, fun p hp => ?_, fun b o e => ?_, I.len⟩
  · rw [upd_ne (neN b (I.base.free b o e n hx))]; exact I.base.free b o e n hx
  · have q := I.base.tups b xs e
    rw [upd_ne (neH b _ q (fun _ _ z => nomatch z))]; exact q
  · have q := I.base.frzs b o x e
    rw [upd_ne (fun z => by rw [z] at e; exact hn _ _ e)]; exact q
  · obtain ⟨m, q⟩ := I.base.tbls b ps e
    exact ⟨m, by rw [upd_ne (neH b _ q (fun _ _ z => nomatch z))]; exact q⟩
  · rw [upd_ne (neN _ I.free)]; exact I.free
  · rw [upd_ne (neN c (I.freeC x c e))]; exact I.freeC x c e
  · obtain ⟨e, n, r⟩ := I.pin p hp
    exact ⟨e, by rw [upd_ne (neN _ n)]; exact n, r⟩
  · by_cases hb : b = d
    · rw [hb, upd_same] at e
      cases e
      rw [hb]
      obtain ⟨_, x⟩ := I.hok d _ h
      exact x.stay (fun c v _ q => q) (fun c q => by rw [upd_ne (neH c _ q (fun _ _ z => nomatch z))]; exact q) fun c xs q => by rw [upd_ne (neH c _ q (fun _ _ z => nomatch z))]; exact q
    · rw [upd_ne hb] at e
      exact (I.hok b o e).stay (fun c v _ q => q) (fun c q => by rw [upd_ne (neH c _ q (fun _ _ z => nomatch z))]; exact q) fun c xs q => by rw [upd_ne (neH c _ q (fun _ _ z => nomatch z))]; exact q
end
def tLock (t : TS) : TS := fun D σ H => ∃ d u, H d = some u ∧ Mut (some u) ∧ ∀ od, t ⟨fun σ' H' => H' d = some (.frz od u) ∧ D.nx σ' (upd H' d u), fun v H' => H' d = some (.frz od u) ∧ D.rt v (upd H' d u), fun σ' H' => H' d = some (.frz od u) ∧ D.bk σ' (upd H' d u), fun σ' H' => H' d = some (.frz od u) ∧ D.ct σ' (upd H' d u)⟩ σ (upd H d (.frz od u))
def tLockE (t : TE) : TE := fun σ H Q => ∃ d u, H d = some u ∧ Mut (some u) ∧ ∀ od, t σ (upd H d (.frz od u)) fun v H' => H' d = some (.frz od u) ∧ Q v (upd H' d u)
section
variable {X : Cx}
theorem ps_lock {st : Stmt} {t : TS} (h : PS X st t) : PS X st (tLock t) := by
  intro pins s σ H D I hw
  obtain ⟨d, u, hd, mu, hw⟩ := hw
  obtain ⟨od, I1⟩ := I.lock hd mu
  refine thn (h pins s σ _ _ I1 (hw od)) fun f s1 q => ?_
  cases f with
  | next => obtain ⟨σ', H', I2, e, q⟩ := q; exact ⟨σ', _, I2.unlock e (I.nofrz hd mu), q⟩
  | brk => obtain ⟨σ', H', I2, e, q⟩ := q; exact ⟨σ', _, I2.unlock e (I.nofrz hd mu), q⟩
  | cont => obtain ⟨σ', H', I2, e, q⟩ := q; exact ⟨σ', _, I2.unlock e (I.nofrz hd mu), q⟩
  | ret v => obtain ⟨x, σ', H', I2, r, e, q⟩ := q; exact ⟨x, σ', _, I2.unlock e (I.nofrz hd mu), r, q⟩
theorem pe_lock {e : Expr} {t : TE} (h : PE X e t) : PE X e (tLockE t) := by
  intro pins s σ H Q I hw
  obtain ⟨d, u, hd, mu, hw⟩ := hw
  obtain ⟨od, I1⟩ := I.lock hd mu
  refine thn (h pins s σ _ _ I1 (hw od)) fun v s1 ⟨x, H1, I2, r, e2, q⟩ => ?_
  exact ⟨x, _, I2.unlock e2 (I.nofrz hd mu), r, q⟩

theorem pi_one {tg : Expr} {pins : List (Addr × Obj)} {σ : St} {H : Hp} {s : Shared} {R : It → Hp → Prop} {J : It} {tn : Nat → Heap → Prop} {tk : Nat} (I : Inv X pins σ H s) (o : Obj)
    (T : Turn X.prog X.w X.K tg J [s.heap.objs.size] s.heap.objs.size tn) (st : tn 0 (s.heap.push o)) (q : R J H) : PIE X pins σ tg R (.ref s.heap.objs.size) { s with heap := s.heap.push o, toks := tk } := by
  refine ⟨s.heap.objs.size, [s.heap.objs.size], tn, J, H, rfl, I.kept fun b ob e => Heap.get?_push_of_some _ e, T, st, fun b hb => ?_, q⟩
  have e : b = s.heap.objs.size := by simpa using hb
  subst e
  exact I.fpOk (Nat.le_refl _) (I.hok.fresh (Nat.le_refl _))
end

def RgC (i j c : Int) (n : Nat) : Prop := c ≠ 0 ∧ c.natAbs < 1073741824 ∧ Builtin.Range.small i j c = true ∧ Builtin.Range.rangeSize i j c = n
theorem RgC.neg {i j : Int} (ha : -(2 ^ 62) ≤ i) (ha' : i < 2 ^ 62) (hb : -(2 ^ 62) ≤ j) (hb' : j < 2 ^ 62) : RgC i j (-1) (i - j).toNat :=
  ⟨by decide, by decide, PySem.W.small_down ha ha' hb hb', PySem.W.rangeSize_downNat i j⟩
section
variable {X : Cx} {tg : Expr}
end
section
variable {X : Cx} {tg : Expr}
end

section
variable {prog : Program} {w : World} {A : Around} {E : Value → Shared → Prop} {s : Shared}
theorem iter_keys {d : Addr} {o : Obj} {es : Array DictEntry} {ep : Nat} {Q : Value → Shared → Prop} (hd : (d == sysModules) = false) (ho : s.heap.get? d = some o) (hc : o.ExactDict) (hdat : o.data = .dict es ep)
    (hQ : Q (.ref s.heap.objs.size) { s with heap := s.heap.push { cls := .type "dict_keyiterator", data := .fields #[.ref d, .int 0 0, .int es.size 0, .int ep 0] } }) :
    wpAny (model prog w) A (pyIter (.ref d)) Q E s := by
  have hT : s.TypeIs (.ref d) "dict" := ⟨o, ho, hc.1⟩
  refine wpAny_pyIter_slot hT F.slot_dict_iter (wpAny_call_entry F.slot_dict_iter hT F.entry_dict_iter ?_ (F.args_dict_iter_1 _))
  unfold Builtin.«dict.__iter__»
  refine wpAny_bind ?_
  unfold Builtin.Dict.dictSlotNone
  refine wpAny_bind (wpAny_notOrdered_dict hT ?_)
  show wpAny _ _ (pure (Value.ref d)) _ _ s
  refine wpAny_pure ?_
  show wpAny _ _ (Builtin.Dict.showsAll d >>= _) _ _ s
  unfold Builtin.Dict.showsAll
  rw [if_neg (by rw [hd]; exact Bool.false_ne_true)]
  refine wpAny_bind (wpAny_pure ?_)
  refine wpAny_bind (wpAny_dictEntries ho hdat ?_)
  refine wpAny_bind (wpAny_dictEpoch ho hdat ?_)
  refine wpAny_bind (wpAny_newObj_type (wpAny_pure ⟨_, rfl, "dict_keyiterator", _, ⟨_, Heap.get?_push_size _ rfl, rfl⟩, F.slot_dict_keyiterator_next.lookup, ?_⟩))
  simpa [rawInt] using hQ
theorem next_key_item {it d : Addr} {i n ep : Nat} {od : Obj} {es : Array DictEntry} {en : DictEntry} {Q : Option Value → Shared → Prop} (hit : s.heap.IsKeyIter it d i n ep) (hod : s.heap.get? d = some od) (hdd : od.data = .dict es ep)
    (hsz : es.size = n) (hx : es[i]? = some en) (hQ : ∀ h', h'.IsKeyIter it d (i + 1) n ep → Heap.SameBut it s.heap h' → Q (some en.key) { s with heap := h' }) : wpAny (model prog w) A (pyNext (.ref it)) Q E s := by
  obtain ⟨o, ho, hc, hd⟩ := id hit
  unfold pyNext
  refine wpAny_bind (wpAny_attempt (wpAny_callSpecial?_slot (name := Str.ofString "__next__") hit.typeIs F.slot_dict_keyiterator_next
    (wpAny_call_entry F.slot_dict_keyiterator_next hit.typeIs F.entry_dict_keyiterator_next ?_ (F.args_dict_keyiterator_next_1 _))))
  refine wpAny_bind (wpAny_pure ?_)
  refine wpAny_bind ?_
  refine wpAny_bind ?_
  first | refine wpAny_bind (wpAny_typeNameOfWhole_keyiter hit.typeIs (wpAny_pure ?_)) | refine wpAny_bind (wpAny_typeNameOf_keyiter hit.typeIs (wpAny_pure ?_))
  refine wpAny_bind (wpAny_fieldsOf ho hd ?_)
  have hown : Builtin.Dict_items.ownsTuple "dict_keyiterator" = false := by decide
  simp only [hown, Bool.false_eq_true, if_false]
  show wpAny _ _ (if (Value.ref d == Value.none) = true then _ else _) _ _ s
  rw [if_neg (show ¬ ((Value.ref d == Value.none) = true) from Bool.false_ne_true)]
  refine wpAny_bind (wpAny_pure ?_)
  refine wpAny_bind (wpAny_dictEntries hod hdd ?_)
  rw [if_neg (by rw [hsz]; simp)]
  refine wpAny_bind (wpAny_pure ?_)
  refine wpAny_bind (wpAny_dictEpoch hod hdd ?_)
  rw [if_neg (by simp)]
  refine wpAny_pure ?_
  obtain ⟨hlt', hen⟩ := Array.getElem?_eq_some_iff.mp hx
  simp only [show ¬ ((i : Int) < 0) from by omega, if_false, Int.toNat_natCast, Array.getElem?_eq_getElem hlt']
  refine wpAny_bind ?_
  first | refine wpAny_bind (wpAny_typeNameOfWhole_keyiter hit.typeIs (wpAny_pure ?_)) | refine wpAny_bind (wpAny_typeNameOf_keyiter hit.typeIs (wpAny_pure ?_))
  refine wpAny_bind (wpAny_isOneOf_keyiter hit.typeIs ?_)
  show wpAny _ _ (setField (.ref it) 1 (rawInt ((i : Int) + 1)) >>= _) _ _ s
  refine wpAny_bind (wpAny_setField ho hd (by simp) ?_)
  have hit' : (s.heap.update it (Obj.mapFields (·.setIfInBounds 1 (rawInt ((i : Int) + 1))))).IsKeyIter it d (i + 1) n ep :=
    ⟨_, Heap.get?_update_self _ ho (Obj.isFreed_of_fields (Obj.data_mapFields hd _)), (Obj.cls_mapFields ..).trans hc, by rw [Obj.data_mapFields hd]; simp [rawInt]⟩
  refine wpAny_bind (wpAny_holding ?_)
  refine wpAny_bind (wpAny_isOneOf_keyiter (s := { s with heap := s.heap.update it (Obj.mapFields (·.setIfInBounds 1 (rawInt ((i : Int) + 1)))) }) hit'.typeIs ?_)
  show wpAny _ _ (pure es[i].key) _ _ _
  rw [hen]
  exact wpAny_pure (wpAny_pure ⟨_, rfl, wpAny_pure (hQ _ hit' (Heap.SameBut.update ..))⟩)
theorem next_key_end {it d : Addr} {i n ep : Nat} {od : Obj} {es : Array DictEntry} {Q : Option Value → Shared → Prop} (hh : A.handled = none) (hit : s.heap.IsKeyIter it d i n ep) (hod : s.heap.get? d = some od) (hdd : od.data = .dict es ep)
    (hsz : es.size = n) (hge : n ≤ i) (hQ : ∀ h', Heap.ExtBut it s.heap h' → Q none { s with heap := h' }) : wpAny (model prog w) A (pyNext (.ref it)) Q E s := by
  obtain ⟨o, ho, hc, hd⟩ := id hit
  unfold pyNext
  refine wpAny_bind (wpAny_attempt (wpAny_callSpecial?_slot (name := Str.ofString "__next__") hit.typeIs F.slot_dict_keyiterator_next
    (wpAny_call_entry F.slot_dict_keyiterator_next hit.typeIs F.entry_dict_keyiterator_next ?_ (F.args_dict_keyiterator_next_1 _))))
  refine wpAny_bind (wpAny_pure ?_)
  refine wpAny_bind ?_
  refine wpAny_bind ?_
  first | refine wpAny_bind (wpAny_typeNameOfWhole_keyiter hit.typeIs (wpAny_pure ?_)) | refine wpAny_bind (wpAny_typeNameOf_keyiter hit.typeIs (wpAny_pure ?_))
  refine wpAny_bind (wpAny_fieldsOf ho hd ?_)
  have hown : Builtin.Dict_items.ownsTuple "dict_keyiterator" = false := by decide
  simp only [hown, Bool.false_eq_true, if_false]
  show wpAny _ _ (if (Value.ref d == Value.none) = true then _ else _) _ _ s
  rw [if_neg (show ¬ ((Value.ref d == Value.none) = true) from Bool.false_ne_true)]
  refine wpAny_bind (wpAny_pure ?_)
  refine wpAny_bind (wpAny_dictEntries hod hdd ?_)
  rw [if_neg (by rw [hsz]; simp)]
  refine wpAny_bind (wpAny_pure ?_)
  refine wpAny_bind (wpAny_dictEpoch hod hdd ?_)
  rw [if_neg (by simp)]
  refine wpAny_pure ?_
  have hge' : es.size ≤ i := by rw [hsz]; exact hge
  simp only [show ¬ ((i : Int) < 0) from by omega, if_false, Int.toNat_natCast, Array.getElem?_eq_none hge']
  refine wpAny_bind ?_
  first | refine wpAny_bind (wpAny_typeNameOfWhole_keyiter hit.typeIs (wpAny_pure ?_)) | refine wpAny_bind (wpAny_typeNameOf_keyiter hit.typeIs (wpAny_pure ?_))
  show wpAny _ _ (setField (.ref it) 0 .none >>= _) _ _ s
  refine wpAny_bind (wpAny_setField ho hd (by simp) ?_)
  show wpAny _ _ (newExc (.type "StopIteration") [] >>= _) _ _ _
  refine wpAny_bind ?_
  simp only [newExc, newTuple]
  refine wpAny_bind (wpAny_newObj_type ?_ (by size_fits))
  refine wpAny_bind (m := firstArgMember _ _) (wpAny_of_eq (a := Value.none) (by first | rfl | (simp only [firstArgMember]; rfl)) ?_)
  refine wpAny_newObj_type ?_ (by size_fits)
  simp only [raiseNew]
  refine wpAny_bind (wpAny_handled ?_)
  rw [show A.in1.handled = none from hh]
  refine wpAny_bind (wpAny_pure (wpAny_throw ?_))
  refine wpAny_bind (wpAny_isInstance (T := "StopIteration") (b := true) ⟨_, Heap.get?_push_size _ rfl, rfl⟩ isSubtype_stop ?_)
  exact wpAny_pure (hQ _ (((Heap.SameBut.update ..).extBut.push _).push _))
end

theorem kv_get {κ : Type} {kvs : List (κ × V)} {vs : List (κ × Value)} (h : KV kvs vs) : ∀ {i : Nat} {k : κ} {v : V}, kvs[i]? = some (k, v) → ∃ u, vs[i]? = some (k, u) ∧ RelV v u := by
  unfold KV at h
  induction h with
  | nil => intro i k v e; simp at e
  | @cons a b l₁ l₂ r t ih =>
    intro i k v e
    cases i with
    | zero =>
      simp only [List.getElem?_cons_zero, Option.some.injEq] at e
      subst e
      refine ⟨b.2, ?_, r.2⟩
      simp only [List.getElem?_cons_zero]
      exact congrArg some (Prod.ext r.1.symm rfl)
    | succ j =>
      simp only [List.getElem?_cons_succ] at e ⊢
      exact ih e
theorem paired_get {α β : Type} {G : α → β → Prop} {l₁ : List α} {l₂ : List β} (h : Paired G l₁ l₂) : ∀ {i : Nat} {a : α}, l₁[i]? = some a → ∃ b, l₂[i]? = some b ∧ G a b := by
  induction h with
  | nil => intro i a e; simp at e
  | @cons a b l₁ l₂ r t ih =>
    intro i a' e
    cases i with
    | zero =>
      simp only [List.getElem?_cons_zero, Option.some.injEq] at e
      subst e
      exact ⟨b, rfl, r⟩
    | succ j =>
      simp only [List.getElem?_cons_succ] at e ⊢
      exact ih e
theorem relV_key {k : Key} {u : Value} (h : keyIs k u = true) : RelV (kV k) u := by
  rcases keyIs_shape h with ⟨i, t, rfl, rfl⟩ | ⟨x, t, rfl, rfl⟩
  · exact ⟨t, rfl⟩
  · exact ⟨t, rfl⟩
section
variable {X : Cx} {pins : List (Addr × Obj)} {σ : St} {H : Hp} {s : Shared} {d : Addr} {o : Obj}
theorem Inv.frzK {kvs : List (Key × V)} (I : Inv X pins σ H s) (h : H d = some (.frz o (.dK kvs))) :
    (d == sysModules) = false ∧ s.heap.get? d = some o ∧ o.ExactDict ∧ ∃ (es : Array DictEntry) (ep : Nat) (vs : List (Key × Value)), o.data = .dict es ep ∧ es.size = kvs.length ∧ KV kvs vs ∧ s.heap.DictAt (mixKind X.prog X.w) d vs ep := by
  obtain ⟨hd, z, hs, vs, kv, o', es, ep, ho, hx, hdt, r⟩ := I.hok d _ h
  rw [hd] at ho
  cases ho
  refine ⟨hs, hd, hx, es, ep, vs, hdt, ?_, kv, o, es, hd, hx, hdt, r⟩
  have l1 := r.2.1.length
  have l2 : kvs.length = vs.length := Paired.length kv
  rw [Array.length_toList] at l1
  omega
theorem Inv.frzT {kvs : List (List Key × V)} (I : Inv X pins σ H s) (h : H d = some (.frz o (.dT kvs))) :
    (d == sysModules) = false ∧ s.heap.get? d = some o ∧ o.ExactDict ∧ ∃ (es : Array DictEntry) (ep : Nat), o.data = .dict es ep ∧ es.size = kvs.length ∧
      ∀ (i : Nat) (k : List Key) (v : V), kvs[i]? = some (k, v) → ∃ (en : DictEntry) (q : Addr), es[i]? = some en ∧ en.key = .ref q ∧ H q = some (.tup (k.map kV)) := by
  obtain ⟨hd, z, hs, xs, pr, o', es, ep, ho, hx, hdt, he, _⟩ := I.hok d _ h
  rw [hd] at ho
  cases ho
  refine ⟨hs, hd, hx, es, ep, hdt, ?_, fun i k v e => ?_⟩
  · have l1 : es.size = xs.length := size_of_entries he
    have l2 : kvs.length = xs.length := Paired.length pr
    omega
  · obtain ⟨b, hb, e1, e2, _⟩ := paired_get pr e
    have q := entry_at he i
    rw [hb] at q
    exact ⟨_, b.2.1, q, rfl, e2⟩
end

def Itk (d : Addr) (o : Obj) (kvs : List (Key × V)) : It :=
  ⟨fun i H => H d = some (.frz o (.dK kvs)) ∧ i < kvs.length, fun i H x H' => H' = H ∧ ∃ k v, kvs[i]? = some (k, v) ∧ x = kV k, fun i H => H d = some (.frz o (.dK kvs)) ∧ kvs.length ≤ i⟩
def Itkt (d : Addr) (o : Obj) (kvs : List (List Key × V)) : It :=
  ⟨fun i H => H d = some (.frz o (.dT kvs)) ∧ i < kvs.length, fun i H x H' => H' = H ∧ ∃ (k : List Key) (v : V) (q : Addr), kvs[i]? = some (k, v) ∧ x = .ref q ∧ H q = some (.tup (k.map kV)), fun i H => H d = some (.frz o (.dT kvs)) ∧ kvs.length ≤ i⟩
theorem dict_ep {o : Obj} {es es' : Array DictEntry} {ep ep' : Nat} (h : o.data = .dict es ep) (h' : o.data = .dict es' ep') : es' = es ∧ ep' = ep := by
  rw [h] at h'
  cases h'
  exact ⟨rfl, rfl⟩
section
variable {P : Program} {w : World} {K : PySem.W.Frag} {tg : Expr} {d : Addr} {o : Obj} {es : Array DictEntry} {ep : Nat}
theorem turn_keys {kvs : List (Key × V)} (it : Addr) (hod : o.data = .dict es ep) : Turn P w K tg (Itk d o kvs) [it] it (fun i h => h.IsKeyIter it d i kvs.length ep) where
  mem := by simp
  obj := fun i h st b hb => by
    have e : b = it := by simpa using hb
    subst e
    obtain ⟨oi, e, c, dd⟩ := st
    exact ⟨oi, e, fun v z => by rw [dd] at z; cases z⟩
  keep := fun i h h' st k => st.at fun oi e => k it (by simp) oi e
  item := by
    intro X hP hw hK hc i pins s σ H E I hf st hg
    subst hP hw hK
    obtain ⟨hd, hi⟩ := hg
    obtain ⟨f0, f1, f2, f3, f4, f5⟩ := hf it (by simp)
    obtain ⟨hs, hgd, hx, es', ep', vs, hdt, hsz, kv, hm⟩ := I.frzK hd
    obtain ⟨rfl, rfl⟩ := dict_ep hod hdt
    obtain ⟨⟨k, v⟩, hkv⟩ : ∃ p, kvs[i]? = some p := ⟨kvs[i], List.getElem?_eq_getElem hi⟩
    obtain ⟨u, hu, ru⟩ := kv_get kv hkv
    have hl : kvs.length = vs.length := Paired.length kv
    rw [hl] at st
    refine wpAny_pyNext_dict_item st hm hu fun key h' hkey st' sb => ?_
    have I1 : Inv X pins σ H { s with heap := h' } := I.turned (t' := s.toks) (fun b ob hb e => (sb.2 b hb).trans e) f0 f1 f3 f4 f5
    obtain ⟨oi, e, c, dd⟩ := id st'
    refine ⟨key, rfl, go_of (s := { s with heap := h' }) e c dd (by decide) ⟨kV k, H, I1, relV_key (show keyIs k key = true from hkey), ⟨rfl, k, v, hkv, rfl⟩, ?_, fun b hb => (hf b hb).1⟩⟩
    show h'.IsKeyIter it d (i + 1) kvs.length _
    rw [hl]
    exact st'
  done := by
    intro X hP hw hK hc i pins s σ H E I hf st hg
    subst hP hw hK
    obtain ⟨hd, hi⟩ := hg
    obtain ⟨f0, f1, f2, f3, f4, f5⟩ := hf it (by simp)
    obtain ⟨hs, hgd, hx, es', ep', vs, hdt, hsz, kv, hm⟩ := I.frzK hd
    obtain ⟨rfl, rfl⟩ := dict_ep hod hdt
    exact next_key_end (I.ok.hd hc) st hgd hdt hsz hi fun h' eb => ⟨rfl, I.turned (t' := s.toks) (fun b ob hb e => eb b ob hb e) f0 f1 f3 f4 f5⟩
  self := fun A i s Q E st h => wpAny_pyIter_keyiter st h
theorem turn_keysT {kvs : List (List Key × V)} (it : Addr) (hod : o.data = .dict es ep) : Turn P w K tg (Itkt d o kvs) [it] it (fun i h => h.IsKeyIter it d i kvs.length ep) where
  mem := by simp
  obj := fun i h st b hb => by
    have e : b = it := by simpa using hb
    subst e
    obtain ⟨oi, e, c, dd⟩ := st
    exact ⟨oi, e, fun v z => by rw [dd] at z; cases z⟩
  keep := fun i h h' st k => st.at fun oi e => k it (by simp) oi e
  item := by
    intro X hP hw hK hc i pins s σ H E I hf st hg
    subst hP hw hK
    obtain ⟨hd, hi⟩ := hg
    obtain ⟨f0, f1, f2, f3, f4, f5⟩ := hf it (by simp)
    obtain ⟨hs, hgd, hx, es', ep', hdt, hsz, ent⟩ := I.frzT hd
    obtain ⟨rfl, rfl⟩ := dict_ep hod hdt
    obtain ⟨⟨k, v⟩, hkv⟩ : ∃ p, kvs[i]? = some p := ⟨kvs[i], List.getElem?_eq_getElem hi⟩
    obtain ⟨en, q, hen, hkey, hq⟩ := ent i k v hkv
    refine next_key_item st hgd hdt hsz hen fun h' st' sb => ?_
    have I1 : Inv X pins σ H { s with heap := h' } := I.turned (t' := s.toks) (fun b ob hb e => (sb.2 b hb).trans e) f0 f1 f3 f4 f5
    obtain ⟨oi, e, c, dd⟩ := id st'
    exact ⟨en.key, rfl, go_of (s := { s with heap := h' }) e c dd (by decide) ⟨.ref q, H, I1, hkey, ⟨rfl, k, v, q, hkv, rfl, hq⟩, st', fun b hb => (hf b hb).1⟩⟩
  done := by
    intro X hP hw hK hc i pins s σ H E I hf st hg
    subst hP hw hK
    obtain ⟨hd, hi⟩ := hg
    obtain ⟨f0, f1, f2, f3, f4, f5⟩ := hf it (by simp)
    obtain ⟨hs, hgd, hx, es', ep', hdt, hsz, ent⟩ := I.frzT hd
    obtain ⟨rfl, rfl⟩ := dict_ep hod hdt
    exact next_key_end (I.ok.hd hc) st hgd hdt hsz hi fun h' eb => ⟨rfl, I.turned (t' := s.toks) (fun b ob hb e => eb b ob hb e) f0 f1 f3 f4 f5⟩
  self := fun A i s Q E st h => by
    refine wpAny_pyIter_slot st.typeIs F.slot_dict_keyiterator_iter (wpAny_call_entry F.slot_dict_keyiterator_iter st.typeIs F.entry_dict_keyiterator_iter ?_ (F.args_dict_keyiterator_iter_1 _))
    show wpAny _ _ (ret (.ref it)) _ _ s
    exact wpAny_pure ⟨_, rfl, "dict_keyiterator", _, st.typeIs, F.slot_dict_keyiterator_next.lookup, h⟩
end

def iKeys (td : TE) : TI := fun σ H R => td σ H fun x H1 => ∃ d o, x = .ref d ∧ ((∃ kvs, H1 d = some (.frz o (.dK kvs)) ∧ R (Itk d o kvs) H1) ∨ ∃ kvs, H1 d = some (.frz o (.dT kvs)) ∧ R (Itkt d o kvs) H1)
section
variable {X : Cx} {tg e : Expr} {td : TE} {apos cpos : Pos}
theorem pi_keys (he : PE X e td) : PI X tg e (iKeys td) := by
  intro pins s σ H R I h
  refine thn (he pins s σ H _ I h) fun u s1 ⟨x, H1, I1, rx, d, o, ex, q⟩ => ?_
  subst ex
  obtain rfl : u = Value.ref d := rx
  rcases q with ⟨kvs, hd, q⟩ | ⟨kvs, hd, q⟩
  · obtain ⟨hs, hgd, hx, es, ep, vs, hdt, hsz, kv, hm⟩ := I1.frzK hd
    refine iter_keys hs hgd hx hdt (pi_one (tk := s1.toks) I1 _ (turn_keys _ hdt) ⟨_, Heap.get?_push_size _ rfl, rfl, ?_⟩ q)
    rw [hsz] <;> rfl
  · obtain ⟨hs, hgd, hx, es, ep, hdt, hsz, ent⟩ := I1.frzT hd
    refine iter_keys hs hgd hx hdt (pi_one (tk := s1.toks) I1 _ (turn_keysT _ hdt) ⟨_, Heap.get?_push_size _ rfl, rfl, ?_⟩ q)
    rw [hsz] <;> rfl
end

def Ite (K : PySem.W.Frag) (a : Addr) : It :=
  ⟨fun i H => ∃ (xs : List V) (x : V), SqL K H a xs ∧ xs[i]? = some x, fun i H v H' => ∃ T x, v = .ref T ∧ H T = none ∧ H' = upd H T (.tup [.int (i : Nat), x]) ∧ ∀ xs, SqL K H a xs → xs[i]? = some x, fun i H => ∃ xs : List V, SqL K H a xs ∧ xs.length ≤ i⟩
theorem turn_enum {P : Program} {w : World} {K : PySem.W.Frag} {elts : List Expr} {kk : Nat} {tpos : Pos} (a e it : Addr) :
    Turn P w K (.Tuple elts kk tpos) (Ite K a) [e, it] e (fun i h => (∃ old, IsEnum h e it ((i : Nat) : Int) old) ∧ h.IsListIter it a i ∧ e ≠ it) where
  mem := by simp
  obj := fun i h st b hb => by
    obtain ⟨⟨old, he⟩, ⟨o, ho, hc, hd⟩, _⟩ := st
    have e' : b = e ∨ b = it := by simpa using hb
    rcases e' with z | z
    · rw [z]; exact ⟨_, he, fun v q => nomatch q⟩
    · rw [z]; exact ⟨o, ho, fun v q => by rw [hd] at q; cases q⟩
  keep := fun i h h' st k => let ⟨⟨old, he⟩, hi, hne⟩ := st; ⟨⟨old, k e (by simp) _ he⟩, hi.at fun o q => k it (by simp) o q, hne⟩
  item := by
    intro X hP hw hK hc i pins s σ H E I hf st hg
    subst hP hw hK
    obtain ⟨⟨old, he⟩, hit, hne⟩ := st
    obtain ⟨xs, x, hq, hx⟩ := hg
    obtain ⟨its, rv, p, hz⟩ := I.list hq
    obtain ⟨u, hu, ru⟩ := rv.get hx
    have hel : e < s.heap.objs.size := Heap.lt_size he
    have hil : it < s.heap.objs.size := by obtain ⟨_, q, _⟩ := hit; exact Heap.lt_size q
    refine wpAny_pyNext_enum_item he hit p.isList (x := u) (by simpa using hu) hne fun h' ho hit' hT hsz hk => ?_
    refine ⟨_, rfl, wpAny_letOwnedTupleGo_enum (s := { s with heap := h', toks := s.toks + 1 }) ho fun h'' he' sb => ?_⟩
    have hT2 : h''.get? s.heap.objs.size = some { cls := .type "tuple", data := .seq #[.int i s.toks, u] } := (sb.2 _ (Nat.ne_of_gt hel)).trans hT
    have new : ObjOk X.prog X.w (upd H s.heap.objs.size (.tup [.int (i : Nat), x])) h'' s.heap.objs.size (.tup [.int (i : Nat), x]) :=
      ⟨by show 2 ≤ sizeLine; decide, [.int i s.toks, u], .cons ⟨_, rfl⟩ (.cons ru .nil), ⟨_, hT2, rfl, _, rfl⟩⟩
    have I1 : Inv X pins σ (upd H s.heap.objs.size (.tup [.int (i : Nat), x])) { s with heap := h'', toks := s.toks + 1 } :=
      I.turnedNew (ch := [e, it]) (fun b ob hb q => (sb.2 b (fun z => hb (by simp [z]))).trans (hk b ob (fun z => hb (by simp [z])) (fun z => hb (by simp [z])) q)) hf (Nat.le_refl _) new
    refine ⟨.ref s.heap.objs.size, _, I1, rfl, ⟨_, x, rfl, I.hok.fresh (Nat.le_refl _), rfl, fun ys hy => by rw [I.list_inj hy hq]; exact hx⟩, ⟨⟨u, ?_⟩, hit'.at fun o q => (sb.2 it (Ne.symm hne)).trans q, hne⟩, fun b hb => ?_⟩
    · have e1 : ((i + 1 : Nat) : Int) = (i : Int) + 1 := by omega
      rw [e1]; exact he'
    · have hb' : b < s.heap.objs.size := by
        have e' : b = e ∨ b = it := by simpa using hb
        rcases e' with z | z
        · rw [z]; exact hel
        · rw [z]; exact hil
      rw [upd_ne (Nat.ne_of_lt hb')]
      exact (hf b hb).1
  done := by
    intro X hP hw hK hc i pins s σ H E I hf st hg
    subst hP hw hK
    obtain ⟨⟨old, he⟩, hit, hne⟩ := st
    obtain ⟨xs, hq, hx⟩ := hg
    obtain ⟨its, rv, p, hz⟩ := I.list hq
    obtain ⟨f0, f1, f2, f3, f4, f5⟩ := hf it (by simp)
    have hl := rv.length
    exact wpAny_pyNext_enum_end (I.ok.hd hc) he hit p.isList (by simp; omega) fun h' eb => ⟨rfl, I.turned (t' := s.toks) (fun b o hb q => eb b o hb q) f0 f1 f3 f4 f5⟩
  self := fun A i s Q E st h => let ⟨⟨_, he⟩, _⟩ := st; wpAny_pyIter_enum he h
def iEnum (K : PySem.W.Frag) (ta : TA) : TI := fun σ H R => ta σ H fun vs H1 => ∃ a xs, vs = [.ref a] ∧ SqL K H1 a xs ∧ R (Ite K a) H1
theorem pi_enum {X : Cx} {e : Expr} {ta : TA} {p pos tpos : Pos} {elts : List Expr} {kk : Nat} (hg : Gl X "enumerate") (hm : X.mg "enumerate" = none) (ha : PA X [e] ta) (hs : starEach [e] X.env = [(false, eval e X.env)] := by rfl) :
    PI X (.Tuple elts kk tpos) (.Call (.Name "enumerate" p) [e] [] pos) (iEnum X.K ta) := by
  intro pins s σ H R I h
  refine Call_ (ld_blt I hg hm boot_enumerate (PyProof.Rows.callWith_type1 (thn (ha pos pins s σ H _ I h) fun us s1 ⟨vs, H1, I1, r1, q1⟩ => ?_) hs rfl))
  obtain ⟨a, xs, ex, hq, q⟩ := q1
  subst ex
  cases r1 with
  | cons r rr =>
    cases rr
    cases r
    obtain ⟨its, rv, p', hz⟩ := I1.list hq
    refine call_enumerate_list p'.isList fun h' he hit hsz hk => wpAny_pyIter_enum he ?_
    have I2 : Inv X pins σ H1 { s1 with heap := h' } := I1.kept (t' := s1.toks) hk
    refine ⟨s1.heap.objs.size + 1, [s1.heap.objs.size + 1, s1.heap.objs.size], _, _, H1, rfl, I2, turn_enum a (s1.heap.objs.size + 1) s1.heap.objs.size, ⟨⟨.none, he⟩, hit, Nat.succ_ne_self _⟩, fun b hb => ?_, q⟩
    have e' : b = s1.heap.objs.size + 1 ∨ b = s1.heap.objs.size := by simpa using hb
    have hle : s1.heap.objs.size ≤ b := by
      rcases e' with z | z
      · rw [z]; exact Nat.le_add_right _ _
      · rw [z]; exact Nat.le_refl _
    exact I1.fpOk hle (I1.hok.fresh hle)
theorem boot_zip5 : bootBuiltins "zip" = some (.type "zip") := by decide +kernel
end L2

section 
namespace Bits
open PySem PyProof.Rows

end Bits
end 

section 
namespace TL
open PySem PySem.Builtin PySem.Builtin.Str PySem.StrLaws

abbrev tl (x : Str) : List Nat := x.cps.toList
def pre (S l : List Nat) : Bool := l.take S.length == S
def par (S : List Nat) : List Nat → List Nat → Option (List Nat × List Nat)
  | _, [] => none
  | acc, c :: r => if pre S (c :: r) = true then some (acc, (c :: r).drop S.length) else par S (acc ++ [c]) r

end TL
end 

namespace L2
open PySem PySem.Spec PyProof.Rows

section
variable {X : Cx} {pins : List (Addr × Obj)} {σ : St} {H : Hp} {s : Shared} {Q : VK}
end

section
variable {X : Cx}

end

section
variable {X : Cx} {o e : Expr} {to te : TE}
end
end L2

namespace L2
open PySem PySem.Spec PyProof.Rows

section
variable {X : Cx}
end

end L2

namespace Att
open PySem PySem.W PySem.Calls PyProof.Rows

theorem ints_of_wellAll {P : Params} {h : Heap} : ∀ (ns : List Int) (vs : List Value), WellAll P h vs (ns.map WData.int) → IntsAre vs ns := by
  intro ns
  induction ns with
  | nil =>
    intro vs w
    rw [List.map_nil] at w
    cases w
    exact .nil
  | cons n ns ih =>
    intro vs w
    rw [List.map_cons] at w
    cases w with
    | cons a b =>
      cases a
      exact .cons _ _ (ih _ b)

theorem script_of {l : OpenLaw} {n : Nat} (hn : l.most = some n) {P : Params} {h : Heap} {args : List WData} {vals : List Value}
    (hpre : l.row.toRowW.claim.pre args = true) (hwl : WellAll P h vals args) :
    ∃ a vs ns, vals = [Value.ref a] ∧ args = [WData.list (ns.map WData.int)] ∧ h.get? a = some { cls := .type "list", data := .seq vs.toArray } ∧ IntsAre vs ns ∧ ns.length ≤ n := by
  have hsh : WShape.hasAll [] args [.list .int] = true := (pre_splitW hpre).1
  have hc : l.pre.holds [] { args := args } = true := (pre_splitW hpre).2
  obtain ⟨d, r, rfl, h1, h2⟩ := hasAllW_cons hsh
  obtain rfl := hasAllW_nil h2
  obtain ⟨xs, rfl, h3⟩ := hasW_list h1
  obtain ⟨ns, rfl⟩ := items_int h3
  have hlen : ns.length ≤ n := by
    unfold OpenLaw.pre at hc
    have h4 : (WTm.not (.lt (.lit (.int (n : Int))) (.len (.arg 0)))).holds [] { args := [.list (ns.map .int)] } = true := by
      have h4 := (holds_andW hc).1
      rw [hn] at h4
      exact h4
    have h5 := condW_of h4 (w_not (w_lt w_lit (w_len_list (w_arg rfl))))
    rw [List.length_map] at h5
    refine Nat.le_of_not_lt fun q => ?_
    have q' : (n : Int) < ((ns.length : Nat) : Int) := by omega
    first
      | (rw [decide_eq_true q'] at h5; exact absurd h5 (by decide))
      | (simp at h5; omega)
  cases hwl with
  | cons w1 w2 =>
    cases w2
    cases w1 with
    | list ho hall => exact ⟨_, _, ns, rfl, rfl, ho, ints_of_wellAll ns _ hall, hlen⟩

theorem post_true (l : OpenLaw) (args : List WData) : l.row.toRowW.claim.post args (.bool true) args = true :=
  postW_of (r := l.row.toRowW) (X := (true == true))
    (show WShape.has [] (.bool true) .bool = true by first | rfl | decide | simp [WShape.has, WShape.arms, WShape.armsAll])
    (show (WTm.eq .res (.lit (.bool true))).value [] { args := args, res := some (.bool true), after := args } = some (.bool (true == true)) from w_eq_bool (w_res rfl) w_lit) rfl

theorem attach_call {l : OpenLaw} {n : Nat} {q : Program} {loose : List Str} {XP : (Str → Option Value) → Heap → Prop} {YP : World → Heap → Prop} {d : DefRec}
    (hn : l.most = some n) (hdf : d.params.defaults = [])
    (call : ∀ (w : World) (s₀ s₁ : Shared) (mg mb : Str → Option Value) (fa : Addr) (o : Obj) (pm cd doc : Value) (a : Addr) (vs : List Value) (ns : List Int),
      Ground q loose [] XP w s₀ mg mb s₁.heap → YP w s₁.heap →
      s₁.heap.get? fa = some o → o.data = .func (docDef d.name d.params d.body d.scope pm cd doc) → s₁.heap.CodeRec cd d.name → mg d.name = some (.ref fa) →
      s₁.heap.get? a = some { cls := .type "list", data := .seq vs.toArray } → IntsAre vs ns → ns.length ≤ n → s₁.gens = #[] →
      codeAny (model l.prog w) callerA (.call (.ref fa) ⟨[.ref a], []⟩) (fun r s' => r = .ok (.ret (.bool true)) ∧ OldK s₁.heap s'.heap ∧ s'.os = s₁.os ∧ AllBare s'.gens) s₁) :
    WalkO q loose XP YP l.row.toRowW d [] (fun f vs => PySem.call f vs) := by
  intro w s₀ s₁ mg mb G Y fa o pm cd doc dV kV ho hd hcd hD hmg hg args vals as hpre hlay hrd hwl hlo
  obtain rfl : dV = .none := Dflts.none hD hdf
  obtain rfl : kV = .none := Dflts.noKw hD
  obtain ⟨a, vs, ns, rfl, rfl, hobj, hints, hlen⟩ := script_of hn hpre hwl
  refine enter_call (codeAny_mono (call w s₀ s₁ mg mb fa o pm cd doc a vs ns G Y ho (fd_plain hd) hcd hmg hobj hints hlen hg) fun r s' hq => ?_)
  obtain ⟨rfl, h2, h3, h4⟩ := hq
  exact ⟨.inl ⟨.bool true, .bool true, [], rfl, fun _ => rfl, .bool true, post_true l _, fun _ => ⟨List.Pairwise.nil, fun _ hm => (nomatch hm)⟩⟩, h2, h3, h4⟩

section
variable {prog : Program} {w : World} {A : Around} {E : Value → Shared → Prop} {s : Shared} {K : Frag}

end
end Att

namespace L2
open PySem PySem.Spec PyProof.Rows

theorem vals_ints : ∀ {vs : List Value} {ns : List Int}, IntsAre vs ns → Vals (ns.map V.int) vs
  | _, _, .nil => .nil
  | _, _, .cons n t h => .cons ⟨t, rfl⟩ (vals_ints h)

def Only (H : Hp) : Prop := ∀ b, H b = none ∨ ∃ o xs, H b = some (.frz o (.lst xs))

theorem law_call {P : Program} {w : World} {K : PySem.W.Frag} {mg mb : Str → Option Value} {CX : CXT} {k : Nat} {fa a : Addr} {fd : FuncData} {x : Str} {sp : Sp} {s₁ : Shared} {vs : List Value} {ns : List Int}
    (KX : K.In s₁.heap) (hns : s₁.heap.Ns mainGlobals mg) (hb : s₁.heap.Ns builtinsNs mb) (hbb : ∀ x : Str, x ≠ "__name__" → mb x = bootBuiltins x) (hlim : s₁.heap.NoLimit) (hg : s₁.gens = #[])
    (ha : s₁.heap.get? a = some { cls := .type "list", data := .seq vs.toArray }) (hi : IntsAre vs ns) (hl : ns.length ≤ sizeLine) (hr : Room k callerA)
    (F : ∀ base : Heap, K.In base → base.Ns mainGlobals mg → FnOk P w K mg base CX k fa fd [x] sp) (hbind : ∀ (s : Shared) (u : Value), BindsTo s fd ⟨[u], []⟩ [(x, u)])
    (hsp : ∀ H : Hp, Only H → SqL K H a (ns.map V.int) → sp [.ref a] H (fun v _ => v = .bl true) fun _ _ _ => False)
    (hCX : ∀ H e s', CX [] H s₁ (fun _ _ _ => False) e s' → False) :
    codeAny (model P w) callerA (.call (.ref fa) ⟨[.ref a], []⟩) (fun r s' => r = .ok (.ret (.bool true)) ∧ OldK s₁.heap s'.heap ∧ s'.os = s₁.os ∧ AllBare s'.gens) s₁ := by
  have rv := vals_ints hi
  have lenV := hi.length
  have core : ∀ H : Hp, Only H → SqL K H a (ns.map V.int) → HOk P w H s₁.heap → (∀ b, H b ≠ none → b = a) → (H a ≠ none → K.lookup a = none) →
      codeAny (model P w) callerA (.call (.ref fa) ⟨[.ref a], []⟩) (fun r s' => r = .ok (.ret (.bool true)) ∧ OldK s₁.heap s'.heap ∧ s'.os = s₁.os ∧ AllBare s'.gens) s₁ := by
    intro H hO hS hok hA hK
    have base_of : ∀ {b : Addr} {o : Obj}, s₁.heap.get? b = some o → H b = none → (hidT s₁.heap H).get? b = some o := fun e n => hidT_get e n
    have noA : ∀ {b : Addr} {o : Obj} {es : Array DictEntry} {ep : Nat}, s₁.heap.get? b = some o → o.data = .dict es ep → H b = none := fun {b o es ep} e d => by
      cases q : H b with
      | none => rfl
      | some u =>
        have e' : b = a := hA b (by rw [q]; simp)
        subst e'
        rw [ha] at e; cases e
        have d' : Data.seq vs.toArray _ = Data.dict es ep := d
        cases d'
    have nsK : ∀ {b : Addr} {m : Str → Option Value}, s₁.heap.Ns b m → (hidT s₁.heap H).Ns b m := fun {b m} ⟨o, es, ep, e, d, r⟩ => ⟨o, es, ep, base_of e (noA e d), d, r⟩
    have hKb : K.In (hidT s₁.heap H) := fun b o e => base_of (KX b o e) (by
      cases q : H b with
      | none => rfl
      | some u =>
        have e' : b = a := hA b (by rw [q]; simp)
        subst e'
        rw [hK (by rw [q]; simp)] at e; cases e)
    have hM : Mod K mg (hidT s₁.heap H) := ⟨hKb, nsK hns, ⟨mb, nsK hb, hbb⟩, let ⟨mc, h1, h2⟩ := hlim; ⟨mc, nsK h1, h2⟩⟩
    have e0 : Env0 P w K mg (hidT s₁.heap H) callerA [] s₁ H := ⟨rfl, hM, fun b o e => of_hidT e, Nat.le_of_eq (hidT_size _ _), trivial, fun b hb => absurd (show b ∈ ([] : List Addr) from hb) (by simp), hok, .of_eq hg⟩
    refine codeAny_mono ((F _ hKb (nsK hns)).run callerA [] s₁ H ⟨[.ref a], []⟩ [.ref a] [.ref a] _ _ hr e0 (hbind s₁ (.ref a)) (.cons rfl .nil) (hsp H hO hS)) fun r s' h => ?_
    cases r with
    | error e => exact (hCX H e s' h).elim
    | ok fl =>
      cases fl with
      | next => exact False.elim h
      | brk => exact False.elim h
      | cont => exact False.elim h
      | ret u =>
        obtain ⟨v, H', os, bare, un, hok', r', q⟩ := h
        have q' : v = .bl true := q
        subst q'
        obtain rfl : u = Value.bool true := r'
        refine ⟨rfl, OldK.of_keep fun b o e => ?_, os, bare⟩
        cases q : H b with
        | none => exact un.keep b o e q (by intro z; exact absurd (show b ∈ ([] : List Addr) from z) (by simp)) (by simp)
        | some u =>
          rcases hO b with z | ⟨ob, xs, z⟩
          · rw [q] at z; cases z
          · have z2 := un.frzs b ob _ z
            obtain ⟨e1, _⟩ := hok b _ z
            obtain ⟨e2, _⟩ := hok' b _ z2
            rw [e] at e1; cases e1
            exact e2
  cases hk : K.lookup a with
  | some o =>
    have e := KX a o hk
    rw [ha] at e
    cases e
    refine core (fun _ => none) (fun _ => .inl rfl) (.inr ⟨_, vs.toArray, _, hk, rfl, rfl, rfl, by rw [List.size_toArray, lenV]; exact hl, by simpa using rv⟩) (fun b u z => by have z' : (none : Option HO) = some u := z; cases z') (fun b z => absurd rfl z) fun z => absurd rfl z
  | none =>
    refine core (fun b => if b = a then some (.frz { cls := .type "list", data := .seq vs.toArray } (.lst (ns.map V.int))) else none) (fun b => ?_) (.inl (.inr ⟨{ cls := .type "list", data := .seq vs.toArray }, if_pos rfl⟩)) (fun b u z => ?_) (fun b z => ?_) fun _ => hk
    · by_cases hb : b = a
      · exact .inr ⟨_, _, if_pos hb⟩
      · exact .inl (if_neg hb)
    · by_cases hb : b = a
      · have z' := (if_pos hb).symm.trans z
        cases z'
        subst hb
        exact ⟨ha, by rw [List.length_map]; exact hl, vs, _, rv, ha⟩
      · have z' := (if_neg hb).symm.trans z
        cases z'
    · by_cases hb : b = a
      · exact hb
      · exact absurd (if_neg hb) z
end L2

namespace L2
open PySem PySem.Spec PyProof.Rows

theorem walk_of {l : PySem.W.OpenLaw} {n k : Nat} {q : Program} {loose : List Str} {XP : (Str → Option Value) → Heap → Prop} {YP : World → Heap → Prop} {d : DefRec} {K : Params → PySem.W.Frag} {CX : World → CXT} {sp : World → Sp} {x : Str}
    (hn : l.most = some n) (hn2 : n ≤ sizeLine) (hdf : d.params.defaults = []) (hr : Room k callerA)
    (hY : ∀ (w : World) (h : Heap), YP w h → (K w.params).In h)
    (F : ∀ (w : World) (mg : Str → Option Value) (fa : Addr) (h : Heap), (K w.params).In h → h.Ns mainGlobals mg → mg d.name = some (.ref fa) →
      ∃ fd : FuncData, (∀ (s : Shared) (u : Value), BindsTo s fd ⟨[u], []⟩ [(x, u)]) ∧
        ∀ base : Heap, (K w.params).In base → base.Ns mainGlobals mg → FnOk l.prog w (K w.params) mg base (CX w) k fa fd [x] (sp w))
    (hsp : ∀ (w : World) (H : Hp) (a : Addr) (ns : List Int), ns.length ≤ n → Only H → SqL (K w.params) H a (ns.map V.int) → sp w [.ref a] H (fun v _ => v = .bl true) fun _ _ _ => False)
    (hCX : ∀ (w : World) (H : Hp) (s : Shared) (e : Value) (s' : Shared), CX w [] H s (fun _ _ _ => False) e s' → False) :
    PySem.W.WalkO q loose XP YP l.row.toRowW d [] (fun f vs => PySem.call f vs) := by
  refine Att.attach_call hn hdf fun w s₀ s₁ mg mb fa o pm cd doc a vs ns G Y ho hd hcd hmg hobj hints hlen hg => ?_
  have KX := hY w _ Y
  obtain ⟨fd, hb, hF⟩ := F w mg fa _ KX G.T.g hmg
  exact law_call KX G.T.g G.T.b G.T.builtins G.T.nolimit hg hobj hints (Nat.le_trans hlen hn2) hr hF hb (fun H hO hS => hsp w H a ns hlen hO hS) fun H e s' => hCX w H s₁ e s'
theorem walk_ofK {l : PySem.W.OpenLaw} {n k : Nat} {q : Program} {loose : List Str} {XP : (Str → Option Value) → Heap → Prop} {YP : World → Heap → Prop} {d : DefRec} {K : Params → PySem.W.Frag} {CX : CXT} {sp : PySem.W.Frag → Sp} {x : Str}
    (hn : l.most = some n) (hn2 : n ≤ sizeLine) (hdf : d.params.defaults = []) (hr : Room k callerA)
    (hY : ∀ (w : World) (h : Heap), YP w h → (K w.params).In h)
    (F : ∀ (w : World) (mg : Str → Option Value) (fa : Addr) (h : Heap), (K w.params).In h → h.Ns mainGlobals mg → mg d.name = some (.ref fa) →
      ∃ fd : FuncData, (∀ (s : Shared) (u : Value), BindsTo s fd ⟨[u], []⟩ [(x, u)]) ∧
        ∀ base : Heap, (K w.params).In base → base.Ns mainGlobals mg → FnOk l.prog w (K w.params) mg base CX k fa fd [x] (sp (K w.params)))
    (hsp : ∀ (K : PySem.W.Frag) (H : Hp) (a : Addr) (ns : List Int), ns.length ≤ n → Only H → SqL K H a (ns.map V.int) → sp K [.ref a] H (fun v _ => v = .bl true) fun _ _ _ => False)
    (hCX : ∀ (H : Hp) (s : Shared) (e : Value) (s' : Shared), CX [] H s (fun _ _ _ => False) e s' → False) :
    PySem.W.WalkO q loose XP YP l.row.toRowW d [] (fun f vs => PySem.call f vs) :=
  walk_of (K := K) (CX := fun _ => CX) (sp := fun w => sp (K w.params)) hn hn2 hdf hr hY F (fun w H a ns h1 h2 h3 => hsp (K w.params) H a ns h1 h2 h3) fun _ H s e s' => hCX H s e s'
end L2


namespace L2
open PySem PySem.Spec PyProof.Rows

def inClass (s : Stmt) (j : Nat) : Stmt := match s with
  | .ClassDef _ _ _ body _ _ _ _ _ _ _ => body.getD j (.Pass ⟨0, 0, 0, 0⟩)
  | _ => .Pass ⟨0, 0, 0, 0⟩
def defArgs (s : Stmt) : Arguments := match s with
  | .FunctionDef _ a _ _ _ _ _ _ _ _ => a
  | _ => { posonlyargs := [], args := [], vararg := none, kwonlyargs := [], kw_defaults := [], kwarg := none, defaults := [] }
def defBody (s : Stmt) : List Stmt := match s with
  | .FunctionDef _ _ b _ _ _ _ _ _ _ => b
  | _ => []
def defScope (s : Stmt) : Scope := match s with
  | .FunctionDef _ _ _ _ _ _ sc _ _ _ => sc
  | _ => { kind := .function, names := [], isGenerator := false, isCoroutine := false }

abbrev CX0 : CXT := fun _ _ _ _ _ _ => False
abbrev E0 : XK := fun _ _ _ => False
theorem pass0 {X : Cx} : Passes CX0 X E0 := fun _ _ _ _ _ _ _ h => h.elim

structure Fun (K : PySem.W.Frag) (x qual : Str) (st : Stmt) (f : Addr) (fd : FuncData) : Prop where
  ex : ∃ (oc : Value) (od : Option Addr) (kV doc pm : Value) (an : Option Addr) (cdv ct : Value) (osl : Array (Option Value)),
    fd = PySem.W.fnOf x qual (defArgs st) (defBody st) (defScope st) .none kV doc pm an cdv ct ∧ K.lookup f = some ⟨oc, od, .func fd, osl⟩ ∧ PySem.W.codeIn K cdv qual = true
  kp : PySem.W.keepIn K (.ref f) = true
section
variable {P : Program} {w : World} {K : PySem.W.Frag} {mg : Str → Option Value} {base : Heap}
theorem Fun.ok {x qual : Str} {st : Stmt} {f : Addr} {fd : FuncData} {N ps : List Str} {k : Nat} {sp : Sp} (F : Fun K x qual st f fd) (S : FnScope N ps (defScope st)) (len : ∀ vs H Q E, sp vs H Q E → vs.length = ps.length)
    (hbody : ∀ (cdv : Value) (A : Around) (outer : List Env) (s : Shared) (H : Hp) (vs : List V) (Q : VK) (E : XK), Room k (A.deeper (envOfC qual (defScope st) s.heap.objs.size f cdv)) → sp vs H Q E →
      ∃ t, PSs (cxOf CX0 P w K mg base N qual (defScope st) f cdv A outer s H E).nox (defBody st) t ∧ t { nx := fun _ H' => Q .non H', rt := Q } (start N vs) H) : FnOk P w K mg base CX0 (k + 1) f fd ps sp := by
  obtain ⟨oc, od, kV, doc, pm, an, cdv, ct, osl, rfl, lk, hcd⟩ := F.ex
  refine fn_of lk hcd S len fun A outer s H vs Q E hr hsp => ?_
  obtain ⟨t, h, q⟩ := hbody cdv A outer s H vs Q E hr hsp
  exact ⟨t, h.nox, q⟩
theorem Fun.binds {x qual : Str} {st : Stmt} {f : Addr} {fd : FuncData} {ps : List Str} (F : Fun K x qual st f fd)
    (h : ∀ (kV doc pm : Value) (an : Option Addr) (cdv ct : Value) (us : List Value), us.length = ps.length → bindArgs (PySem.W.fnOf x qual (defArgs st) (defBody st) (defScope st) .none kV doc pm an cdv ct) ⟨us, []⟩ = pure (ps.zip us)) : Binds K fd ps [] := by
  obtain ⟨oc, od, kV, doc, pm, an, cdv, ct, osl, rfl, lk, hcd⟩ := F.ex
  exact .all (h kV doc pm an cdv ct)
theorem fun_mk {x qual : Str} {st : Stmt} {f : Addr} {oc : Value} {od an : Option Addr} {osl : Array (Option Value)} {kV doc pm cdv ct : Value} (l : K.lookup f = some ⟨oc, od, .func (PySem.W.fnOf x qual (defArgs st) (defBody st) (defScope st) .none kV doc pm an cdv ct), osl⟩)
    (c : PySem.W.codeIn K cdv qual = true) (k : PySem.W.keepIn K (.ref f) = true) : Fun K x qual st f (PySem.W.fnOf x qual (defArgs st) (defBody st) (defScope st) .none kV doc pm an cdv ct) := ⟨⟨oc, od, kV, doc, pm, an, cdv, ct, osl, rfl, l, c⟩, k⟩
end
theorem small1000 {n : Nat} (h : n ≤ 1000) : n < sizeLine := Nat.lt_of_le_of_lt h (by decide)

section
variable {X : Cx}
theorem pv (i : Nat) {x : Str} {pos : Pos} (hN : X.N[i]? = some x := by rfl) (hv : Vis X.env.scope x := by first | exact Or.inl rfl | exact Or.inr (Or.inl rfl) | exact Or.inr (Or.inr rfl)) (hd : (x == ("__debug__" : Str)) = false := by decide)
    (hcd : (x == ("__classdict__" : Str)) = false := by decide) : PE X (.Name x pos) (tVar i) := pe_var hN hv hd hcd
end

theorem iteF {A B : Prop} (h : B) : if false = true then A else B := by
  rw [if_neg Bool.false_ne_true]
  exact h
theorem iteT {A B : Prop} (h : A) : if true = true then A else B := by
  rw [if_pos rfl]
  exact h
theorem ite2 {c A B : Prop} [Decidable c] (h1 : c → A) (h2 : ¬ c → B) : if c then A else B := by
  by_cases h : c
  · rw [if_pos h]
    exact h1 h
  · rw [if_neg h]
    exact h2 h
def Same (H H' : Hp) : Prop := ∀ b o, H b = some o → H' b = some o
theorem Same.refl (H : Hp) : Same H H := fun _ _ h => h
theorem Same.trans {H H1 H2 : Hp} (a : Same H H1) (b : Same H1 H2) : Same H H2 := fun c o h => b c o (a c o h)
theorem Same.free {H H' : Hp} (e : Same H H') {l : Addr} (h : H' l = Option.none) : H l = Option.none := by
  cases q : H l with
  | none => rfl
  | some o =>
    rw [e l o q] at h
    cases h
theorem Same.seq {K : PySem.W.Frag} {H H' : Hp} {a : Addr} {xs : List V} (e : Same H H') (h : SqL K H a xs) : SqL K H' a xs := by
  rcases h with (h | ⟨o, h⟩) | h
  · exact .inl (.inl (e _ _ h))
  · exact .inl (.inr ⟨o, e _ _ h⟩)
  · exact .inr h

section
variable {κ : Type} [DecidableEq κ]
theorem valV_not {kvs : List (κ × V)} {k : κ} (h : valV kvs k = none) : ¬ k ∈ kvs.map (·.1) := by
  intro m
  obtain ⟨p, hp, e⟩ := List.mem_map.mp m
  have q : (kvs.any fun kv => decide (kv.1 = k)) = true := List.any_eq_true.mpr ⟨p, hp, decide_eq_true e⟩
  rw [valV_any, h] at q
  exact absurd q (by simp)
theorem valV_in {kvs : List (κ × V)} {k : κ} {v : V} (h : valV kvs k = some v) : k ∈ kvs.map (·.1) := by
  have q : (kvs.any fun kv => decide (kv.1 = k)) = true := by
    rw [valV_any, h]
    all_goals rfl
  obtain ⟨p, hp, e⟩ := List.any_eq_true.mp q
  exact List.mem_map.mpr ⟨p, hp, of_decide_eq_true e⟩
end
theorem at_of {xs : List V} {z : Int} {j : Nat} {v : V} (e : z = (j : Int)) (h : xs[j]? = some v) : atI xs z = some v := by
  rw [e]
  exact atI_nat h
theorem Same.made {H H1 : Hp} {x dx C : Addr} (nx : H x = Option.none) (nd : H dx = Option.none) (k : ∀ b o, (upd (upd H dx (.own x)) x (.ins C dx [])) b = some o → b ≠ x → H1 b = some o) : Same H H1 := fun b o e =>
  k b o (by rw [upd_ne (ne_of_none e nx), upd_ne (ne_of_none e nd)]; exact e) (ne_of_none e nx)
end L2

set_option Elab.async false
set_option linter.all false
set_option maxRecDepth 100000
set_option maxHeartbeats 4000000
namespace L2
open PySem PySem.Spec PyProof.Rows
section
variable {X : Cx}
def rIsi (K : PySem.W.Frag) : List V → Hp → VK → Prop := fun vs H Q => ∃ (x c : V) (t : Value) (b : Bool), vs = [x, c] ∧ TyOf K H x t ∧ (∀ u, RelV c u → PySem.W.kitOne K t u = some b) ∧ Q (.bl b) H
theorem cr_isi : CallR X (.builtin "isinstance") (rIsi X.K) := by
  intro pins s σ H vs us Q I r h
  obtain ⟨x, c, t, b, rfl, ty, k, q⟩ := h
  cases r with
  | cons r1 r2 =>
    cases r2 with
    | cons r3 r4 =>
      cases r4
      exact isinst_ok I r1 ty (k _ r3) fun tk => ⟨.bl b, H, I.tok tk, rfl, q⟩
def CMulB (i j : Int) : Prop := Builtin.Int.intBits i ≤ 2 ^ 20 ∧ Builtin.Int.intBits j ≤ 2 ^ 20
theorem op_mulB : OpR X (binaryOp .Mult) (rI CMulB fun i j => .int (i * j)) := opI fun _ _ _ _ _ _ _ hc q => mul_int q (PySem.IntMulOk.of_bits hc.1 hc.2)
end
end L2

set_option Elab.async false
set_option linter.all false
set_option maxRecDepth 100000
set_option maxHeartbeats 4000000
namespace L2
open PySem PySem.Spec PyProof.Rows
section
variable {prog : Program} {w : World} {A : Around} {E : Value → Shared → Prop} {s : Shared}
end
end L2

set_option Elab.async false
set_option linter.all false
set_option maxRecDepth 100000
set_option maxHeartbeats 4000000
namespace L2
open PySem PySem.Spec PyProof.Rows
section
variable {prog : Program} {w : World} {A : Around} {E : Value → Shared → Prop} {s : Shared}
end
end L2

set_option Elab.async false
set_option linter.all false
set_option maxRecDepth 100000
set_option maxHeartbeats 4000000
namespace L2
open PySem PySem.Spec PyProof.Rows
end L2

set_option Elab.async false
set_option linter.all false
set_option maxRecDepth 100000
set_option maxHeartbeats 4000000
namespace L2
open PySem PySem.Spec PyProof.Rows
section
variable {prog : Program} {w : World} {A : Around} {R : Result → Shared → Prop} {I S : Addr} {fp wr : List Addr} {n : Nat} {P : Nat → Value → Prop} {St : Nat → Heap → Prop} {kw : List (Str × Value)} {bt : Nat → Nat → Bool}
end
section
variable {prog : Program} {w : World} {A : Around} {E : Value → Shared → Prop} {s : Shared} {l : Addr} {its : List Value} {ns : List Int} {d : Value} {Q : Value → Shared → Prop}
end
section
variable {X : Cx} {x : Str} {p pos : Pos} {e : Expr} {es : List Expr} {kws : List Keyword} {t tk : TA} {id : String}
end
end L2

set_option Elab.async false
set_option linter.all false
set_option maxRecDepth 100000
set_option maxHeartbeats 4000000
namespace L2
open PySem PySem.Spec PyProof.Rows
section
variable {X : Cx} {pins : List (Addr × Obj)} {σ : St} {H : Hp} {s : Shared}
end
end L2

set_option Elab.async false
set_option linter.all false
set_option maxRecDepth 100000
set_option maxHeartbeats 4000000
namespace L2
open PySem PySem.Spec PyProof.Rows
section
variable {X : Cx} {pins : List (Addr × Obj)} {σ : St} {H : Hp} {s : Shared}
theorem Inv.chpin {pins' : List (Addr × Obj)} {b : Addr} {h' : Heap} {t' : Nat} (I : Inv X pins σ H s) (f : FpOk X [] H b) (sb : Heap.SameBut b s.heap h')
    (hp : ∀ p ∈ pins', (p ∈ pins ∧ p.1 ≠ b) ∨ (p.1 = b ∧ h'.get? b = some p.2 ∧ ∀ v, p.2.data ≠ .cell v)) : Inv X pins' σ H { s with heap := h', toks := t' } := by
  obtain ⟨f0, f1, f2, f3, f4, f5⟩ := f
  have I0 : Inv X [] σ H s := I.pins_of fun p hp => absurd hp (by simp)
  have I1 : Inv X [] σ H { s with heap := h', toks := t' } := I0.turned (fun c o hc e => (sb.2 c hc).trans e) f0 f1 f3 f4 f5
  refine I1.pins_of fun p hq => ?_
  rcases hp p hq with ⟨hm, hne⟩ | ⟨he, hg, hd⟩
  · obtain ⟨e, n, ne, nf, d⟩ := I.pin p (List.mem_append_right _ hm)
    exact ⟨(sb.2 p.1 hne).trans e, n, ne, nf, d⟩
  · rw [he]
    exact ⟨hg, f0, f1, f2, hd⟩
theorem Inv.newpin {pins' : List (Addr × Obj)} {h' : Heap} {t' : Nat} (I : Inv X pins σ H s) (k : ∀ b o, s.heap.get? b = some o → h'.get? b = some o)
    (hp : ∀ p ∈ pins', p ∈ pins ∨ (s.heap.objs.size ≤ p.1 ∧ h'.get? p.1 = some p.2 ∧ ∀ v, p.2.data ≠ .cell v)) : Inv X pins' σ H { s with heap := h', toks := t' } := by
  have I1 : Inv X pins σ H { s with heap := h', toks := t' } := I.kept k
  refine I1.pins_of fun p hq => ?_
  rcases hp p hq with hm | ⟨hz, hg, hd⟩
  · exact I1.pin p (List.mem_append_right _ hm)
  · obtain ⟨f0, f1, f2, _⟩ := I.fpOk hz (I.hok.fresh hz)
    exact ⟨hg, f0, f1, f2, hd⟩
theorem Inv.adopt {a : Addr} {o : HO} (I : Inv X pins σ H s) (f : FpOk X pins H a) (new : ObjOk X.prog X.w (upd H a o) s.heap a o) : Inv X pins σ (upd H a o) s := by
  obtain ⟨f0, f1, f2, f3, f4, f5⟩ := f
  refine I.step (h' := s.heap) (g' := s.gens) (t' := s.toks) (d' := s.drawn) (ch := [a]) (fun b hb => ?_) (fun b o _ _ _ e _ => e) (fun b o _ _ _ e _ => ⟨o.slots, e⟩) (fun b o hb e n => ?_) (fun b o _ e => ⟨o, e⟩) (fun b xs e => ?_) (fun b o u e => ?_) (fun b ps e => ⟨#[], ?_⟩) (fun m hm => hm) (fun b u e => ?_) I.bare
  · have e : b = a := by simpa using hb
    subst e
    exact ⟨f3, f1, f4, f5⟩
  · rw [upd_ne (fun z => hb (by simp [z]))]
    exact n
  · rw [upd_ne (ne_of_none e f0)]
    exact e
  · rw [upd_ne (ne_of_none e f0)]
    exact e
  · rw [upd_ne (ne_of_none e f0), e]
    simp
  · by_cases hb : b = a
    · subst hb
      rw [upd_same] at e
      cases e
      exact new
    · rw [upd_ne hb] at e
      exact (I.hok b u e).stay (fun c v _ q => q) (fun c q => by rw [upd_ne (ne_of_none q f0)]; exact q) fun c xs q => by rw [upd_ne (ne_of_none q f0)]; exact q
theorem FpOk.repin {pins pins' : List (Addr × Obj)} {b : Addr} (f : FpOk X pins H b) (h : ∀ p ∈ pins', p.1 ≠ b) : FpOk X pins' H b :=
  ⟨f.1, f.2.1, f.2.2.1, f.2.2.2.1, f.2.2.2.2.1, fun p hp => (List.mem_append.mp hp).elim (fun z => f.2.2.2.2.2 p (List.mem_append_left _ z)) (h p)⟩
end
section
variable {X : Cx} {pins : List (Addr × Obj)} {σ : St} {H : Hp} {s : Shared} {A : Around} {E : Value → Shared → Prop} {a kS : Addr} {vs : List Value} {kz : List Int} {keys : Array Value} {e e1 : Nat} {P : PySem.Fin → Shared → Prop}
abbrev SkOut (kz : List Int) (vs : List Value) (out : List Value) : Prop := KskOut false kz vs out
end
end L2

set_option Elab.async false
set_option linter.all false
set_option maxRecDepth 100000
set_option maxHeartbeats 4000000
namespace L2
open PySem PySem.Spec PyProof.Rows
def tabOf (ts : List (Nat × Nat × Addr)) : List Value := ts.flatMap fun t => [rawInt t.1, rawInt t.2.1, .ref t.2.2]
abbrev codeX (qual : Str) (c : Addr) : HO := .ext fun h => h.CodeRec (.ref c) qual
def TabOk (H : Hp) (P : Addr) (qual : Str) : Prop := ∃ ts : List (Nat × Nat × Addr), H P = some (.tbl (tabOf ts).toArray) ∧ ∀ t ∈ ts, H t.2.2 = some (codeX qual t.2.2)
theorem TabOk.laid {H : Hp} {P a : Addr} {qual : Str} {o : HO} (T : TabOk H P qual) (h : H a = none) : TabOk (upd H a o) P qual := by
  obtain ⟨ts, e, k⟩ := T
  exact ⟨ts, by rw [upd_ne (ne_of_none e h)]; exact e, fun t ht => by rw [upd_ne (ne_of_none (k t ht) h)]; exact k t ht⟩
section
variable {X : Cx} {pins : List (Addr × Obj)} {σ : St} {H : Hp} {s : Shared}
end
end L2

set_option Elab.async false
set_option linter.all false
set_option maxRecDepth 100000
set_option maxHeartbeats 4000000
namespace L2
open PySem PySem.Spec PyProof.Rows
theorem perm_back {α β : Type} {R : α → β → Prop} : ∀ {l1 l2 : List β}, l1.Perm l2 → ∀ {m2 : List α}, Paired R m2 l2 → ∃ m1, m1.Perm m2 ∧ Paired R m1 l1 := by
  intro l1 l2 p
  induction p with
  | nil => intro m2 h; exact ⟨m2, .refl _, h⟩
  | cons x _ ih =>
    intro m2 h
    cases h with
    | cons r t =>
      obtain ⟨m1, h1, h2⟩ := ih t
      exact ⟨_ :: m1, h1.cons _, .cons r h2⟩
  | swap x y l =>
    intro m2 h
    cases h with
    | cons r t =>
      cases t with
      | cons r' t' => exact ⟨_ :: _ :: _, .swap .., .cons r' (.cons r t')⟩
  | trans _ _ ih1 ih2 =>
    intro m3 h
    obtain ⟨m2, h1, h2⟩ := ih2 h
    obtain ⟨m1, h3, h4⟩ := ih1 h2
    exact ⟨m1, h3.trans h1, h4⟩
theorem paired_zip {kz : List Int} : ∀ {xs : List V} {vs : List Value}, Vals xs vs → Paired (fun (p : Int × V) (q : Int × Value) => p.1 = q.1 ∧ RelV p.2 q.2) (kz.zip xs) (kz.zip vs) := by
  induction kz with
  | nil => intro xs vs _; exact .nil
  | cons k r ih =>
    intro xs vs h
    cases h with
    | nil => exact .nil
    | cons a t => exact .cons ⟨rfl, a⟩ (ih t)
theorem paired_fst : ∀ {ps : List (Int × V)} {qs : List (Int × Value)}, Paired (fun (p : Int × V) (q : Int × Value) => p.1 = q.1 ∧ RelV p.2 q.2) ps qs → ps.map (·.1) = qs.map (·.1)
  | _, _, .nil => rfl
  | _, _, .cons r t => by rw [List.map_cons, List.map_cons, r.1, paired_fst t]
theorem paired_snd : ∀ {ps : List (Int × V)} {qs : List (Int × Value)}, Paired (fun (p : Int × V) (q : Int × Value) => p.1 = q.1 ∧ RelV p.2 q.2) ps qs → Vals (ps.map (·.2)) (qs.map (·.2))
  | _, _, .nil => .nil
  | _, _, .cons r t => .cons r.2 (paired_snd t)
def ByKey (ks : List Int) (xs ys : List V) : Prop := ∃ ps : List (Int × V), ps.Perm (ks.zip xs) ∧ ys = ps.map (·.2) ∧ (ps.map (·.1)).Pairwise (· ≤ ·)
theorem ByKey.of {kz : List Int} {xs : List V} {vs out : List Value} (h : SkOut kz vs out) (r : Vals xs vs) : ∃ ys, ByKey kz xs ys ∧ Vals ys out := by
  obtain ⟨qs, hp, ho, hs⟩ := h
  obtain ⟨ps, h1, h2⟩ := perm_back hp (paired_zip (kz := kz) r)
  refine ⟨ps.map (·.2), ⟨ps, h1, rfl, ?_⟩, ?_⟩
  · rw [paired_fst h2, List.pairwise_map]
    exact hs.imp fun {a b} q => by simpa using q
  · rw [ho]
    exact paired_snd h2
section
variable {X : Cx}
end
end L2

set_option Elab.async false
set_option linter.all false
set_option maxRecDepth 100000
set_option maxHeartbeats 4000000
namespace L2
open PySem PySem.Spec PyProof.Rows
def EnSt (h : Heap) (e it : Addr) (k : Int) : Prop := ∃ f0 f1 old, h.get? e = some { cls := .type "enumerate", dict := none, data := .fields #[f0, f1, .ref it, rawInt k, .none, old], slots := #[] } ∧ (f0 = .none ∨ ∃ (T : Addr) (o : Obj), f0 = rawInt (T : Int) ∧ h.get? T = some o ∧ T ≠ e ∧ T ≠ it)
theorem EnSt.at {h h' : Heap} {e it : Addr} {k : Int} (x : EnSt h e it k) (k1 : ∀ o, h.get? e = some o → h'.get? e = some o) (k2 : ∀ b o, b ≠ e → b ≠ it → h.get? b = some o → ∃ o', h'.get? b = some o') : EnSt h' e it k := by
  obtain ⟨f0, f1, old, e1, e2⟩ := x
  refine ⟨f0, f1, old, k1 _ e1, ?_⟩
  rcases e2 with e2 | ⟨T, o, a, b, c, d⟩
  · exact .inl e2
  · obtain ⟨o', q⟩ := k2 T o c d b
    exact .inr ⟨T, o', a, q, c, d⟩
section
variable {prog : Program} {w : World} {A : Around} {E : Value → Shared → Prop} {s : Shared}
end
end L2

set_option Elab.async false
set_option linter.all false
set_option maxRecDepth 100000
set_option maxHeartbeats 4000000
namespace L2
open PySem PySem.Spec PyProof.Rows PySem.W
section
variable {prog : Program} {w : World} {A : Around} {E : Value → Shared → Prop} {s : Shared}
end
end L2

set_option Elab.async false
set_option linter.all false
set_option maxRecDepth 100000
set_option maxHeartbeats 4000000
namespace L2
open PySem PySem.Spec PyProof.Rows PySem.W
section
variable {X : Cx} {pins : List (Addr × Obj)} {σ : St} {H : Hp} {A : Around} {R : Result → Shared → Prop} {S e it a : Addr} {k : Int} {xs : List V} {res : Value}
end
end L2

set_option Elab.async false
set_option linter.all false
set_option maxRecDepth 100000
set_option maxHeartbeats 4000000
namespace L2
open PySem PySem.Spec PyProof.Rows PySem.W
section
variable {X : Cx} {pins : List (Addr × Obj)} {σ : St} {H : Hp} {s : Shared} {e it a : Addr} {k : Int} {xs : List V} {Q : VK}
end
section
variable {X : Cx} {e : Expr} {te : TE} {p p2 pos pos2 kpos cpos : Pos} {j : Nat}
end
end L2

set_option Elab.async false
set_option linter.all false
set_option maxRecDepth 100000
set_option maxHeartbeats 4000000
namespace L2
open PySem PySem.Spec PyProof.Rows
def tRev (K : PySem.W.Frag) (te : TE) : TE := fun σ H Q => te σ H fun x H1 => ∃ a xs, x = .ref a ∧ SqL K H1 a xs ∧ ∀ p, H1 p = none → Q (.ref p) (upd H1 p (.lst xs.reverse))
section
variable {X : Cx} {e : Expr} {te : TE} {p2 pos cp up : Pos} {j : Nat}
theorem pe_rev (he : PE X e te) : PE X (.Subscript e (.Slice none none (some (.UnaryOp .USub (.Constant (.int 1) j cp) up)) p2) pos) (tRev X.K te) := by
  intro pins s σ H Q I h
  refine Subscript_ (thn (he pins s σ H _ I h) fun v s1 ⟨x, H1, I1, r1, a, xs, ex, hS, q⟩ => ?_)
  subst ex
  cases r1
  refine wpAny_Slice ?_
  rw [evalPart_none]
  refine wpAny_pure ?_
  refine wpAny_pure ?_
  rw [evalPart_some]
  have pn : PE X (.UnaryOp .USub (.Constant (.int 1) j cp) up) (tUn (rU fun i => .int (-i)) (tC (.int 1))) := pe_un un_neg pe_int
  refine thn (pn pins s1 σ H1 (fun y H2 => y = .int (-1) ∧ H2 = H1) I1 ⟨1, rfl, rfl, rfl⟩) fun vs s3 ⟨y, H3, I3, r3, ey, eH⟩ => ?_
  subst ey eH
  obtain ⟨t, rfl⟩ := r3
  obtain ⟨its, r, ht, hz⟩ := I3.list hS
  have hlen := r.length
  have I4 : Inv X pins σ H3 { s3 with heap := s3.heap.push { cls := .type "slice", data := .fields #[.none, .none, .int (-1) t] } } := I3.kept (t' := s3.toks) fun b ob q => Heap.get?_push_of_some _ q
  show wpAny (model X.prog X.w) X.A (subscriptTail e (.Slice none none (some (.UnaryOp .USub (.Constant (.int 1) j cp) up)) p2) (.ref a) (.ref s3.heap.objs.size)) (EP X pins σ Q) X.xe { s3 with heap := s3.heap.push { cls := .type "slice", data := .fields #[.none, .none, .int (-1) t] } }
  have ht' := ht.isList.push { cls := .type "slice", data := .fields #[.none, .none, .int (-1) t] }
  refine tail_any (ops := [.ref a, .ref s3.heap.objs.size]) ht'.typeIs slot_list_getitem.lookup ?_ (by with_unfolding_all rfl)
  refine wpAny_getItem_list_slice ht' (Heap.IsSliceOf.new ..) .none .none (.int (-1) t) (by decide) ?_ (by rw [List.size_toArray]; omega)
  rw [PySem.W.krv_pick]
  refine ⟨.ref _, _, I4.laid (t' := s3.toks) (o := .lst xs.reverse) (fun b ob q => Heap.get?_push_of_some _ q) (Nat.le_refl _) ?_, rfl, q _ (I4.hok.fresh (Nat.le_refl _))⟩
  exact ⟨by rw [List.length_reverse]; exact hz, its.reverse, 0, r.reverse, Heap.get?_push_size _ rfl⟩
end
end L2

set_option Elab.async false
set_option linter.all false
set_option maxRecDepth 100000
set_option maxHeartbeats 4000000
namespace L2
open PySem PySem.Spec PyProof.Rows
abbrev ForG (J : It) (g : TG) (tb : TS) (D : Ends) (σ : St) (H : Hp) : Prop := ∃ W : Nat → Nat → St → Hp → Prop, (∃ m, W 0 m σ H) ∧ ∀ i m σ H, W i m σ H →
  (J.stop i H ∧ D.nx σ H) ∨ (J.go i H ∧ ∃ N : St → Hp → Prop, (∀ σ' H', N σ' H' → ∃ m', m' < m ∧ W (i + 1) m' σ' H') ∧ ∀ x H', J.yld i H x H' → g x σ H' fun σ2 H2 => tb { D with nx := N, ct := N, bk := D.nx } σ2 H2)
theorem for_it {J : It} {g : TG} {tb : TS} {D : Ends} {σ : St} {H : Hp} (n : Nat) (Pv : Nat → St → Hp → Prop) (h0 : Pv 0 σ H) (hg : ∀ i σ H, i < n → Pv i σ H → J.go i H) (he : ∀ σ H, Pv n σ H → J.stop n H)
    (hs : ∀ i x σ H H', i < n → Pv i σ H → J.yld i H x H' → g x σ H' fun σ2 H2 => tb { D with nx := Pv (i + 1), ct := Pv (i + 1), bk := D.nx } σ2 H2) (hd : ∀ σ H, Pv n σ H → D.nx σ H) : ForG J g tb D σ H := by
  refine ⟨fun i m σ H => m = n - i ∧ i ≤ n ∧ Pv i σ H, ⟨n, by simp, Nat.zero_le _, h0⟩, ?_⟩
  rintro i m σ H ⟨rfl, hi, p⟩
  by_cases hlt : i < n
  · exact .inr ⟨hg i σ H hlt p, Pv (i + 1), fun σ' H' p' => ⟨n - (i + 1), by omega, rfl, hlt, p'⟩, fun x H' y => hs i x σ H H' hlt p y⟩
  · have e : i = n := by omega
    subst e
    exact .inl ⟨he σ H p, hd σ H p⟩
abbrev LcG (J : It) (g : TG) (tt : TT) (te : TE) (vs : List Nat) (σ : St) (D : Addr) (H1 : Hp) (Qd : Hp → Prop) : Prop := ∃ W : Nat → Nat → Hp → Prop, (∃ m, W 0 m (upd H1 D (.lst []))) ∧ ∀ i m H, W i m H →
  (J.stop i H ∧ Qd H) ∨ (J.go i H ∧ ∃ Nx : Hp → Prop, (∀ H', Nx H' → ∃ m', m' < m ∧ W (i + 1) m' H') ∧ ∀ x H', J.yld i H x H' → g x (wipe σ vs) H' fun σ2 H2 => wipe σ2 vs = wipe σ vs ∧ tt σ2 H2 fun b H3 =>
    if b = true then te σ2 H3 fun y H4 => ∃ acc, H4 D = some (.lst acc) ∧ acc.length < sizeLine ∧ Nx (upd H4 D (.lst (acc ++ [y]))) else Nx H3)
theorem lc_it {J : It} {g : TG} {tt : TT} {te : TE} {vs : List Nat} {σ : St} {H1 : Hp} {D : Addr} {Qd : Hp → Prop} (n : Nat) (Pv : Nat → Hp → Prop) (h0 : Pv 0 (upd H1 D (.lst []))) (hg : ∀ i H, i < n → Pv i H → J.go i H) (he : ∀ H, Pv n H → J.stop n H)
    (hs : ∀ i x H H', i < n → Pv i H → J.yld i H x H' → g x (wipe σ vs) H' fun σ2 H2 => wipe σ2 vs = wipe σ vs ∧ tt σ2 H2 fun b H3 =>
      if b = true then te σ2 H3 fun y H4 => ∃ acc, H4 D = some (.lst acc) ∧ acc.length < sizeLine ∧ Pv (i + 1) (upd H4 D (.lst (acc ++ [y]))) else Pv (i + 1) H3) (hd : ∀ H, Pv n H → Qd H) : LcG J g tt te vs σ D H1 Qd := by
  refine ⟨fun i m H => m = n - i ∧ i ≤ n ∧ Pv i H, ⟨n, by simp, Nat.zero_le _, h0⟩, ?_⟩
  rintro i m H ⟨rfl, hi, p⟩
  by_cases hlt : i < n
  · exact .inr ⟨hg i H hlt p, Pv (i + 1), fun H' p' => ⟨n - (i + 1), by omega, rfl, hlt, p'⟩, fun x H' y => hs i x H H' hlt p y⟩
  · have e : i = n := by omega
    subst e
    exact .inl ⟨he H p, hd H p⟩
section
variable {K : PySem.W.Frag} {a : Addr} {xs : List V}
theorem for_enum0 {g : TG} {tb : TS} {D : Ends} {σ : St} {H : Hp} (Pv : Nat → St → Hp → Prop) (h0 : Pv 0 σ H) (hl : ∀ i σ H, i ≤ xs.length → Pv i σ H → SqL K H a xs)
    (hs : ∀ i x T σ H, xs[i]? = some x → Pv i σ H → H T = none → g (.ref T) σ (upd H T (.tup [.int (i : Nat), x])) fun σ2 H2 => tb { D with nx := Pv (i + 1), ct := Pv (i + 1), bk := D.nx } σ2 H2) (hd : ∀ σ H, Pv xs.length σ H → D.nx σ H) : ForG (Ite K a) g tb D σ H := by
  refine for_it xs.length Pv h0 (fun i σ H hi p => ⟨xs, xs[i], hl i σ H (Nat.le_of_lt hi) p, by simp [hi]⟩) (fun σ H p => ⟨xs, hl _ σ H (Nat.le_refl _) p, Nat.le_refl _⟩) (fun i x σ H H' hi p y => ?_) hd
  obtain ⟨T, z, rfl, hT, rfl, hz⟩ := y
  exact hs i z T σ H (hz xs (hl i σ H (Nat.le_of_lt hi) p)) p hT
theorem lc_enum0 {g : TG} {tt : TT} {te : TE} {vs : List Nat} {σ : St} {H1 : Hp} {D : Addr} {Qd : Hp → Prop} (Pv : Nat → Hp → Prop) (h0 : Pv 0 (upd H1 D (.lst []))) (hl : ∀ i H, i ≤ xs.length → Pv i H → SqL K H a xs)
    (hs : ∀ i x T H, xs[i]? = some x → Pv i H → H T = none → g (.ref T) (wipe σ vs) (upd H T (.tup [.int (i : Nat), x])) fun σ2 H2 => wipe σ2 vs = wipe σ vs ∧ tt σ2 H2 fun b H3 =>
      if b = true then te σ2 H3 fun y H4 => ∃ acc, H4 D = some (.lst acc) ∧ acc.length < sizeLine ∧ Pv (i + 1) (upd H4 D (.lst (acc ++ [y]))) else Pv (i + 1) H3) (hd : ∀ H, Pv xs.length H → Qd H) : LcG (Ite K a) g tt te vs σ D H1 Qd := by
  refine lc_it xs.length Pv h0 (fun i H hi p => ⟨xs, xs[i], hl i H (Nat.le_of_lt hi) p, by simp [hi]⟩) (fun H p => ⟨xs, hl _ H (Nat.le_refl _) p, Nat.le_refl _⟩) (fun i x H H' hi p y => ?_) hd
  obtain ⟨T, z, rfl, hT, rfl, hz⟩ := y
  exact hs i z T H (hz xs (hl i H (Nat.le_of_lt hi) p)) p hT
end
theorem Same.upd {H H' : Hp} {a : Addr} {o : HO} (s : Same H H') (h : H a = none) : Same H (upd H' a o) := fun b u e => by
  rw [upd_ne (ne_of_none e h)]
  exact s b u e
theorem Same.new {H : Hp} {a : Addr} {o : HO} (h : H a = none) : Same H (L2.upd H a o) := (Same.refl H).upd h
theorem map_int_get {ns : List Int} {i : Nat} {x : V} (h : (ns.map V.int)[i]? = some x) : ∃ n, ns[i]? = some n ∧ x = .int n := by
  rw [List.getElem?_map] at h
  cases e : ns[i]? with
  | none =>
    rw [e] at h
    cases h
  | some z =>
    rw [e] at h
    exact ⟨z, rfl, (Option.some.inj h).symm⟩
end L2

set_option Elab.async false
set_option linter.all false
set_option maxRecDepth 100000
set_option maxHeartbeats 4000000
namespace L2
open PySem PySem.Spec PyProof.Rows
def rListOf (K : PySem.W.Frag) : List V → Hp → VK → Prop := fun xs H Q => ∃ p ys, xs = [.ref p] ∧ (SqL K H p ys ∨ SqT K H p ys) ∧ ∀ l, H l = none → Q (.ref l) (upd H l (.lst ys))
def rLen (K : PySem.W.Frag) : List V → Hp → VK → Prop := fun xs H Q => ∃ p ys, xs = [.ref p] ∧ (SqL K H p ys ∨ SqT K H p ys) ∧ Q (.int ys.length) H
section
variable {X : Cx} (K : PySem.W.Frag)
theorem cr_isiK (h : X.K = K := by rfl) : CallR X (.builtin "isinstance") (rIsi K) := h ▸ cr_isi
theorem call_list_ofK (h : X.K = K := by rfl) : CallR X (.type "list") (rListOf K) := by
  subst h
  exact call_list_of
theorem call_len_seqK (h : X.K = K := by rfl) : CallR X (.builtin "len") (rLen K) := by
  subst h
  exact call_len_seq
theorem cr_sumK (hc : X.calm = true) (h : X.K = K := by rfl) : CallR X (.builtin "sum") (rSum K) := h ▸ cr_sum hc
theorem ix_listK (h : X.K = K := by rfl) : IxR X (rIxL K) := h ▸ ix_list
theorem ix_tupK (h : X.K = K := by rfl) : IxR X (rIxT K) := h ▸ ix_tup
theorem sl_listK (h : X.K = K := by rfl) : SlR X (rSlL K) := h ▸ sl_list
theorem op_eqDK (hu : X.A.units + 64 < cLine) (h : X.K = K := by rfl) : OpR X (compareOp .Eq) (rEqD K) := h ▸ op_eqD hu
theorem op_neDK (hu : X.A.units + 64 < cLine) (h : X.K = K := by rfl) : OpR X (compareOp .NotEq) (rNeD K) := h ▸ op_neD hu
theorem pi_listK {tg l : Expr} {tl : TE} (hl : PE X l tl) (h : X.K = K := by rfl) : PI X tg l (iList K tl) := h ▸ pi_list hl
theorem pi_enumK {e : Expr} {ta : TA} {p pos tpos : Pos} {elts : List Expr} {kk : Nat} (hg : Gl X "enumerate") (hm : X.mg "enumerate" = none) (ha : PA X [e] ta) (hs : starEach [e] X.env = [(false, eval e X.env)] := by rfl) (h : X.K = K := by rfl) :
    PI X (.Tuple elts kk tpos) (.Call (.Name "enumerate" p) [e] [] pos) (iEnum K ta) := h ▸ pi_enum hg hm ha hs
theorem pg_tupK {es : List Expr} {k : Nat} {t : TGs} {n : Nat} {pos : Pos} (hc : X.calm = true) (hp : PGs X es t) (hn : (assignEach es X.env).length = n := by rfl) (hst : (assignEach es X.env).findIdx? (·.1) = none := by rfl) (h : X.K = K := by rfl) :
    PG X (.Tuple es k pos) (gTup K n t) := h ▸ pg_tup hc hp hn hst
theorem pe_fldK {e : Expr} {ta : TE} {f : Str} {pos : Pos} (he : PE X e ta) (hb : attributeBase e f X.env (eval e X.env) = eval e X.env) (h : X.K = K := by rfl) : PE X (.Attribute e f pos) (tFld K ta f) := h ▸ pe_fld he hb
end
end L2
namespace L2
theorem yesT {σ : St} {H : Hp} {A B : Bool → Hp → Prop} (h : A true H) : tYes σ H (fun b H3 => if b = true then A b H3 else B b H3) := by
  show (if true = true then A true H else B true H)
  rw [if_pos rfl]
  exact h
end L2
namespace L2
open PySem PySem.Spec PyProof.Rows
section
variable {X : Cx} (K : PySem.W.Frag) {o e : Expr} {es : List Expr} {to : TE} {t : TA} {name : Str} {apos cpos : Pos} {T id : String} {r : V → List V → Hp → VK → Prop}
theorem pe_bmK (pa : PlainAttrs T) (slot : Slot T name id) (hty : typeOf (.builtin id) = pure (.type "method_descriptor")) (hm : MtR X id r) (ho : PE X o to) (ha : PA X (e :: es) t)
    (hbase : attributeBase o name X.env (eval o X.env) = eval o X.env := by rfl)
    (hfew : ((backTo cpos (starEach (e :: es) X.env)).all (fun x => !x.1) && (backToKw cpos (keywordEach [] X.env)).all (fun x => x.1.isSome)
      && decide ((e :: es).length + ([] : List Keyword).length + (if ([] : List Keyword).isEmpty then 0 else 1) < 30)) = true := by rfl)
    (hline : (apos.endLine == cpos.line) = true := by rfl) (hs : starEach (e :: es) X.env = (false, eval e X.env) :: starEach es X.env := by rfl) (hplain : (backTo cpos (starEach es X.env)).any (·.1) = false := by rfl) (h : X.K = K := by rfl) :
    PE X (.Call (.Attribute o name apos) (e :: es) [] cpos) (tBM K T r to t) := h ▸ pe_bm pa slot hty hm ho ha hbase hfew hline hs hplain
end
end L2

set_option Elab.async false
set_option linter.all false
namespace L2
open PySem PySem.Spec PyProof.Rows
end L2

set_option Elab.async false
set_option linter.all false
set_option maxRecDepth 100000
set_option maxHeartbeats 4000000
namespace L2
open PySem PySem.Spec PyProof.Rows PySem.W
theorem list_iterable {prog : Program} {w : World} {A : Around} {E : Value → Shared → Prop} {s : Shared} {l : Addr} {items : Array Value} {Q : Bool → Shared → Prop} (hl : s.heap.IsList l items) (q : Q false s) : wpAny (model prog w) A (notIterableAtAll (.ref l)) Q E s := by
  unfold notIterableAtAll
  exact wpAny_bind (wpAny_specialOf (T := "list") hl.typeIs F.slot_list_iter.lookup (wpAny_pure q))
theorem unpack_star {prog : Program} {w : World} {A : Around} {E : Value → Shared → Prop} {s : Shared} {l : Addr} {x : Value} {its : List Value} {Q : List Value → Shared → Prop} (hh : A.handled = none) (hl : s.heap.IsList l (x :: its).toArray) (hz : its.length + 1 ≤ sizeLine)
    (q : ∀ (h' : Heap) (tk : Nat), (∀ b o, s.heap.get? b = some o → h'.get? b = some o) →
      Q [x, .ref h'.objs.size] { s with heap := h'.push { cls := .type "list", data := .seq its.toArray }, toks := tk }) :
    wpAny (model prog w) A (unpackItems (.ref l) 2 (some 1)) Q E s := by
  have hlt : l < s.heap.objs.size := by
    obtain ⟨o, e, _⟩ := hl
    exact Heap.lt_size e
  unfold unpackItems
  refine wpAny_bind (list_iterable hl ?_)
  refine wpAny_bind (wpAny_holding (wpAny_pyIter_list hl ?_))
  have kp : ∀ b o, s.heap.get? b = some o → (s.heap.push { cls := Value.type "list_iterator", data := Data.fields #[Value.ref l, Value.int 0 0] }).get? b = some o := fun b o e => Heap.get?_push_of_some _ e
  have hne : l ≠ s.heap.objs.size := Nat.ne_of_lt hlt
  have hl1 : (s.heap.push { cls := Value.type "list_iterator", data := Data.fields #[Value.ref l, Value.int 0 0] }).IsList l (x :: its).toArray := by
    obtain ⟨o, e, r⟩ := hl
    exact ⟨o, kp _ _ e, r⟩
  have hi1 : (s.heap.push { cls := Value.type "list_iterator", data := Data.fields #[Value.ref l, Value.int 0 0] }).IsListIter s.heap.objs.size l 0 := ⟨_, Heap.get?_push_size _ rfl, rfl, rfl⟩
  refine wpAny_bind (wpAny_holding (kun_draw hne 1 0 _ _ hi1 hl1 (by simp) fun h2 hi2 sb2 => ?_))
  have hl2 : h2.IsList l (x :: its).toArray := by
    obtain ⟨o, e, r⟩ := hl1
    exact ⟨o, by rw [sb2.2 l hne]; exact e, r⟩
  have hsz2 : h2.objs.size = s.heap.objs.size + 1 := by rw [sb2.1, Heap.size_push]
  rw [if_neg (by simp)]
  show wpAny _ A (do
    let rest ← holding _ (collect _)
    _) _ _ _
  refine wpAny_bind (wpAny_holding (kun_collect (T := "list_iterator") (k := 1) (ax := l) (.inr (.inr (.inl rfl))) (Walks.list (A := A.in1) hh s.heap.objs.size l hne (x :: its).toArray) (fun i u ⟨⟨o, e, c, _⟩, _⟩ => ⟨o, e, c⟩) (by simp) ⟨hi2, hl2⟩ (by show _ < h2.objs.size; rw [hsz2]; exact Nat.lt_succ_self _) (by show _ < h2.objs.size; rw [hsz2]; exact Nat.lt_succ_of_lt hlt) (fun h3 tk k3 => ?_) (by simpa using hz)))
  have k13 : ∀ b o, s.heap.get? b = some o → h3.get? b = some o := fun b o e => k3 b o (Nat.ne_of_lt (Heap.lt_size e)) (by
    show h2.get? b = some o
    rw [sb2.2 b (Nat.ne_of_lt (Heap.lt_size e))]
    exact kp b o e)
  rw [if_neg (by simp)]
  refine wpAny_bind (wpAny_newList ?_ (by simp; omega))
  refine wpAny_pure ?_
  have e := q h3 tk k13
  simpa using e
def gStar (K : PySem.W.Frag) (t : TGs) : TG := fun v σ H Q => ∃ a x xs, v = .ref a ∧ SqL K H a (x :: xs) ∧ ∀ p, H p = none → t [x, .ref p] σ (upd H p (.lst xs)) Q
theorem pg_star {X : Cx} {e1 e2 : Expr} {k : Nat} {t : TGs} {pos p2 : Pos} (hc : X.calm = true) (h : PGs X [e1, e2] t)
    (h1 : assignEach [e1, .Starred e2 p2] X.env = [(false, assign e1 X.env), (true, assign e2 X.env)] := by rfl)
    (h2 : (assignEach [e1, e2] X.env).map (·.2) = [assign e1 X.env, assign e2 X.env] := by rfl) : PG X (.Tuple [e1, .Starred e2 p2] k pos) (gStar X.K t) := by
  intro pins s σ H v u Q I r hw
  obtain ⟨a, x, xs, e0, hq, hw⟩ := hw
  subst e0
  cases r
  obtain ⟨its, rv, pl, hz⟩ := I.list hq
  cases rv with
  | cons rx rxs =>
    rename_i ux its
    have hlen := rxs.length
    rw [arm_assign_Tuple]
    refine wpAny_bind (wpAny_standAt ?_)
    unfold unpack
    rw [h1]
    refine wpAny_bind (wpAny_holding ?_)
    show wpAny _ _ (unpackItems _ 2 (some 1)) _ _ _
    refine unpack_star (I.ok.hd hc) pl.isList (by rw [List.length_cons] at hz; omega) fun h' tk kp => ?_
    have I1 : Inv X pins σ H { s with heap := h', toks := tk } := I.kept (t' := tk) kp
    have I2 : Inv X pins σ (upd H h'.objs.size (.lst xs)) { s with heap := h'.push { cls := .type "list", data := .seq its.toArray }, toks := tk } :=
      I1.laid (t' := tk) (fun b o e => Heap.get?_push_of_some _ e) (Nat.le_refl _) (show ObjOk X.prog X.w _ _ _ (.lst xs) from ⟨by rw [List.length_cons] at hz; omega, its, 0, rxs, Heap.get?_push_size _ rfl⟩)
    have e := h pins _ σ _ _ [ux, .ref h'.objs.size] Q I2 (.cons rx (.cons (show RelV (.ref _) (.ref _) from rfl) .nil)) (hw _ (I1.hok.fresh (Nat.le_refl _)))
    rw [h2] at e
    exact e
def rInsert : V → List V → Hp → VK → Prop := fun x vs H Q => ∃ l xs i y, x = .ref l ∧ vs = [.int i, y] ∧ H l = some (.lst xs) ∧ 0 ≤ i ∧ i ≤ xs.length ∧ xs.length < sizeLine ∧ Q .non (upd H l (.lst (xs.take i.toNat ++ y :: xs.drop i.toNat)))
theorem mt_insert {X : Cx} : MtM X "list.insert" rInsert := by
  intro pins s σ H x vs v us Q I rx rv h
  obtain ⟨l, xs, i, y, rfl, rfl, hH, h1, h2, h3, q⟩ := h
  cases rx
  cases rv with
  | cons ri rv =>
    obtain ⟨u, rfl, ru⟩ := vals1 rv
    obtain ⟨t, rfl⟩ := ri
    obtain ⟨z, its, n, r, hl, e⟩ := I.lstM hH
    have hsl : sizeLine < 2 ^ 63 := by decide
    refine call_meets F.slot_list_insert ⟨_, e, rfl⟩ F.entry_list_insert (F.args_list_insert_3 _ _ _)
      (AutoListH.list_insert_list_int_val_1 l its.toArray n i t u (by rw [fitsIndex_both (by omega) (by omega)]; decide) (by rw [List.size_toArray]; omega)) ⟨e, ?_⟩
    refine ⟨.non, _, I.lset (its' := its.take i.toNat ++ u :: its.drop i.toNat) hH e ?_ ?_ ?_, rfl, q⟩
    · show ((its.toArray.extract 0 (if i < 0 then (i + ↑its.toArray.size).toNat else min i.toNat its.toArray.size)).push u ++ its.toArray.extract (if i < 0 then (i + ↑its.toArray.size).toNat else min i.toNat its.toArray.size)) = _
      rw [if_neg (by omega), List.size_toArray, Nat.min_eq_left (by omega)]
      simp [List.extract_eq_drop_take]
      rw [List.take_of_length_le (by rw [List.length_drop]; omega)]
    · exact (r.take _).append (.cons ru (r.drop _))
    · rw [List.length_append, List.length_cons, List.length_take, List.length_drop]
      omega
end L2

set_option Elab.async false
set_option linter.all false
set_option maxRecDepth 100000
set_option maxHeartbeats 4000000
namespace L2
open PySem PySem.Spec PyProof.Rows PySem.W
theorem split_dlen : splitId "dict.__len__" = some ("dict", "__len__") := by kernel_rfl
theorem sub_dict : isSubtype (.type "dict") (.type "dict") = pure true := by kernel_rfl
theorem hint_dict {prog : Program} {w : World} {A : Around} {E : Value → Shared → Prop} {s : Shared} {e : Addr} {Q : Bool → Shared → Prop} (hT : s.TypeIs (.ref e) "dict") (h : Q false s) : wpAny (model prog w) A (Builtin.List.listLengthHint (.ref e)) Q E s := by
  unfold Builtin.List.listLengthHint
  refine wpAny_bind (wpAny_specialOf hT F.slot_dict_len.lookup ?_)
  simp only [split_dlen]
  have hs := sub_dict
  unfold isInstance
  wp_walk using wpAny_typeOf hT
  exact h
section
variable {X : Cx} {pins : List (Addr × Obj)} {σ : St} {H : Hp} {A : Around} {R : Result → Shared → Prop} {S d it : Addr} {kvs : List (Key × V)} {res : Value} {o : Obj} {es : Array DictEntry} {ep : Nat}
theorem lk_loop (hh : A.handled = none) (hSi : S ≠ it) (hd : H d = some (.frz o (.dK kvs))) (hod : o.data = .dict es ep) (hz : kvs.length < sizeLine) (hpi : ∀ p ∈ pins, p.1 ≠ it) (hpS : ∀ p ∈ pins, p.1 ≠ S)
    (hR : ∀ s' acc c, Inv X (pins ++ [(S, seqObj "list" acc c)]) σ H s' → Vals (kvs.map fun p => kV p.1) acc.toList → R (.ok (.ret res)) s') :
    ∀ (m i : Nat) (s : Shared) (acc : Array Value) (c : Nat), i + m = kvs.length → Inv X (pins ++ [(S, seqObj "list" acc c)]) σ H s → s.heap.IsKeyIter it d i kvs.length ep → Vals ((kvs.take i).map fun p => kV p.1) acc.toList →
      FpOk X [] H it → FpOk X [] H S → codeAny (model X.prog X.w) A (.builtin "list.extend.loop" ⟨[.ref S, .ref it, res], []⟩) R s := by
  intro m
  induction m with
  | zero =>
    intro i s acc c him I hit hv fi fS
    have hi : i = kvs.length := by omega
    obtain ⟨hs, hgd, hx, es', ep', vs, hdt, hsz, kv, hm⟩ := I.frzK hd
    obtain ⟨rfl, rfl⟩ := dict_ep hod hdt
    refine codeAny_builtin F.entry_extend_loop ?_
    rw [Around.under_plainId F.plain_extend_loop _]
    show wpAny _ A.in1 (pyNext (.ref it) >>= _) _ _ s
    refine wpAny_bind (next_key_end hh hit hgd hdt hsz (by omega) fun h' eb => ?_)
    have fi' : FpOk X (pins ++ [(S, seqObj "list" acc c)]) H it := fi.repin fun p hp => by
      rcases List.mem_append.mp hp with hp | hp
      · exact hpi p hp
      · obtain rfl := List.mem_singleton.mp hp
        exact hSi
    obtain ⟨f0, f1, f2, f3, f4, f5⟩ := fi'
    have I2 : Inv X (pins ++ [(S, seqObj "list" acc c)]) σ H { s with heap := h' } := I.turned (t' := s.toks) (fun b o hb q => eb b o hb q) f0 f1 f3 f4 f5
    rw [hi, List.take_length] at hv
    exact wpAny_pure (hR _ acc c I2 hv)
  | succ m ih =>
    intro i s acc c him I hit hv fi fS
    have hi : i < kvs.length := by omega
    obtain ⟨hs, hgd, hx, es', ep', vs, hdt, hsz, kv, hm⟩ := I.frzK hd
    obtain ⟨rfl, rfl⟩ := dict_ep hod hdt
    obtain ⟨⟨k, v⟩, hkv⟩ : ∃ p, kvs[i]? = some p := ⟨kvs[i], List.getElem?_eq_getElem hi⟩
    obtain ⟨u, hu, ru⟩ := kv_get kv hkv
    have hl : kvs.length = vs.length := Paired.length kv
    refine codeAny_builtin F.entry_extend_loop ?_
    rw [Around.under_plainId F.plain_extend_loop _]
    show wpAny _ A.in1 (pyNext (.ref it) >>= _) _ _ s
    have fi' : FpOk X (pins ++ [(S, seqObj "list" acc c)]) H it := fi.repin fun p hp => by
      rcases List.mem_append.mp hp with hp | hp
      · exact hpi p hp
      · obtain rfl := List.mem_singleton.mp hp
        exact hSi
    obtain ⟨f0, f1, f2, f3, f4, f5⟩ := fi'
    refine wpAny_bind (wpAny_pyNext_dict_item (by rw [← hl]; exact hit) hm hu fun key h' hkey st' sb => ?_)
    have I1 : Inv X (pins ++ [(S, seqObj "list" acc c)]) σ H { s with heap := h' } := I.turned (t' := s.toks) (fun b ob hb e => (sb.2 b hb).trans e) f0 f1 f3 f4 f5
    have gS := (I1.pin (S, seqObj "list" acc c) (by simp)).1
    have hacc : acc.size = i := by
      have e9 : ((kvs.take i).map fun p => kV p.1).length = acc.toList.length := hv.length
      simp only [List.length_map, Array.length_toList, List.length_take] at e9
      omega
    show wpAny _ A.in1 (updateSeq S (·.push key) >>= _) _ _ _
    refine wpAny_bind (wpAny_updateSeq gS rfl ?_ (by rw [hacc]; omega) (by show (acc.push _).size ≤ sizeLine + 1; rw [Array.size_push, hacc]; omega))
    have u1 := Heap.SameBut.update h' S (Obj.mapSeq (·.push key))
    obtain ⟨c2, hc2⟩ : ∃ c2, (h'.update S (Obj.mapSeq (·.push key))).get? S = some (seqObj "list" (acc.push key) c2) := ⟨_, get?_update_seq gS (·.push key)⟩
    have I2 : Inv X (pins ++ [(S, seqObj "list" (acc.push key) c2)]) σ H { s with heap := h'.update S (Obj.mapSeq (·.push key)) } :=
      I1.chpin (s := { s with heap := h' }) (t' := s.toks) fS u1 fun p hp => by
        rcases List.mem_append.mp hp with hp | hp
        · exact .inl ⟨List.mem_append_left _ hp, hpS p hp⟩
        · obtain rfl := List.mem_singleton.mp hp
          exact .inr ⟨rfl, hc2, fun v z => nomatch z⟩
    refine wpAny_pure ⟨plainId_quiet F.plain_extend_loop _, ih (i + 1) _ (acc.push key) c2 (by omega) I2 ?_ ?_ fi fS⟩
    · rw [hl]
      exact st'.at fun o q => (u1.2 it (Ne.symm hSi)).trans q
    · have e1 : (acc.push key).toList = acc.toList ++ [key] := by simp
      rw [e1, List.take_succ, hkv, List.map_append]
      exact hv.append (.cons (relV_key (show keyIs k key = true from hkey)) .nil)
end
def rListK : List V → Hp → VK → Prop := fun xs H Q => ∃ (d : Addr) (kvs : List (Key × V)), xs = [.ref d] ∧ H d = some (.dK kvs) ∧ kvs.length < sizeLine ∧ ∀ l, H l = none → Q (.ref l) (upd H l (.lst (kvs.map fun p => kV p.1)))
theorem call_listK {X : Cx} (hc : X.calm = true) : CallR X (.type "list") rListK := by
  intro pins s σ H0 xs us Q I0 r h
  obtain ⟨d, kvs, rfl, hd0, hz, q⟩ := h
  obtain ⟨u, rfl, ru⟩ := vals1 r
  cases ru
  have mu : Mut (some (HO.dK kvs)) := trivial
  have nofz := I0.nofrz hd0 mu
  obtain ⟨o, I⟩ := I0.lock hd0 mu
  have hd : (upd H0 d (.frz o (.dK kvs))) d = some (.frz o (.dK kvs)) := upd_same
  generalize hH : upd H0 d (.frz o (.dK kvs)) = H at I hd
  obtain ⟨hs, hgd, hx, es, ep, vs, hdt, hsz, kv, hm⟩ := I.frzK hd
  refine callType_codes (Q₁ := fun obj s₁ => obj = .ref s.heap.objs.size ∧ s₁ = { s with heap := s.heap.push { cls := .type "list", data := .seq #[] } }) PySem.F.called_list (PySem.F.typeCall_list_1 _) PySem.F.entry_list_init
    (code_list_new _ ⟨rfl, rfl⟩) fun obj s₁ h₁ => ?_
  obtain ⟨rfl, rfl⟩ := h₁
  generalize hSd : s.heap.objs.size = S
  have hSlt : ∀ {b o}, s.heap.get? b = some o → b ≠ S := fun {b o} q => by rw [← hSd]; exact Nat.ne_of_lt (Heap.lt_size q)
  have hSdd : S ≠ d := fun z => hSlt hgd z.symm
  have hS0 : (s.heap.push { cls := .type "list", data := .seq #[] }).get? S = some { cls := .type "list", data := .seq #[] } := by rw [← hSd]; exact Heap.get?_push_size _ rfl
  have fS : FpOk X pins H S := I.fpOk (Nat.le_of_eq hSd) (I.hok.fresh (Nat.le_of_eq hSd))
  have hpS : ∀ p ∈ pins, p.1 ≠ S := fun p hp => fS.2.2.2.2.2 p (List.mem_append_right _ hp)
  have I1 : Inv X (pins ++ [(S, seqObj "list" #[] 0)]) σ H { s with heap := s.heap.push { cls := .type "list", data := .seq #[] } } := I.newpin (t' := s.toks) (fun b o q => Heap.get?_push_of_some _ q) fun p hp => by
    rcases List.mem_append.mp hp with hp | hp
    · exact .inl hp
    · obtain rfl := List.mem_singleton.mp hp
      exact .inr ⟨Nat.le_of_eq hSd, hS0, fun v z => nomatch z⟩
  refine ⟨⟨_, hS0, rfl⟩, PySem.F.args_list_init_2 _ _, ?_⟩
  show wpAny _ _ (do let old ← Builtin.List.listItems (.ref S); Builtin.List.listUpdate (.ref S) (fun _ => #[]); letGo old.toList.reverse; Builtin.List.listExtendWith (.ref S) (.ref d) .none) _ _ _
  refine wpAny_bind (listItems_at (s := { s with heap := s.heap.push { cls := .type "list", data := .seq #[] } }) hS0 rfl ?_)
  refine wpAny_bind (listUpdate_at (s := { s with heap := s.heap.push { cls := .type "list", data := .seq #[] } }) hS0 rfl ?_ (Nat.zero_le _) (Nat.zero_le _))
  have u1 := Heap.SameBut.update (s.heap.push { cls := .type "list", data := .seq #[] }) S (Obj.mapSeq fun _ => (#[] : Array Value))
  obtain ⟨c1, hc1⟩ : ∃ c1, ((s.heap.push { cls := .type "list", data := .seq #[] }).update S (Obj.mapSeq fun _ => (#[] : Array Value))).get? S = some (seqObj "list" #[] c1) := ⟨_, get?_update_seq hS0 fun _ => #[]⟩
  refine wpAny_bind (wpAny_letGo ?_)
  have I2 : Inv X (pins ++ [(S, seqObj "list" #[] c1)]) σ H { s with heap := (s.heap.push { cls := .type "list", data := .seq #[] }).update S (Obj.mapSeq fun _ => (#[] : Array Value)) } := I1.chpin (s := { s with heap := s.heap.push { cls := .type "list", data := .seq #[] } }) (t' := s.toks) (fS.repin fun p hp => absurd hp (by simp)) u1 fun p hp => by
    rcases List.mem_append.mp hp with hp | hp
    · exact .inl ⟨List.mem_append_left _ hp, hpS p hp⟩
    · obtain rfl := List.mem_singleton.mp hp
      exact .inr ⟨rfl, hc1, fun v z => nomatch z⟩
  generalize (s.heap.push { cls := .type "list", data := .seq #[] }).update S (Obj.mapSeq fun _ => (#[] : Array Value)) = h2 at I2 hc1
  obtain ⟨hs2, hgd2, hx2, _⟩ := I2.frzK hd
  have hT2 : ({ s with heap := h2 } : Shared).TypeIs (.ref d) "dict" := ⟨_, hgd2, hx2.1⟩
  unfold Builtin.List.listExtendWith
  refine wpAny_bind (wpAny_typeOf (T := "dict") hT2 ?_)
  have h1 : Builtin.List.listSameRef (.ref S) (.ref d) = false := by simp [Builtin.List.listSameRef, hSdd]
  have h3 : (Value.type "dict" == Value.type "list") = false := by decide
  have h4 : (Value.type "dict" == Value.type "tuple") = false := by decide
  simp only [h1, h3, h4, Bool.or_false, Bool.false_eq_true, if_false]
  refine wpAny_bind (iter_keys (s := { s with heap := h2 }) hs2 hgd2 hx2 hdt ?_)
  have hTl : ({ s with heap := h2.push { cls := .type "dict_keyiterator", data := .fields #[.ref d, .int 0 0, .int es.size 0, .int ep 0] } } : Shared).TypeIs (.ref d) "dict" := ⟨_, Heap.get?_push_of_some _ hgd2, hx2.1⟩
  refine wpAny_bind (wpAny_holding (hint_dict hTl ?_))
  have hit : (h2.push { cls := .type "dict_keyiterator", data := .fields #[.ref d, .int 0 0, .int es.size 0, .int ep 0] }).IsKeyIter h2.objs.size d 0 kvs.length ep := ⟨_, Heap.get?_push_size _ rfl, rfl, by rw [hsz]; rfl⟩
  have fi : FpOk X (pins ++ [(S, seqObj "list" #[] c1)]) H h2.objs.size := I2.fpOk (Nat.le_refl _) (I2.hok.fresh (Nat.le_refl _))
  have hSi : S ≠ h2.objs.size := Nat.ne_of_lt (Heap.lt_size hc1)
  have hpi : ∀ p ∈ pins, p.1 ≠ h2.objs.size := fun p hp => fi.2.2.2.2.2 p (List.mem_append_right _ (List.mem_append_left _ hp))
  have I3 : Inv X (pins ++ [(S, seqObj "list" #[] c1)]) σ H { s with heap := h2.push { cls := .type "dict_keyiterator", data := .fields #[.ref d, .int 0 0, .int es.size 0, .int ep 0] } } := I2.kept (t' := s.toks) fun b o q => Heap.get?_push_of_some _ q
  refine wpAny_ite_split (fun _ => ?_) (fun hab => absurd (by decide) hab)
  refine wpAny_bind (wpAny_rule ?_)
  refine wpAny_bind ?_
  generalize h2.push { cls := .type "dict_keyiterator", data := .fields #[.ref d, .int 0 0, .int es.size 0, .int ep 0] } = h3 at I3 hit
  have hc2 := (I3.pin (S, seqObj "list" #[] c1) (by simp)).1
  show wpAny _ _ (updateSeq S (·.push .none) >>= fun _ => updateSeq S (·.pop)) _ _ _
  refine wpAny_bind (wpAny_updateSeq (s := { s with heap := h3 }) hc2 rfl ?_)
  have u3 := Heap.SameBut.update h3 S (Obj.mapSeq (·.push Value.none))
  obtain ⟨c3, hc3⟩ : ∃ c3, (h3.update S (Obj.mapSeq (·.push Value.none))).get? S = some (seqObj "list" (#[].push Value.none) c3) := ⟨_, get?_update_seq hc2 (·.push Value.none)⟩
  refine wpAny_updateSeq (s := { s with heap := h3.update S (Obj.mapSeq (·.push Value.none)) }) (hz := by seq_fits) hc3 rfl ?_
  have u4 := Heap.SameBut.update (h3.update S (Obj.mapSeq (·.push Value.none))) S (Obj.mapSeq (·.pop))
  obtain ⟨c4, hc4⟩ : ∃ c4, ((h3.update S (Obj.mapSeq (·.push Value.none))).update S (Obj.mapSeq (·.pop))).get? S = some (seqObj "list" #[] c4) := ⟨_, get?_update_seq hc3 (·.pop)⟩
  have u34 : Heap.SameBut S h3 ((h3.update S (Obj.mapSeq (·.push Value.none))).update S (Obj.mapSeq (·.pop))) := ⟨u4.1.trans u3.1, fun b hb => (u4.2 b hb).trans (u3.2 b hb)⟩
  have I4 : Inv X (pins ++ [(S, seqObj "list" #[] c4)]) σ H { s with heap := (h3.update S (Obj.mapSeq (·.push Value.none))).update S (Obj.mapSeq (·.pop)) } := I3.chpin (s := { s with heap := h3 }) (t' := s.toks) (fS.repin fun p hp => absurd hp (by simp)) u34 fun p hp => by
    rcases List.mem_append.mp hp with hp | hp
    · exact .inl ⟨List.mem_append_left _ hp, hpS p hp⟩
    · obtain rfl := List.mem_singleton.mp hp
      exact .inr ⟨rfl, hc4, fun v z => nomatch z⟩
  have hit4 : ((h3.update S (Obj.mapSeq (·.push Value.none))).update S (Obj.mapSeq (·.pop))).IsKeyIter h2.objs.size d 0 kvs.length ep := hit.at fun o q => (u34.2 _ (Ne.symm hSi)).trans q
  refine wpAny_pure ⟨plainId_quiet F.plain_extend_loop _, ?_⟩
  refine lk_loop (A := X.A.in1) (X := X) (H := H) (d := d) (kvs := kvs) (pins := pins) (σ := σ) (I.ok.hd hc) hSi hd hdt hz hpi hpS (fun s' acc c I' hv => ?_) kvs.length 0 _ #[] c4 (by omega) I4 hit4 .nil (fi.repin fun p hp => absurd hp (by simp)) (fS.repin fun p hp => absurd hp (by simp))
  have g := (I'.pin (S, seqObj "list" acc c) (by simp)).1
  have I6 : Inv X pins σ H s' := I'.unpinned
  have I7 : Inv X pins σ (upd H S (.lst (kvs.map fun p => kV p.1))) s' := I6.adopt fS ⟨by rw [List.length_map]; exact Nat.le_of_lt hz, acc.toList, c, hv, by simpa using g⟩
  have e9 : (upd H S (.lst (kvs.map fun p => kV p.1))) d = some (.frz o (.dK kvs)) := by rw [upd_ne (Ne.symm hSdd)]; exact hd
  have I8 := I7.unlock e9 nofz
  have hHS : H0 S = none := by
    have := fS.1
    rw [← hH, upd_ne hSdd] at this
    exact this
  have e10 : upd (upd H S (.lst (kvs.map fun p => kV p.1))) d (.dK kvs) = upd H0 S (.lst (kvs.map fun p => kV p.1)) := by
    rw [← hH]
    funext b
    by_cases hb : b = d
    · rw [hb, upd_same, upd_ne (Ne.symm hSdd), hd0]
    · rw [upd_ne hb]
      by_cases hb2 : b = S
      · rw [hb2, upd_same, upd_same]
      · rw [upd_ne hb2, upd_ne hb2, upd_ne hb]
  rw [e10] at I8
  exact ⟨rfl, ⟨.ref S, _, I8, rfl, q S hHS⟩⟩
end L2

set_option Elab.async false
set_option linter.all false
set_option maxRecDepth 100000
set_option maxHeartbeats 4000000
namespace L2
open PySem PySem.Spec PyProof.Rows PySem.W
theorem op_isB {X : Cx} : OpR X (compareOp .Is) (fun x y H Q => ∃ b c, x = .bl b ∧ y = .bl c ∧ Q (.bl (b == c)) H) := by
  intro pins s σ H x y v u Q I rx ry h
  obtain ⟨b, c, rfl, rfl, q⟩ := h
  cases rx
  cases ry
  exact is_bool (fin_bl I q rfl)
section
variable {X : Cx}
theorem call_listKK (K : PySem.W.Frag) (hc : X.calm = true) : CallR X (.type "list") rListK := call_listK hc
theorem op_in_seqK (K : PySem.W.Frag) (h : X.K = K := by rfl) : OpR X (compareOp .In) (rIn K false) := by subst h; exact op_in_seq
theorem op_notIn_seqK (K : PySem.W.Frag) (h : X.K = K := by rfl) : OpR X (compareOp .NotIn) (rIn K true) := by subst h; exact op_notIn_seq
theorem cr_sortedK (K : PySem.W.Frag) (h : X.K = K := by rfl) : CallR X (.builtin "sorted") (rSorted K) := by subst h; exact cr_sorted
theorem pg_starK (K : PySem.W.Frag) {e1 e2 : Expr} {k : Nat} {t : TGs} {pos p2 : Pos} (hc : X.calm = true) (h : PGs X [e1, e2] t) (h1 : assignEach [e1, .Starred e2 p2] X.env = [(false, assign e1 X.env), (true, assign e2 X.env)] := by rfl)
    (h2 : (assignEach [e1, e2] X.env).map (·.2) = [assign e1 X.env, assign e2 X.env] := by rfl) (hK : X.K = K := by rfl) : PG X (.Tuple [e1, .Starred e2 p2] k pos) (gStar K t) := by subst hK; exact pg_star hc h h1 h2
end
end L2
namespace L2
open PySem
theorem Room.unit1 {k : Nat} {A : Around} (r : Room k A) : A.units + 1 < cLine := by
  have := r.un
  omega
end L2

set_option Elab.async false
set_option linter.all false
set_option maxRecDepth 100000
set_option maxHeartbeats 4000000
namespace L2
open PySem PySem.Spec PyProof.Rows PySem.W
end L2

set_option Elab.async false
set_option linter.all false
set_option maxRecDepth 100000
set_option maxHeartbeats 4000000
namespace L2
open PySem PySem.Spec PyProof.Rows
section
variable {X : Cx} {a b e : Expr} {ta : TA} {te : TE} {p p2 pos pos2 kpos cpos : Pos} {j : Nat}
end
section
variable {X : Cx} {K : PySem.W.Frag} {e : Expr} {ta : TA} {p p2 pos pos2 kpos cpos : Pos} {j : Nat}
end
section
variable {X : Cx} (K : PySem.W.Frag) {o : Expr} {to : TE} {name : Str} {apos cpos : Pos} {T id : String} {r : V → List V → Hp → VK → Prop}
end
end L2

set_option Elab.async false
set_option linter.all false
set_option maxRecDepth 100000
set_option maxHeartbeats 4000000
namespace L2
open PySem PySem.Spec PyProof.Rows
theorem wpAny_look {M : Model} {A : Around} {E : Value → Shared → Prop} {s : Shared} {a : Addr} {Q : Option Obj → Shared → Prop} (h : Q (s.heap.get? a) s) : wpAny M A (loadIfAlive a) Q E s := fun Γ p hΓ => by
  unfold loadIfAlive
  rw [Sem.wp_loadIfAlive]
  exact (wpAny_pure (M := M) (A := A) (E := E) (Q := Q) (a := s.heap.get? a) (s := s) h) Γ p hΓ
abbrev ZipObj (h : Heap) (z TI TO : Addr) (f0 f1 : Value) : Prop := h.get? z = some { cls := .type "zip", dict := none, data := .fields #[f0, f1, .bool false, .ref TI, .ref TO], slots := #[] }
def ZipSt (h : Heap) (z TI TO : Addr) : Prop := ∃ f0 f1, ZipObj h z TI TO f0 f1 ∧ (f0 = .none ∨ ∃ T : Addr, f0 = rawInt (T : Int))
section
variable {prog : Program} {w : World} {A : Around} {E : Value → Shared → Prop} {s : Shared}
theorem zip_free {z TI TO : Addr} {f0 f1 : Value} {Q : Bool → Shared → Prop} (hz : ZipObj s.heap z TI TO f0 f1) (hf : f0 = .none ∨ ∃ T : Addr, f0 = rawInt (T : Int)) (q1 : Q true s)
    (q2 : ∀ (h' : Heap) (f1' : Value), (∃ T : Addr, f0 = rawInt (T : Int)) → ZipObj h' z TI TO f0 f1' → Heap.SameBut z s.heap h' → Q false { s with heap := h' }) : wpAny (model prog w) A (Builtin.SmallTypes.ownedTupleIsFree (.ref z)) Q E s := by
  unfold Builtin.SmallTypes.ownedTupleIsFree
  refine wpAny_bind (wpAny_field hz rfl (x := f0) rfl ?_)
  rcases hf with rfl | ⟨T, rfl⟩
  · exact wpAny_pure q1
  · show wpAny _ _ (loadIfAlive ((T : Int).toNat) >>= _) _ _ _
    rw [Int.toNat_natCast]
    refine wpAny_bind (wpAny_look ?_)
    cases hT : s.heap.get? T with
    | none =>
      simp only [Option.isNone_none, if_true]
      exact wpAny_pure q1
    | some o =>
      simp only [Option.isNone_some, Bool.false_eq_true, if_false]
      refine wpAny_bind (wpAny_field hz rfl (x := f1) rfl ?_)
      by_cases hf1 : (f1 != .bool true) = true
      · rw [if_pos hf1]
        refine wpAny_bind (wpAny_setField_rec hz (by simp) fun h₅ he₅ hs₅ => ?_)
        exact wpAny_pure (q2 h₅ (.bool true) ⟨T, rfl⟩ he₅ hs₅)
      · rw [if_neg hf1]
        have : s = { s with heap := s.heap } := rfl
        exact wpAny_pure (q2 s.heap f1 ⟨T, rfl⟩ hz (Heap.SameBut.refl _ _))
theorem zst_next {z TI TO i1 i2 l1 l2 : Addr} {k1 k2 : Nat} {xs ys : Array Value} {x y a b : Value} {Q : Value → Shared → Prop} (D : ZipApart z TI TO i1 i2 l1 l2)
    (hz : ZipSt s.heap z TI TO) (hTI : IsPair s.heap TI (.ref i1) (.ref i2)) (hTO : IsPair s.heap TO a b)
    (h1 : s.heap.IsListIter i1 l1 k1) (h2 : s.heap.IsListIter i2 l2 k2) (hl1 : s.heap.IsList l1 xs) (hl2 : s.heap.IsList l2 ys) (hx : xs[k1]? = some x) (hy : ys[k2]? = some y)
    (hQ : ∀ h' a' b', ZipSt h' z TI TO → IsPair h' TO a' b' → h'.IsListIter i1 l1 (k1 + 1) → h'.IsListIter i2 l2 (k2 + 1) → IsPair h' s.heap.objs.size x y → h'.objs.size = s.heap.objs.size + 1 →
      (∀ c o, c ≠ z → c ≠ TO → c ≠ i1 → c ≠ i2 → s.heap.get? c = some o → h'.get? c = some o) → Q (.ref s.heap.objs.size) { s with heap := h' }) :
    wpAny (model prog w) A (Builtin.«zip.__next__» ⟨[.ref z], []⟩) (fun fin s' => ∃ v, fin = .done (.ret v) ∧ Q v s') E s := by
  obtain ⟨f0, f1, hz, hf⟩ := hz
  show wpAny _ _ (field (.ref z) 2 >>= _) _ _ _
  refine wpAny_bind (wpAny_field hz rfl (x := .bool false) rfl ?_)
  show wpAny _ _ (field (.ref z) 3 >>= _) _ _ _
  refine wpAny_bind (wpAny_field hz rfl (x := .ref TI) rfl ?_)
  refine wpAny_bind (wpAny_seqItems hTI rfl ?_)
  show wpAny _ _ (Builtin.SmallTypes.ownedTupleIsFree (.ref z) >>= _) _ _ _
  refine wpAny_bind (zip_free hz hf ?_ fun h₁ f1' hf' hz₁ hs₁ => ?_)
  · simp only [if_true]
    refine wpAny_bind (wpAny_rule ?_)
    refine wpAny_bind (wpAny_field hz rfl (x := .ref TO) rfl ?_)
    refine wpAny_bind (wpAny_setField_rec hz (by simp) fun h₁ hz₁ hs₁ => ?_)
    replace hz₁ : ZipObj h₁ z TI TO .ellipsis f1 := hz₁
    refine wpAny_bind ?_
    simp only [List.zipIdx_cons, List.zipIdx_nil, List.forIn_cons, List.forIn_nil]
    refine wpAny_bind (wpAny_bind (wpAny_onRaise ?_))
    show wpAny _ _ (Builtin.SmallTypes.nextOf (.ref i1) >>= _) _ _ _
    refine wpAny_bind (wpAny_nextOf_list_item (h1.extBut hs₁.extBut D.i1z) (hl1.extBut hs₁.extBut D.l1z) hx fun h₂ h1₂ hs₂ => wpAny_pure ?_)
    have hTO₂ : IsPair h₂ TO a b := hs₂.extBut _ _ D.TOi1 (hs₁.extBut _ _ D.TOz hTO)
    refine wpAny_bind (wpAny_seqItems hTO₂ rfl ?_)
    refine wpAny_bind (wpAny_updateSeq_pair hTO₂ fun h₃ hTO₃ hs₃ => ?_)
    replace hTO₃ : IsPair h₃ TO x b := hTO₃
    refine wpAny_bind (wpAny_letGo (wpAny_pure ?_))
    refine wpAny_bind (wpAny_bind (wpAny_onRaise ?_))
    show wpAny _ _ (Builtin.SmallTypes.nextOf (.ref i2) >>= _) _ _ _
    refine wpAny_bind (wpAny_nextOf_list_item (((h2.extBut hs₁.extBut D.i2z).extBut hs₂.extBut D.i12.symm).extBut hs₃.extBut D.TOi2.symm)
      (((hl2.extBut hs₁.extBut D.l2z).extBut hs₂.extBut D.l2i1).extBut hs₃.extBut D.l2TO) hy fun h₄ h2₄ hs₄ => wpAny_pure ?_)
    have hTO₄ : IsPair h₄ TO x b := hs₄.extBut _ _ D.TOi2 hTO₃
    refine wpAny_bind (wpAny_seqItems hTO₄ rfl ?_)
    refine wpAny_bind (wpAny_updateSeq_pair hTO₄ fun h₅ hTO₅ hs₅ => ?_)
    replace hTO₅ : IsPair h₅ TO x y := hTO₅
    refine wpAny_bind (wpAny_letGo (wpAny_pure (wpAny_pure ?_)))
    refine wpAny_bind (wpAny_seqItems hTO₅ rfl ?_)
    refine wpAny_bind (wpAny_newTuple ?_)
    have hsz : h₅.objs.size = s.heap.objs.size := by rw [hs₅.1, hs₄.1, hs₃.1, hs₂.1, hs₁.1]
    have hz₅ : ZipObj h₅ z TI TO .ellipsis f1 := hs₅.extBut _ _ D.TOz.symm (hs₄.extBut _ _ D.i2z.symm (hs₃.extBut _ _ D.TOz.symm (hs₂.extBut _ _ D.i1z.symm hz₁)))
    have hk₅ : ∀ c o, c ≠ z → c ≠ TO → c ≠ i1 → c ≠ i2 → s.heap.get? c = some o → h₅.get? c = some o := fun c o c1 c2 c3 c4 e =>
      hs₅.extBut _ _ c2 (hs₄.extBut _ _ c4 (hs₃.extBut _ _ c2 (hs₂.extBut _ _ c3 (hs₁.extBut _ _ c1 e))))
    have h1₅ : h₅.IsListIter i1 l1 (k1 + 1) := ((h1₂.extBut hs₃.extBut D.TOi1.symm).extBut hs₄.extBut D.i12).extBut hs₅.extBut D.TOi1.symm
    have h2₅ : h₅.IsListIter i2 l2 (k2 + 1) := h2₄.extBut hs₅.extBut D.TOi2.symm
    have hzlt : z < h₅.objs.size := Heap.lt_size hz₅
    show wpAny _ _ (Builtin.SmallTypes.ownedTupleHandOut (.ref z) (.ref h₅.objs.size) >>= _) _ _ _
    refine wpAny_bind ?_
    unfold Builtin.SmallTypes.ownedTupleHandOut
    have hz₆ : ZipObj (h₅.push { cls := .type "tuple", data := .seq #[x, y] }) z TI TO .ellipsis f1 := Heap.get?_push_of_some _ hz₅
    refine wpAny_bind (wpAny_setField_rec hz₆ (by simp) fun h₇ hz₇ hs₇ => ?_)
    replace hz₇ : ZipObj h₇ z TI TO (rawInt h₅.objs.size) f1 := hz₇
    refine wpAny_setField_rec hz₇ (by simp) fun h₈ hz₈ hs₈ => ?_
    replace hz₈ : ZipObj h₈ z TI TO (rawInt h₅.objs.size) (.bool false) := hz₈
    have up : ∀ c o, c ≠ z → h₅.get? c = some o → h₈.get? c = some o := fun c o c1 e => hs₈.extBut _ _ c1 (hs₇.extBut _ _ c1 (Heap.get?_push_of_some _ e))
    have hT₈ : IsPair h₈ h₅.objs.size x y := hs₈.extBut _ _ (Nat.ne_of_gt hzlt) (hs₇.extBut _ _ (Nat.ne_of_gt hzlt) (Heap.get?_push_size _ rfl))
    have hz8 : h₈.objs.size = h₅.objs.size + 1 := by rw [hs₈.1, hs₇.1, Heap.size_push]
    rw [hsz] at hz₈ hT₈ hz8
    refine wpAny_pure ⟨_, rfl, ?_⟩
    show Q (.ref h₅.objs.size) _
    rw [hsz]
    exact hQ h₈ x y ⟨_, _, hz₈, .inr ⟨_, rfl⟩⟩ (up _ _ D.TOz hTO₅) (h1₅.at fun o e => up _ o D.i1z e) (h2₅.at fun o e => up _ o D.i2z e) hT₈ hz8 fun c o c1 c2 c3 c4 e => up c o c1 (hk₅ c o c1 c2 c3 c4 e)
  · simp only [Bool.false_eq_true, if_false]
    rw [← Array.forIn_toList]
    simp only [List.forIn_cons, List.forIn_nil]
    refine wpAny_bind ?_
    refine wpAny_bind (wpAny_bind (wpAny_holding ?_))
    show wpAny _ _ (Builtin.SmallTypes.nextOf (.ref i1) >>= _) _ _ _
    refine wpAny_bind (wpAny_nextOf_list_item (h1.extBut hs₁.extBut D.i1z) (hl1.extBut hs₁.extBut D.l1z) hx fun h₂ h1₂ hs₂ => wpAny_pure (wpAny_pure ?_))
    refine wpAny_bind (wpAny_bind (wpAny_holding ?_))
    show wpAny _ _ (Builtin.SmallTypes.nextOf (.ref i2) >>= _) _ _ _
    refine wpAny_bind (wpAny_nextOf_list_item ((h2.extBut hs₁.extBut D.i2z).extBut hs₂.extBut D.i12.symm) ((hl2.extBut hs₁.extBut D.l2z).extBut hs₂.extBut D.l2i1) hy fun h₄ h2₄ hs₄ => wpAny_pure (wpAny_pure (wpAny_pure ?_)))
    show wpAny _ _ (newTuple [x, y] >>= _) _ _ _
    refine wpAny_bind (wpAny_newTuple ?_)
    have hsz : h₄.objs.size = s.heap.objs.size := by rw [hs₄.1, hs₂.1, hs₁.1]
    have hz₄ : ZipObj h₄ z TI TO f0 f1' := hs₄.extBut _ _ D.i2z.symm (hs₂.extBut _ _ D.i1z.symm hz₁)
    have hTO₄ : IsPair h₄ TO a b := hs₄.extBut _ _ D.TOi2 (hs₂.extBut _ _ D.TOi1 (hs₁.extBut _ _ D.TOz hTO))
    have h1₄ : h₄.IsListIter i1 l1 (k1 + 1) := h1₂.extBut hs₄.extBut D.i12
    have up : ∀ c o, h₄.get? c = some o → (h₄.push { cls := .type "tuple", data := .seq #[x, y] }).get? c = some o := fun c o e => Heap.get?_push_of_some _ e
    have hT : IsPair (h₄.push { cls := .type "tuple", data := .seq #[x, y] }) s.heap.objs.size x y := by
      rw [← hsz]
      exact Heap.get?_push_size _ rfl
    refine wpAny_pure ⟨_, rfl, ?_⟩
    show Q (.ref h₄.objs.size) _
    rw [hsz]
    exact hQ _ a b ⟨_, _, up _ _ hz₄, .inr hf'⟩ (up _ _ hTO₄) (h1₄.at fun o e => up _ o e) (h2₄.at fun o e => up _ o e) hT (by rw [Heap.size_push, hsz]) fun c o c1 c2 c3 c4 e => up c o (hs₄.extBut _ _ c4 (hs₂.extBut _ _ c3 (hs₁.extBut _ _ c1 e)))
theorem zst_end {z TI TO i1 i2 l1 l2 : Addr} {k1 k2 : Nat} {xs ys : Array Value} {a b : Value} {Q : Fin → Shared → Prop} (hh : A.handled = none) (D : ZipApart z TI TO i1 i2 l1 l2)
    (hz : ZipSt s.heap z TI TO) (hTI : IsPair s.heap TI (.ref i1) (.ref i2)) (hTO : IsPair s.heap TO a b)
    (h1 : s.heap.IsListIter i1 l1 k1) (h2 : s.heap.IsListIter i2 l2 k2) (hl1 : s.heap.IsList l1 xs) (hl2 : s.heap.IsList l2 ys) (hend : xs[k1]? = none ∨ ys[k2]? = none)
    (hE : ∀ h' e, (∀ c o, c ≠ z → c ≠ TO → c ≠ i1 → c ≠ i2 → s.heap.get? c = some o → h'.get? c = some o) → (∃ o, h'.get? e = some o ∧ o.cls = .type "StopIteration") → E (.ref e) { s with heap := h' }) :
    wpAny (model prog w) A (Builtin.«zip.__next__» ⟨[.ref z], []⟩) Q E s := by
  obtain ⟨f0, f1, hz, hf⟩ := hz
  show wpAny _ _ (field (.ref z) 2 >>= _) _ _ _
  refine wpAny_bind (wpAny_field hz rfl (x := .bool false) rfl ?_)
  show wpAny _ _ (field (.ref z) 3 >>= _) _ _ _
  refine wpAny_bind (wpAny_field hz rfl (x := .ref TI) rfl ?_)
  refine wpAny_bind (wpAny_seqItems hTI rfl ?_)
  show wpAny _ _ (Builtin.SmallTypes.ownedTupleIsFree (.ref z) >>= _) _ _ _
  refine wpAny_bind (zip_free hz hf ?_ fun h₁ f1' hf' hz₁ hs₁ => ?_)
  · simp only [if_true]
    refine wpAny_bind (wpAny_rule ?_)
    refine wpAny_bind (wpAny_field hz rfl (x := .ref TO) rfl ?_)
    refine wpAny_bind (wpAny_setField_rec hz (by simp) fun h₁ hz₁ hs₁ => ?_)
    replace hz₁ : ZipObj h₁ z TI TO .ellipsis f1 := hz₁
    refine wpAny_bind ?_
    simp only [List.zipIdx_cons, List.zipIdx_nil, List.forIn_cons, List.forIn_nil]
    refine wpAny_bind (wpAny_bind (wpAny_onRaise ?_))
    show wpAny _ _ (Builtin.SmallTypes.nextOf (.ref i1) >>= _) _ _ _
    cases hx : xs[k1]? with
    | none =>
      refine wpAny_bind (wpAny_nextOf_list_end hh (h1.extBut hs₁.extBut D.i1z) (hl1.extBut hs₁.extBut D.l1z) hx fun h₂ e hs₂ he => ?_)
      obtain ⟨oe, hoe, hce⟩ := he
      have hz₂ : ZipObj h₂ z TI TO .ellipsis f1 := hs₂ _ _ D.i1z.symm hz₁
      have hez : e ≠ z := fun x => by subst x; rw [hz₂] at hoe; cases hoe; simp at hce
      refine wpAny_setField_rec hz₂ (by simp) fun h₃ _ hs₃ => hE h₃ e (fun c o c1 _ c3 _ x => hs₃.extBut _ _ c1 (hs₂ _ _ c3 (hs₁.extBut _ _ c1 x))) ⟨oe, hs₃.extBut _ _ hez hoe, hce⟩
    | some x =>
      have hy : ys[k2]? = none := by rcases hend with h | h; rw [hx] at h; cases h; exact h
      refine wpAny_bind (wpAny_nextOf_list_item (h1.extBut hs₁.extBut D.i1z) (hl1.extBut hs₁.extBut D.l1z) hx fun h₂ h1₂ hs₂ => wpAny_pure ?_)
      have hTO₂ : IsPair h₂ TO a b := hs₂.extBut _ _ D.TOi1 (hs₁.extBut _ _ D.TOz hTO)
      refine wpAny_bind (wpAny_seqItems hTO₂ rfl ?_)
      refine wpAny_bind (wpAny_updateSeq_pair hTO₂ fun h₃ hTO₃ hs₃ => ?_)
      refine wpAny_bind (wpAny_letGo (wpAny_pure ?_))
      refine wpAny_bind (wpAny_bind (wpAny_onRaise ?_))
      show wpAny _ _ (Builtin.SmallTypes.nextOf (.ref i2) >>= _) _ _ _
      refine wpAny_bind (wpAny_nextOf_list_end hh (((h2.extBut hs₁.extBut D.i2z).extBut hs₂.extBut D.i12.symm).extBut hs₃.extBut D.TOi2.symm)
        (((hl2.extBut hs₁.extBut D.l2z).extBut hs₂.extBut D.l2i1).extBut hs₃.extBut D.l2TO) hy fun h₄ e hs₄ he => ?_)
      obtain ⟨oe, hoe, hce⟩ := he
      have hz₄ : ZipObj h₄ z TI TO .ellipsis f1 := hs₄ _ _ D.i2z.symm (hs₃.extBut _ _ D.TOz.symm (hs₂.extBut _ _ D.i1z.symm hz₁))
      have hez : e ≠ z := fun x => by subst x; rw [hz₄] at hoe; cases hoe; simp at hce
      refine wpAny_setField_rec hz₄ (by simp) fun h₅ _ hs₅ => hE h₅ e (fun c o c1 c2 c3 c4 x => hs₅.extBut _ _ c1 (hs₄ _ _ c4 (hs₃.extBut _ _ c2 (hs₂.extBut _ _ c3 (hs₁.extBut _ _ c1 x))))) ⟨oe, hs₅.extBut _ _ hez hoe, hce⟩
  · simp only [Bool.false_eq_true, if_false]
    rw [← Array.forIn_toList]
    simp only [List.forIn_cons, List.forIn_nil]
    refine wpAny_bind ?_
    refine wpAny_bind (wpAny_bind (wpAny_holding ?_))
    show wpAny _ _ (Builtin.SmallTypes.nextOf (.ref i1) >>= _) _ _ _
    cases hx : xs[k1]? with
    | none =>
      exact wpAny_bind (wpAny_nextOf_list_end hh (h1.extBut hs₁.extBut D.i1z) (hl1.extBut hs₁.extBut D.l1z) hx fun h₂ e hs₂ he => hE h₂ e (fun c o c1 _ c3 _ x => hs₂ _ _ c3 (hs₁.extBut _ _ c1 x)) he)
    | some x =>
      have hy : ys[k2]? = none := by rcases hend with h | h; rw [hx] at h; cases h; exact h
      refine wpAny_bind (wpAny_nextOf_list_item (h1.extBut hs₁.extBut D.i1z) (hl1.extBut hs₁.extBut D.l1z) hx fun h₂ h1₂ hs₂ => wpAny_pure (wpAny_pure ?_))
      refine wpAny_bind (wpAny_bind (wpAny_holding ?_))
      show wpAny _ _ (Builtin.SmallTypes.nextOf (.ref i2) >>= _) _ _ _
      exact wpAny_bind (wpAny_nextOf_list_end hh ((h2.extBut hs₁.extBut D.i2z).extBut hs₂.extBut D.i12.symm) ((hl2.extBut hs₁.extBut D.l2z).extBut hs₂.extBut D.l2i1) hy fun h₄ e hs₄ he => hE h₄ e (fun c o c1 _ c3 c4 x => hs₄ _ _ c4 (hs₂.extBut _ _ c3 (hs₁.extBut _ _ c1 x))) he)
theorem ez_next {e z TI TO i1 i2 l1 l2 : Addr} {k : Nat} {xs ys : Array Value} {x y a b old : Value} {Q : Option Value → Shared → Prop} (D : ZipApart z TI TO i1 i2 l1 l2) (he : IsEnum s.heap e z k old)
    (hz : ZipSt s.heap z TI TO) (hTI : IsPair s.heap TI (.ref i1) (.ref i2)) (hTO : IsPair s.heap TO a b) (n1 : e ≠ z) (n2 : e ≠ TO) (n3 : e ≠ i1) (n4 : e ≠ i2)
    (h1 : s.heap.IsListIter i1 l1 k) (h2 : s.heap.IsListIter i2 l2 k) (hl1 : s.heap.IsList l1 xs) (hl2 : s.heap.IsList l2 ys) (hx : xs[k]? = some x) (hy : ys[k]? = some y)
    (hQ : ∀ h' tk a' b', IsEnumOut h' e z ((k : Int) + 1) (.ref s.heap.objs.size) (s.heap.objs.size + 1) → ZipSt h' z TI TO → IsPair h' TO a' b' → h'.IsListIter i1 l1 (k + 1) → h'.IsListIter i2 l2 (k + 1) → IsPair h' s.heap.objs.size x y →
      h'.get? (s.heap.objs.size + 1) = some { cls := .type "tuple", data := .seq #[.int k tk, .ref s.heap.objs.size] } → h'.objs.size = s.heap.objs.size + 2 →
      (∀ c o, c ≠ e → c ≠ z → c ≠ TO → c ≠ i1 → c ≠ i2 → s.heap.get? c = some o → h'.get? c = some o) → Q (some (.ref (s.heap.objs.size + 1))) { s with heap := h', toks := tk + 1 }) :
    wpAny (model prog w) A (pyNext (.ref e)) Q E s := by
  have hT : s.TypeIs (.ref e) "enumerate" := ⟨_, he, rfl⟩
  unfold pyNext
  refine wpAny_bind (wpAny_attempt (wpAny_callSpecial?_slot (name := Str.ofString "__next__") hT F.slot_enumerate_next ?_))
  refine wpAny_call_entry F.slot_enumerate_next hT F.entry_enumerate_next ?_ (F.args_enumerate_next_1 _)
  obtain ⟨hp, g, d, tk, os⟩ := s
  have hel : e < hp.objs.size := Heap.lt_size he
  show wpAny _ _ (field (.ref e) 2 >>= _) _ _ _
  refine wpAny_bind (wpAny_field he rfl (x := .ref z) rfl ?_)
  have hTz : Shared.TypeIs ⟨hp, g, d, tk, os⟩ (.ref z) "zip" := by
    obtain ⟨f0, f1, q, _⟩ := hz
    exact ⟨_, q, rfl⟩
  unfold Builtin.SmallTypes.nextOf
  refine wpAny_bind (wpAny_bind (wpAny_callSpecial?_slot (name := Str.ofString "__next__") hTz F.slot_zip_next (wpAny_call_entry F.slot_zip_next hTz F.entry_zip_next (zst_next D hz hTI hTO h1 h2 hl1 hl2 hx hy fun h₁ a' b' hz₁ hTO₁ h1₁ h2₁ hP₁ hsz₁ hk₁ => ?_) (F.args_zip_next_1 _))))
  refine wpAny_pure ?_
  replace hsz₁ : h₁.objs.size = hp.objs.size + 1 := hsz₁
  replace hP₁ : IsPair h₁ hp.objs.size x y := hP₁
  have he₁ : IsEnum h₁ e z k old := hk₁ _ _ n1 n2 n3 n4 he
  show wpAny _ _ (field (.ref e) 3 >>= _) _ _ ⟨h₁, g, d, tk, os⟩
  refine wpAny_bind (wpAny_field he₁ rfl (x := rawInt k) rfl ?_)
  show wpAny _ _ (field (.ref e) 4 >>= _) _ _ ⟨h₁, g, d, tk, os⟩
  refine wpAny_bind (wpAny_field he₁ rfl (x := .none) rfl ?_)
  show wpAny _ _ (mkInt k >>= _) _ _ ⟨h₁, g, d, tk, os⟩
  refine wpAny_bind (wpAny_mkInt ?_)
  show wpAny _ _ (setField (.ref e) 3 (rawInt ((k : Int) + 1)) >>= _) _ _ ⟨h₁, g, d, tk + 1, os⟩
  refine wpAny_bind (wpAny_setField_rec he₁ (by simp) fun h₂ he₂ hs₂ => ?_)
  replace hs₂ : Heap.SameBut e h₁ h₂ := hs₂
  replace he₂ : IsEnum h₂ e z ((k : Int) + 1) old := he₂
  show wpAny _ _ (setField (.ref e) 4 .none >>= _) _ _ ⟨h₂, g, d, tk + 1, os⟩
  refine wpAny_bind (wpAny_setField_rec he₂ (by simp) fun h₃ he₃ hs₃ => ?_)
  replace hs₃ : Heap.SameBut e h₂ h₃ := hs₃
  replace he₃ : IsEnum h₃ e z ((k : Int) + 1) old := he₃
  show wpAny _ _ (newTuple [.int k tk, .ref hp.objs.size] >>= _) _ _ ⟨h₃, g, d, tk + 1, os⟩
  refine wpAny_bind (wpAny_newTuple ?_)
  have he₄ := Heap.get?_push_of_some { cls := .type "tuple", data := .seq #[.int k tk, .ref hp.objs.size] } he₃
  have hsz : h₃.objs.size = hp.objs.size + 1 := by rw [hs₃.1, hs₂.1, hsz₁]
  have up : ∀ c o, c ≠ e → h₁.get? c = some o → (h₃.push { cls := .type "tuple", data := .seq #[.int k tk, .ref hp.objs.size] }).get? c = some o := fun c o hc q => Heap.get?_push_of_some _ (hs₃.extBut _ _ hc (hs₂.extBut _ _ hc q))
  have ht₄ : (h₃.push { cls := .type "tuple", data := .seq #[.int k tk, .ref hp.objs.size] }).get? (hp.objs.size + 1) = some { cls := .type "tuple", data := .seq #[.int k tk, .ref hp.objs.size] } := by
    rw [← hsz]
    exact Heap.get?_push_size _ rfl
  have hz₄ : (h₃.push { cls := .type "tuple", data := .seq #[.int k tk, .ref hp.objs.size] }).objs.size = hp.objs.size + 2 := by rw [Heap.size_push, hsz]
  show wpAny _ _ (Builtin.SmallTypes.ownedTupleIsFree (.ref e) >>= _) _ _ ⟨h₃.push { cls := .type "tuple", data := .seq #[.int k tk, .ref hp.objs.size] }, g, d, tk + 1, os⟩
  rw [hsz]
  generalize h₃.push { cls := .type "tuple", data := .seq #[.int k tk, .ref hp.objs.size] } = h₄ at he₄ up ht₄ hz₄
  refine wpAny_bind ?_
  unfold Builtin.SmallTypes.ownedTupleIsFree
  refine wpAny_bind (wpAny_field he₄ rfl (x := .none) rfl ?_)
  refine wpAny_pure ?_
  simp only [if_true]
  refine wpAny_bind (wpAny_rule ?_)
  refine wpAny_bind (wpAny_field he₄ rfl (x := old) rfl ?_)
  refine wpAny_bind (wpAny_setField_rec he₄ (by simp) fun h₅ he₅ hs₅ => ?_)
  replace hs₅ : Heap.SameBut e h₄ h₅ := hs₅
  refine wpAny_bind ?_
  unfold Builtin.SmallTypes.ownedTupleHandOut
  refine wpAny_bind (wpAny_setField_rec he₅ (by simp) fun h₆ he₆ hs₆ => ?_)
  replace hs₆ : Heap.SameBut e h₅ h₆ := hs₆
  refine wpAny_setField_rec he₆ (by simp) fun h₇ he₇ hs₇ => ?_
  replace hs₇ : Heap.SameBut e h₆ h₇ := hs₇
  have up7 : ∀ c o, c ≠ e → h₄.get? c = some o → h₇.get? c = some o := fun c o hc q => hs₇.extBut _ _ hc (hs₆.extBut _ _ hc (hs₅.extBut _ _ hc q))
  have ne1 : hp.objs.size + 1 ≠ e := Nat.ne_of_gt (Nat.lt_succ_of_lt hel)
  have ne0 : hp.objs.size ≠ e := Nat.ne_of_gt hel
  have hzt : ZipSt h₇ z TI TO := by
    obtain ⟨f0, f1, q, r⟩ := hz₁
    exact ⟨f0, f1, up7 _ _ (Ne.symm n1) (up _ _ (Ne.symm n1) q), r⟩
  refine wpAny_bind (wpAny_letGo (wpAny_pure ⟨_, rfl, wpAny_pure (hQ h₇ tk a' b' he₇ hzt (up7 _ _ (Ne.symm n2) (up _ _ (Ne.symm n2) hTO₁)) (h1₁.at fun o q => up7 _ o (Ne.symm n3) (up _ o (Ne.symm n3) q)) (h2₁.at fun o q => up7 _ o (Ne.symm n4) (up _ o (Ne.symm n4) q)) (up7 _ _ ne0 (up _ _ ne0 hP₁)) (up7 _ _ ne1 ht₄) ?_ ?_)⟩))
  · rw [hs₇.1, hs₆.1, hs₅.1, hz₄]
  · exact fun c o c0 c1 c2 c3 c4 q => up7 c o c0 (up c o c0 (hk₁ c o c1 c2 c3 c4 q))
theorem ez_end {e z TI TO i1 i2 l1 l2 : Addr} {k : Nat} {kk : Int} {xs ys : Array Value} {a b old : Value} {Q : Option Value → Shared → Prop} (hh : A.handled = none) (D : ZipApart z TI TO i1 i2 l1 l2) (he : IsEnum s.heap e z kk old)
    (hz : ZipSt s.heap z TI TO) (hTI : IsPair s.heap TI (.ref i1) (.ref i2)) (hTO : IsPair s.heap TO a b)
    (h1 : s.heap.IsListIter i1 l1 k) (h2 : s.heap.IsListIter i2 l2 k) (hl1 : s.heap.IsList l1 xs) (hl2 : s.heap.IsList l2 ys) (hend : xs[k]? = none ∨ ys[k]? = none)
    (hQ : ∀ h', (∀ c o, c ≠ z → c ≠ TO → c ≠ i1 → c ≠ i2 → s.heap.get? c = some o → h'.get? c = some o) → Q none { s with heap := h' }) : wpAny (model prog w) A (pyNext (.ref e)) Q E s := by
  have hT : s.TypeIs (.ref e) "enumerate" := ⟨_, he, rfl⟩
  unfold pyNext
  refine wpAny_bind (wpAny_attempt (wpAny_callSpecial?_slot (name := Str.ofString "__next__") hT F.slot_enumerate_next ?_))
  refine wpAny_call_entry F.slot_enumerate_next hT F.entry_enumerate_next ?_ (F.args_enumerate_next_1 _)
  show wpAny _ _ (field (.ref e) 2 >>= _) _ _ _
  refine wpAny_bind (wpAny_field he rfl (x := .ref z) rfl ?_)
  have hTz : s.TypeIs (.ref z) "zip" := by
    obtain ⟨f0, f1, q, _⟩ := hz
    exact ⟨_, q, rfl⟩
  unfold Builtin.SmallTypes.nextOf
  refine wpAny_bind (wpAny_bind (wpAny_callSpecial?_slot (name := Str.ofString "__next__") hTz F.slot_zip_next (wpAny_call_entry F.slot_zip_next hTz F.entry_zip_next (zst_end hh D hz hTI hTO h1 h2 hl1 hl2 hend fun h' x hk hx => ?_) (F.args_zip_next_1 _))))
  obtain ⟨o, ho, hc⟩ := hx
  refine wpAny_bind (wpAny_isInstance (T := "StopIteration") (b := true) ⟨o, ho, hc⟩ isSubtype_stop ?_)
  exact wpAny_pure (hQ _ hk)
end
def Itez (K : PySem.W.Frag) (a b : Addr) : It :=
  ⟨fun i H => ∃ (xs ys : List V) (x y : V), SqL K H a xs ∧ SqL K H b ys ∧ xs[i]? = some x ∧ ys[i]? = some y,
    fun i H v H' => ∃ T T2 x y, v = .ref T ∧ H T2 = none ∧ H T = none ∧ T ≠ T2 ∧ H' = upd (upd H T2 (.tup [x, y])) T (.tup [.int (i : Nat), .ref T2]) ∧ (∀ xs, SqL K H a xs → xs[i]? = some x) ∧ ∀ ys, SqL K H b ys → ys[i]? = some y,
    fun i H => ∃ xs ys : List V, SqL K H a xs ∧ SqL K H b ys ∧ (xs.length ≤ i ∨ ys.length ≤ i)⟩
theorem turn_ez {P : Program} {w : World} {K : PySem.W.Frag} {elts : List Expr} {kk : Nat} {tpos : Pos} {a b e z TI TO i1 i2 : Addr} (D : ZipApart z TI TO i1 i2 a b) (n1 : e ≠ z) (n2 : e ≠ TO) (n3 : e ≠ i1) (n4 : e ≠ i2) (n5 : e ≠ TI) :
    Turn P w K (.Tuple elts kk tpos) (Itez K a b) [e, z, TI, TO, i1, i2] e (fun i h => (∃ old, IsEnum h e z ((i : Nat) : Int) old) ∧ ZipSt h z TI TO ∧ IsPair h TI (.ref i1) (.ref i2) ∧ (∃ x y, IsPair h TO x y) ∧ h.IsListIter i1 a i ∧ h.IsListIter i2 b i) where
  mem := by simp
  obj := fun i h st c hc => by
    obtain ⟨⟨old, he⟩, ⟨f0, f1, hz, _⟩, hTI, ⟨x, y, hTO⟩, ⟨o1, e1, _, d1⟩, ⟨o2, e2, _, d2⟩⟩ := st
    have e' : c = e ∨ c = z ∨ c = TI ∨ c = TO ∨ c = i1 ∨ c = i2 := by simpa using hc
    rcases e' with q | q | q | q | q | q
    · rw [q]; exact ⟨_, he, fun v q => nomatch q⟩
    · rw [q]; exact ⟨_, hz, fun v q => nomatch q⟩
    · rw [q]; exact ⟨_, hTI, fun v q => nomatch q⟩
    · rw [q]; exact ⟨_, hTO, fun v q => nomatch q⟩
    · rw [q]; exact ⟨o1, e1, fun v q => by rw [d1] at q; cases q⟩
    · rw [q]; exact ⟨o2, e2, fun v q => by rw [d2] at q; cases q⟩
  keep := fun i h h' st k => by
    obtain ⟨⟨old, he⟩, ⟨f0, f1, hz, hf⟩, hTI, ⟨x, y, hTO⟩, h1, h2⟩ := st
    exact ⟨⟨old, k e (by simp) _ he⟩, ⟨f0, f1, k z (by simp) _ hz, hf⟩, k TI (by simp) _ hTI, ⟨x, y, k TO (by simp) _ hTO⟩, h1.at fun o q => k i1 (by simp) o q, h2.at fun o q => k i2 (by simp) o q⟩
  item := by
    intro X hP hw hK hc i pins s σ H E I hf st hg
    subst hP hw hK
    obtain ⟨⟨old, he⟩, hz, hTI, ⟨x0, y0, hTO⟩, h1, h2⟩ := st
    obtain ⟨xs, ys, x, y, hqx, hqy, hx, hy⟩ := hg
    obtain ⟨its, rv, p, _⟩ := I.list hqx
    obtain ⟨its2, rv2, p2, _⟩ := I.list hqy
    obtain ⟨u, hu, ru⟩ := rv.get hx
    obtain ⟨u2, hu2, ru2⟩ := rv2.get hy
    have hel : e < s.heap.objs.size := Heap.lt_size he
    refine ez_next D he hz hTI hTO n1 n2 n3 n4 h1 h2 p.isList p2.isList (x := u) (y := u2) (by simpa using hu) (by simpa using hu2) fun h' tk a' b' ho hz' hTO' h1' h2' hP' hT' hsz hk => ?_
    refine ⟨_, rfl, wpAny_letOwnedTupleGo_enum (s := { s with heap := h', toks := tk + 1 }) ho fun h'' he'' sb => ?_⟩
    have up : ∀ c o, c ≠ e → h'.get? c = some o → h''.get? c = some o := fun c o hce q => (sb.2 c hce).trans q
    have ne0 : s.heap.objs.size ≠ e := Nat.ne_of_gt hel
    have ne1 : s.heap.objs.size + 1 ≠ e := Nat.ne_of_gt (Nat.lt_succ_of_lt hel)
    have hP2 : h''.get? s.heap.objs.size = some { cls := .type "tuple", data := .seq #[u, u2] } := up _ _ ne0 hP'
    have hT2 : h''.get? (s.heap.objs.size + 1) = some { cls := .type "tuple", data := .seq #[.int ((i : Nat) : Int) tk, .ref s.heap.objs.size] } := up _ _ ne1 hT'
    have kp : ∀ c o, c ∉ [e, z, TI, TO, i1, i2] → s.heap.get? c = some o → h''.get? c = some o := fun c o hb q =>
      up c o (fun q' => hb (by simp [q'])) (hk c o (fun q' => hb (by simp [q'])) (fun q' => hb (by simp [q'])) (fun q' => hb (by simp [q'])) (fun q' => hb (by simp [q'])) (fun q' => hb (by simp [q'])) q)
    have f0 : H s.heap.objs.size = none := I.hok.fresh (Nat.le_refl _)
    have f1 : H (s.heap.objs.size + 1) = none := I.hok.fresh (Nat.le_succ _)
    have new1 : ObjOk X.prog X.w (upd H s.heap.objs.size (.tup [x, y])) h'' s.heap.objs.size (.tup [x, y]) := ⟨by show 2 ≤ sizeLine; decide, [u, u2], .cons ru (.cons ru2 .nil), ⟨_, hP2, rfl, _, rfl⟩⟩
    have I1 : Inv X pins σ (upd H s.heap.objs.size (.tup [x, y])) { s with heap := h'', toks := tk + 1 } := I.turnedNew (t' := tk + 1) (ch := [e, z, TI, TO, i1, i2]) kp hf (Nat.le_refl _) new1
    have n10 : s.heap.objs.size + 1 ≠ s.heap.objs.size := Nat.succ_ne_self _
    have f1' : (upd H s.heap.objs.size (.tup [x, y])) (s.heap.objs.size + 1) = none := by
      rw [upd_ne n10]
      exact f1
    obtain ⟨_, g1, g2, g3, g4, g5⟩ := I.fpOk (Nat.le_succ _) (I.hok.fresh (Nat.le_succ _))
    have new2 : ObjOk X.prog X.w (upd (upd H s.heap.objs.size (.tup [x, y])) (s.heap.objs.size + 1) (.tup [.int ((i : Nat) : Int), .ref s.heap.objs.size])) h'' (s.heap.objs.size + 1) (.tup [.int ((i : Nat) : Int), .ref s.heap.objs.size]) :=
      ⟨by show 2 ≤ sizeLine; decide, [.int ((i : Nat) : Int) tk, .ref s.heap.objs.size], .cons ⟨_, rfl⟩ (.cons rfl .nil), ⟨_, hT2, rfl, _, rfl⟩⟩
    have I2 : Inv X pins σ (upd (upd H s.heap.objs.size (.tup [x, y])) (s.heap.objs.size + 1) (.tup [.int ((i : Nat) : Int), .ref s.heap.objs.size])) { s with heap := h'', toks := tk + 1 } := I1.adopt ⟨f1', g1, g2, g3, g4, g5⟩ new2
    refine ⟨.ref (s.heap.objs.size + 1), _, I2, rfl, ⟨_, _, x, y, rfl, f0, f1, n10, rfl, fun l hl => by rw [I.list_inj hl hqx]; exact hx, fun l hl => by rw [I.list_inj hl hqy]; exact hy⟩, ⟨⟨_, he''⟩, ?_, ?_, ⟨a', b', ?_⟩, ?_, ?_⟩, fun c hcm => ?_⟩
    · obtain ⟨q0, q1, q2, q3⟩ := hz'
      exact ⟨q0, q1, up _ _ (Ne.symm n1) q2, q3⟩
    · exact up _ _ (Ne.symm n5) (hk _ _ (Ne.symm n5) D.TIz D.TITO D.TIi1 D.TIi2 hTI)
    · exact up _ _ (Ne.symm n2) hTO'
    · exact h1'.at fun o q => up _ o (Ne.symm n3) q
    · exact h2'.at fun o q => up _ o (Ne.symm n4) q
    · have hlt : c < s.heap.objs.size := by
        have e' : c = e ∨ c = z ∨ c = TI ∨ c = TO ∨ c = i1 ∨ c = i2 := by simpa using hcm
        rcases e' with q | q | q | q | q | q
        · rw [q]; exact hel
        · rw [q]; obtain ⟨_, _, q, _⟩ := hz; exact Heap.lt_size q
        · rw [q]; exact Heap.lt_size hTI
        · rw [q]; exact Heap.lt_size hTO
        · rw [q]; obtain ⟨_, e1, _⟩ := h1; exact Heap.lt_size e1
        · rw [q]; obtain ⟨_, e2, _⟩ := h2; exact Heap.lt_size e2
      rw [upd_ne (Nat.ne_of_lt (Nat.lt_succ_of_lt hlt)), upd_ne (Nat.ne_of_lt hlt)]
      exact (hf c hcm).1
  done := by
    intro X hP hw hK hc i pins s σ H E I hf st hg
    subst hP hw hK
    obtain ⟨⟨old, he⟩, hz, hTI, ⟨x0, y0, hTO⟩, h1, h2⟩ := st
    obtain ⟨xs, ys, hqx, hqy, hend⟩ := hg
    obtain ⟨its, rv, p, _⟩ := I.list hqx
    obtain ⟨its2, rv2, p2, _⟩ := I.list hqy
    have l1 := rv.length
    have l2 := rv2.length
    have he' : its.toArray[i]? = none ∨ its2.toArray[i]? = none := by
      rcases hend with q | q
      · exact .inl (by simp; omega)
      · exact .inr (by simp; omega)
    exact ez_end (I.ok.hd hc) D he hz hTI hTO h1 h2 p.isList p2.isList he' fun h' hk => ⟨rfl, I.turnedL (t' := s.toks) (ch := [e, z, TI, TO, i1, i2]) (fun c o hb q =>
      hk c o (fun q' => hb (by simp [q'])) (fun q' => hb (by simp [q'])) (fun q' => hb (by simp [q'])) (fun q' => hb (by simp [q'])) q) hf⟩
  self := fun A i s Q E st h => let ⟨⟨_, he⟩, _⟩ := st; wpAny_pyIter_enum he h
def iEnZip (K : PySem.W.Frag) (ta : TA) : TI := fun σ H R => ta σ H fun vs H1 => ∃ a b xs ys, vs = [.ref a, .ref b] ∧ SqL K H1 a xs ∧ SqL K H1 b ys ∧ R (Itez K a b) H1
set_option maxHeartbeats 4000000 in
theorem meets_enum_zip (z TI TO : Addr) (f0 : Value) :
    Meets (Builtin.«enumerate.__new__» ⟨[.type "enumerate", .ref z], []⟩) (fun _ R s => IsZip s.heap z TI TO f0 ∧
      R (.ok (.ret (.ref s.heap.objs.size))) { s with heap := s.heap.push { cls := .type "enumerate", data := .fields #[.none, .bool false, .ref z, rawInt 0, .none, .none] } }) :=
  .of_wp fun prog w A R s h => by
    obtain ⟨hp, g, d, tk, os⟩ := s
    obtain ⟨hz, h⟩ := h
    have hz : IsZip hp z TI TO f0 := hz
    have hsub := sub_enumerate
    wp_walk
    refine wpAny_stack_any fun st => wpAny_pure ?_
    split
    · rename_i c _ _ _ _ _
      cases (c == Value.type "enumerate")
      · wp_walk using wpAny_pyIter_zip hz
        exact ⟨_, rfl, h⟩
      · wp_walk using wpAny_pyIter_zip hz
        exact ⟨_, rfl, h⟩
    · wp_walk using wpAny_pyIter_zip hz
      exact ⟨_, rfl, h⟩
section
variable {prog : Program} {w : World} {A : Around} {E : Value → Shared → Prop} {s : Shared}
theorem call_enum_zip {z TI TO : Addr} {f0 : Value} {Q : Value → Shared → Prop} (hL : IsZip s.heap z TI TO f0)
    (h : ∀ h', IsEnum h' s.heap.objs.size z 0 .none → h'.objs.size = s.heap.objs.size + 1 → (∀ b o, s.heap.get? b = some o → h'.get? b = some o) → Q (.ref s.heap.objs.size) { s with heap := h' }) :
    wpAny (model prog w) A (call (.type "enumerate") [.ref z]) Q E s := by
  refine callType_new F.called_enumerate (by decide) (F.typeCall_enumerate_1 _) (F.newCall_enumerate_1 _) (fun obj => F.args_object_init_2 obj _) F.entry_enumerate_new
    (meets_enum_zip z TI TO f0) ⟨hL, ?_⟩
  have he : IsEnum (s.heap.push { cls := .type "enumerate", data := .fields #[.none, .bool false, .ref z, rawInt 0, .none, .none] }) s.heap.objs.size z 0 .none := Heap.get?_push_size _ rfl
  exact ⟨⟨_, he, rfl⟩, h _ he (Heap.size_push ..) fun b o x => Heap.get?_push_of_some _ x⟩
end
theorem pi_enumZip {X : Cx} (K : PySem.W.Frag) {e e2 : Expr} {ta : TA} {p p2 pos pos2 tpos : Pos} {elts : List Expr} {kk : Nat} (hge : Gl X "enumerate") (hme : X.mg "enumerate" = none) (hg : Gl X "zip") (hm : X.mg "zip" = none) (ha : PA X [e, e2] ta)
    (hs : starEach [e, e2] X.env = (false, eval e X.env) :: starEach [e2] X.env := by rfl) (hpl : (backTo pos2 (starEach [e2] X.env)).any (·.1) = false := by rfl)
    (hs2 : starEach [.Call (.Name "zip" p2) [e, e2] [] pos2] X.env = [(false, eval (.Call (.Name "zip" p2) [e, e2] [] pos2) X.env)] := by rfl) (hK : X.K = K := by rfl) :
    PI X (.Tuple elts kk tpos) (.Call (.Name "enumerate" p) [.Call (.Name "zip" p2) [e, e2] [] pos2] [] pos) (iEnZip K ta) := by
  subst hK
  intro pins s σ H R I h
  refine Call_ (ld_blt I hge hme boot_enumerate (PyProof.Rows.callWith_type1 ?_ (by rw [hs2]; rfl) rfl))
  rw [hs2]
  refine Calls.spliced_cons (Call_ (ld_blt I hg hm boot_zip5 (PyProof.Rows.callWith_type1 (thn (ha pos2 pins s σ H _ I h) fun us s1 ⟨vs, H1, I1, r1, q1⟩ => ?_) hs hpl)))
  obtain ⟨a, b, xs, ys, ex, hqx, hqy, q⟩ := q1
  subst ex
  cases r1 with
  | cons r rr =>
    cases rr with
    | cons r' rr =>
      cases rr
      cases r
      cases r'
      obtain ⟨its, rv, p1, _⟩ := I1.list hqx
      obtain ⟨its2, rv2, p2, _⟩ := I1.list hqy
      have la : a < s1.heap.objs.size := p1.lt
      have lb : b < s1.heap.objs.size := p2.lt
      refine call_zip_2 p1.isList p2.isList fun h' hz hTI hTO h1 h2 hsz hk => Calls.spliced_nil ?_
      refine call_enum_zip (s := { s1 with heap := h' }) hz fun h'' he hsz2 hk2 => wpAny_pyIter_enum he ?_
      have I2 : Inv X pins σ H1 { s1 with heap := h'' } := I1.kept (t' := s1.toks) fun b o q => hk2 b o (hk b o q)
      have hsz : h'.objs.size = s1.heap.objs.size + 5 := hsz
      have he : IsEnum h'' h'.objs.size (s1.heap.objs.size + 4) 0 .none := he
      rw [hsz] at he
      have e5 : (Shared.mk h' s1.gens s1.drawn s1.toks s1.os).heap.objs.size = s1.heap.objs.size + 5 := hsz
      have nn : ∀ k : Nat, k < 5 → s1.heap.objs.size + 5 ≠ s1.heap.objs.size + k := fun k hk z => by
        have := Nat.add_left_cancel z
        omega
      refine ⟨s1.heap.objs.size + 5, [s1.heap.objs.size + 5, s1.heap.objs.size + 4, s1.heap.objs.size + 2, s1.heap.objs.size + 3, s1.heap.objs.size, s1.heap.objs.size + 1], _, _, H1, by rw [e5], I2,
        turn_ez (PySem.W.ktu_apart s1.heap.objs.size a b la lb) (nn 4 (by decide)) (nn 3 (by decide)) (nn 0 (by decide)) (nn 1 (by decide)) (nn 2 (by decide)),
        ⟨⟨_, he⟩, ⟨_, _, hk2 _ _ hz, .inl rfl⟩, hk2 _ _ hTI, ⟨_, _, hk2 _ _ hTO⟩, h1.at fun o q => hk2 _ o q, h2.at fun o q => hk2 _ o q⟩, fun c hcm => ?_, q⟩
      have e' : c = s1.heap.objs.size + 5 ∨ c = s1.heap.objs.size + 4 ∨ c = s1.heap.objs.size + 2 ∨ c = s1.heap.objs.size + 3 ∨ c = s1.heap.objs.size ∨ c = s1.heap.objs.size + 1 := by simpa using hcm
      have hle : s1.heap.objs.size ≤ c := by
        rcases e' with z | z | z | z | z | z
        · rw [z]; exact Nat.le_add_right _ _
        · rw [z]; exact Nat.le_add_right _ _
        · rw [z]; exact Nat.le_add_right _ _
        · rw [z]; exact Nat.le_add_right _ _
        · rw [z]; exact Nat.le_refl _
        · rw [z]; exact Nat.le_add_right _ _
      exact I1.fpOk hle (I1.hok.fresh hle)
theorem for_ez {K : PySem.W.Frag} {a b : Addr} {xs ys : List V} {g : TG} {tb : TS} {D : Ends} {σ : St} {H : Hp} (Pv : Nat → St → Hp → Prop) (h0 : Pv 0 σ H) (hl : ∀ i σ H, i ≤ min xs.length ys.length → Pv i σ H → SqL K H a xs ∧ SqL K H b ys)
    (hs : ∀ i x y T T2 σ H, xs[i]? = some x → ys[i]? = some y → Pv i σ H → H T2 = none → H T = none → T ≠ T2 → g (.ref T) σ (upd (upd H T2 (.tup [x, y])) T (.tup [.int (i : Nat), .ref T2])) fun σ2 H2 => tb { D with nx := Pv (i + 1), ct := Pv (i + 1), bk := D.nx } σ2 H2)
    (hd : ∀ σ H, Pv (min xs.length ys.length) σ H → D.nx σ H) : ForG (Itez K a b) g tb D σ H := by
  refine for_it (min xs.length ys.length) Pv h0 (fun i σ H hi p => ?_) (fun σ H p => ?_) (fun i x σ H H' hi p y => ?_) hd
  · obtain ⟨h1, h2⟩ := hl i σ H (Nat.le_of_lt hi) p
    exact ⟨xs, ys, xs[i]'(by omega), ys[i]'(by omega), h1, h2, by rw [List.getElem?_eq_getElem], by rw [List.getElem?_eq_getElem]⟩
  · obtain ⟨h1, h2⟩ := hl _ σ H (Nat.le_refl _) p
    refine ⟨xs, ys, h1, h2, ?_⟩
    omega
  · obtain ⟨T, T2, u, v, rfl, f1, f2, n, rfl, q1, q2⟩ := y
    obtain ⟨h1, h2⟩ := hl i σ H (Nat.le_of_lt hi) p
    exact hs i u v T T2 σ H (q1 _ h1) (q2 _ h2) p f1 f2 n
end L2

set_option Elab.async false
set_option linter.all false
set_option maxRecDepth 100000
set_option maxHeartbeats 4000000
namespace L2
open PySem PySem.Spec PyProof.Rows
theorem op_isnotB {X : Cx} : OpR X (compareOp .IsNot) (fun x y H Q => ∃ b c, x = .bl b ∧ y = .bl c ∧ Q (.bl (!(b == c))) H) := by
  intro pins s σ H x y v u Q I rx ry h
  obtain ⟨b, c, rfl, rfl, q⟩ := h
  cases rx
  cases ry
  exact isnot_bool (fin_bl I q rfl)
structure Mk0 (K : PySem.W.Frag) (C : Addr) : Prop where
  makes : PySem.W.makesIn K C = true
  init : PySem.W.findIn K (.ref C) "__init__" = some (some (.builtin "object.__init__"))
  kp : PySem.W.keepIn K (.ref C) = true
section
variable {X : Cx} (K : PySem.W.Frag)
theorem cr_anyK (hc : X.calm = true) (h : X.K = K := by rfl) : CallR X (.builtin "any") (rAny K) := by subst h; exact cr_any hc
end
end L2
namespace L2
open PySem PySem.Spec PyProof.Rows
def tNew0 (C : Addr) : TE := fun _ H Q => ∀ x dx, H x = none → H dx = none → dx ≠ x → Q (.ref x) (upd (upd H dx (.own x)) x (.ins C dx []))
theorem pe_new0 {X : Cx} {C : Addr} {x : Str} {p pos : Pos} (M : Mk0 X.K C) (hg : Gl X x) (hm : X.mg x = some (.ref C)) (hdb : (x == ("__debug__" : Str)) = false := by decide) : PE X (.Call (.Name x p) [] [] pos) (tNew0 C) := by
  intro pins s σ H Q I h
  refine wpAny_Call_Name_kw (ld_glob I hg hm ?_ hdb)
  refine PySem.W.callWith_K0 I.kIn M.kp ?_
  have I2 := Inv.made (C := C) I
  have Y := PySem.W.makes_of (M := model X.prog X.w) I.kIn M.makes
  have g1 : ((s.heap.push PySem.W.emptyDict).push (PySem.W.instObj C s.heap.objs.size)).get? (s.heap.objs.size + 1) = some (PySem.W.instObj C s.heap.objs.size) := by
    have := Heap.get?_push_size (s.heap.push PySem.W.emptyDict) (o := PySem.W.instObj C s.heap.objs.size) rfl
    rw [Heap.size_push] at this
    exact this
  refine wpAny_call (make_map0 I.kIn M.makes M.init (fun self => PySem.W.Looks.of_pure (PySem.W.oi_bind self)) ?_)
  have t1 : PySem.W.Looks (model X.prog X.w) ((s.heap.push PySem.W.emptyDict).push (PySem.W.instObj C s.heap.objs.size)) (typeOf (.ref (s.heap.objs.size + 1))) (.ref C) := (PySem.W.Looks.ld g1).andThen .now
  have t2 : PySem.W.Looks (model X.prog X.w) ((s.heap.push PySem.W.emptyDict).push (PySem.W.instObj C s.heap.objs.size)) (isInstance (.ref (s.heap.objs.size + 1)) (.type "object")) true := t1.andThen (Y.top.keeps fun b o e => Heap.get?_push_of_some _ (Heap.get?_push_of_some _ e))
  refine codeAny_call_builtin PySem.W.oi_plain PySem.W.entry_oi (@PySem.W.check_slot (model X.prog X.w) _ _ { s with heap := (s.heap.push PySem.W.emptyDict).push (PySem.W.instObj C s.heap.objs.size) } "object.__init__" "object" "__init__" (.ref (s.heap.objs.size + 1)) [] [] _ PySem.W.oi_kind PySem.W.oi_split t2 (PySem.W.oi_args (.ref (s.heap.objs.size + 1))) ?_)
  rw [PySem.W.oi_run]
  exact wpAny_pure (And.intro rfl ⟨V.ref (s.heap.objs.size + 1), _, I2, rfl, h _ _ (I.hok.fresh (Nat.le_succ _)) (I.hok.fresh (Nat.le_refl _)) (Nat.ne_of_lt (Nat.lt_succ_self _))⟩)
end L2

set_option Elab.async false
set_option linter.all false
set_option maxRecDepth 100000
set_option maxHeartbeats 4000000
namespace L2
open PySem PySem.Spec PyProof.Rows
theorem vals_pick {xs : List V} {its : List Value} (r : Vals xs its) : ∀ is : List Nat, ∃ ys : List V, Vals ys (is.filterMap fun i => its[i]?) ∧ ∀ y ∈ ys, y ∈ xs
  | [] => ⟨[], .nil, by simp⟩
  | i :: is => by
    obtain ⟨ys, h1, h2⟩ := vals_pick r is
    rw [List.filterMap_cons]
    cases hx : xs[i]? with
    | none =>
      have : its[i]? = none := by
        have := r.length
        rw [List.getElem?_eq_none_iff] at hx ⊢
        omega
      rw [this]
      exact ⟨ys, h1, h2⟩
    | some x =>
      obtain ⟨u, hu, ru⟩ := r.get hx
      rw [hu]
      refine ⟨x :: ys, .cons ru h1, fun y hy => ?_⟩
      rcases List.mem_cons.mp hy with e | e
      · rw [e]
        exact List.mem_of_getElem? hx
      · exact h2 y e
def tStep (K : PySem.W.Frag) (te tl : TE) : TE := fun σ H Q => te σ H fun x H1 => ∃ a xs, x = .ref a ∧ tl σ H1 fun y H2 => ∃ i, y = .int i ∧ SqL K H2 a xs ∧ ∀ p ys, H2 p = none → (∀ z ∈ ys, z ∈ xs) → ys.length ≤ xs.length → Q (.ref p) (upd H2 p (.lst ys))
section
variable {X : Cx} {e el : Expr} {te tl : TE} {p2 pos cp : Pos} {j k : Nat}
theorem pe_step2 (K : PySem.W.Frag) (he : PE X e te) (hl : PE X el tl) (hK : X.K = K := by rfl) : PE X (.Subscript e (.Slice (some el) none (some (.Constant (.int 2) j cp)) p2) pos) (tStep K te tl) := by
  subst hK
  intro pins s σ H Q I h
  refine Subscript_ (thn (he pins s σ H _ I h) fun v s1 ⟨x, H1, I1, r1, a, xs, ex, q⟩ => ?_)
  subst ex
  cases r1
  refine wpAny_Slice ?_
  rw [evalPart_some]
  refine thn (hl pins s1 σ H1 _ I1 q) fun vl s2 ⟨y, H2, I2, r2, i, ey, hS, q⟩ => ?_
  subst ey
  obtain ⟨tl, rfl⟩ := r2
  refine wpAny_pure ?_
  rw [evalPart_some]
  have pn : PE X (.Constant (.int 2) j cp) (tC (.int 2)) := pe_int
  refine thn (pn pins s2 σ H2 (fun y H3 => y = .int 2 ∧ H3 = H2) I2 ⟨rfl, rfl⟩) fun vs s3 ⟨y, H3, I3, r3, ey, eH⟩ => ?_
  subst ey eH
  obtain ⟨t, rfl⟩ := r3
  obtain ⟨its, r, ht, hz⟩ := I3.list hS
  have hlen := r.length
  have I4 : Inv X pins σ H3 { s3 with heap := s3.heap.push { cls := .type "slice", data := .fields #[.int i tl, .none, .int 2 t] } } := I3.kept (t' := s3.toks) fun b ob q => Heap.get?_push_of_some _ q
  show wpAny (model X.prog X.w) X.A (subscriptTail e (.Slice (some el) none (some (.Constant (.int 2) j cp)) p2) (.ref a) (.ref s3.heap.objs.size)) (EP X pins σ Q) X.xe { s3 with heap := s3.heap.push { cls := .type "slice", data := .fields #[.int i tl, .none, .int 2 t] } }
  have ht' := ht.isList.push { cls := .type "slice", data := .fields #[.int i tl, .none, .int 2 t] }
  refine tail_any (ops := [.ref a, .ref s3.heap.objs.size]) ht'.typeIs slot_list_getitem.lookup ?_ (by with_unfolding_all rfl)
  refine wpAny_getItem_list_slice ht' (Heap.IsSliceOf.new ..) (.int i tl) .none (.int 2 t) (by decide) ?_ (by rw [List.size_toArray]; omega)
  obtain ⟨ys, v1, v2⟩ := vals_pick r (sliceRange (sliceBounds (some i) none (some 2) its.toArray.size).1 (sliceBounds (some i) none (some 2) its.toArray.size).2.1 (sliceBounds (some i) none (some 2) its.toArray.size).2.2)
  have hsl := slicePick_size_le its.toArray (some i) none (some 2)
  have ep : slicePick its.toArray (some i) none (some 2) = ((sliceRange (sliceBounds (some i) none (some 2) its.toArray.size).1 (sliceBounds (some i) none (some 2) its.toArray.size).2.1 (sliceBounds (some i) none (some 2) its.toArray.size).2.2).filterMap fun i => its[i]?).toArray := by
    unfold slicePick
    simp only [List.getElem?_toArray]
  rw [ep] at hsl ⊢
  have hyl : ys.length ≤ xs.length := by
    rw [v1.length]
    have e1 : its.toArray.size = its.length := List.size_toArray ..
    have e2 : ∀ l : List Value, l.toArray.size = l.length := fun l => List.size_toArray ..
    rw [e2] at hsl
    rw [hlen]
    exact Nat.le_trans hsl (Nat.le_of_eq e1)
  refine ⟨.ref _, _, I4.laid (t' := s3.toks) (o := .lst ys) (fun b ob q => Heap.get?_push_of_some _ q) (Nat.le_refl _) ?_, rfl, q _ ys (I4.hok.fresh (Nat.le_refl _)) v2 hyl⟩
  exact ⟨Nat.le_trans hyl hz, _, 0, v1, Heap.get?_push_size _ rfl⟩
end
theorem sl_tupK {X : Cx} (K : PySem.W.Frag) (h : X.K = K := by rfl) : SlR X (rSlT K) := h ▸ sl_tup
end L2

set_option Elab.async false
set_option linter.all false
set_option maxRecDepth 100000
set_option maxHeartbeats 4000000
namespace Toy
open PySem L2
def top (i : Nat) : Stmt := PySem.Challenge.pw_callchain_k06_judged_by_hand.main.body.getD i (.Pass ⟨0, 0, 0, 0⟩)
abbrev s_is_number : Stmt := top 1
abbrev s_copied : Stmt := top 2
abbrev s_first_rows : Stmt := top 3
abbrev s_callers : Stmt := top 4
abbrev s_next_round : Stmt := top 5
abbrev s_first_wrong : Stmt := top 6
abbrev s_first_unlike : Stmt := top 7
abbrev s_law_number : Stmt := top 13
abbrev s_law_says : Stmt := top 14
abbrev s_law_ups : Stmt := top 15
abbrev s_law_orders : Stmt := top 16
abbrev s_law_absent : Stmt := top 17
abbrev s_law_walk : Stmt := top 18
abbrev s_law_wrong : Stmt := top 19
abbrev s_law_spoils : Stmt := top 20
abbrev s_law : Stmt := top 21
abbrev s_Right_shows : Stmt := inClass (top 10) 0
abbrev s_Wrong_init : Stmt := inClass (top 11) 0
abbrev s_Wrong_shows : Stmt := inClass (top 11) 1
structure Adr where
  f_is_number : Addr
  d_is_number : FuncData
  f_copied : Addr
  d_copied : FuncData
  f_first_rows : Addr
  d_first_rows : FuncData
  f_callers : Addr
  d_callers : FuncData
  f_next_round : Addr
  d_next_round : FuncData
  f_first_wrong : Addr
  d_first_wrong : FuncData
  f_first_unlike : Addr
  d_first_unlike : FuncData
  f_law_number : Addr
  d_law_number : FuncData
  f_law_says : Addr
  d_law_says : FuncData
  f_law_ups : Addr
  d_law_ups : FuncData
  f_law_orders : Addr
  d_law_orders : FuncData
  f_law_absent : Addr
  d_law_absent : FuncData
  f_law_walk : Addr
  d_law_walk : FuncData
  f_law_wrong : Addr
  d_law_wrong : FuncData
  f_law_spoils : Addr
  d_law_spoils : FuncData
  f_law : Addr
  d_law : FuncData
  f_Right_shows : Addr
  d_Right_shows : FuncData
  f_Wrong_init : Addr
  d_Wrong_init : FuncData
  f_Wrong_shows : Addr
  d_Wrong_shows : FuncData
  C_Answer : Addr
  C_Right : Addr
  C_Wrong : Addr
structure Txt (K : PySem.W.Frag) (mg : Str → Option Value) (A : Adr) : Prop where
  n_any : mg "any" = none
  n_bool : mg "bool" = none
  n_enumerate : mg "enumerate" = none
  n_int : mg "int" = none
  n_isinstance : mg "isinstance" = none
  n_len : mg "len" = none
  n_list : mg "list" = none
  n_min : mg "min" = none
  n_range : mg "range" = none
  n_sorted : mg "sorted" = none
  n_sum : mg "sum" = none
  n_zip : mg "zip" = none
  f_is_number : Fun K "is_number" "is_number" s_is_number A.f_is_number A.d_is_number
  b_is_number : Binds K A.d_is_number ["thing"] []
  m_is_number : mg "is_number" = some (.ref A.f_is_number)
  k_is_number : PySem.W.keepIn K (.ref A.f_is_number) = true
  f_copied : Fun K "copied" "copied" s_copied A.f_copied A.d_copied
  b_copied : Binds K A.d_copied ["thing"] []
  m_copied : mg "copied" = some (.ref A.f_copied)
  k_copied : PySem.W.keepIn K (.ref A.f_copied) = true
  f_first_rows : Fun K "first_rows" "first_rows" s_first_rows A.f_first_rows A.d_first_rows
  b_first_rows : Binds K A.d_first_rows ["orders"] []
  m_first_rows : mg "first_rows" = some (.ref A.f_first_rows)
  k_first_rows : PySem.W.keepIn K (.ref A.f_first_rows) = true
  f_callers : Fun K "callers" "callers" s_callers A.f_callers A.d_callers
  b_callers : Binds K A.d_callers ["rows"] []
  m_callers : mg "callers" = some (.ref A.f_callers)
  k_callers : PySem.W.keepIn K (.ref A.f_callers) = true
  f_next_round : Fun K "next_round" "next_round" s_next_round A.f_next_round A.d_next_round
  b_next_round : Binds K A.d_next_round ["orders", "rows", "absent"] []
  m_next_round : mg "next_round" = some (.ref A.f_next_round)
  k_next_round : PySem.W.keepIn K (.ref A.f_next_round) = true
  f_first_wrong : Fun K "first_wrong" "first_wrong" s_first_wrong A.f_first_wrong A.d_first_wrong
  b_first_wrong : Binds K A.d_first_wrong ["orders", "calls"] []
  m_first_wrong : mg "first_wrong" = some (.ref A.f_first_wrong)
  k_first_wrong : PySem.W.keepIn K (.ref A.f_first_wrong) = true
  f_first_unlike : Fun K "first_unlike" "first_unlike" s_first_unlike A.f_first_unlike A.d_first_unlike
  b_first_unlike : Binds K A.d_first_unlike ["ones", "others"] []
  m_first_unlike : mg "first_unlike" = some (.ref A.f_first_unlike)
  k_first_unlike : PySem.W.keepIn K (.ref A.f_first_unlike) = true
  f_law_number : Fun K "_law_number" "_law_number" s_law_number A.f_law_number A.d_law_number
  b_law_number : Binds K A.d_law_number ["_law_cell", "_law_at", "_law_whole"] []
  m_law_number : mg "_law_number" = some (.ref A.f_law_number)
  k_law_number : PySem.W.keepIn K (.ref A.f_law_number) = true
  f_law_says : Fun K "_law_says" "_law_says" s_law_says A.f_law_says A.d_law_says
  b_law_says : Binds K A.d_law_says ["_law_said", "_law_due"] []
  m_law_says : mg "_law_says" = some (.ref A.f_law_says)
  k_law_says : PySem.W.keepIn K (.ref A.f_law_says) = true
  f_law_ups : Fun K "_law_ups" "_law_ups" s_law_ups A.f_law_ups A.d_law_ups
  b_law_ups : Binds K A.d_law_ups ["_law_script", "_law_by", "_law_most"] []
  m_law_ups : mg "_law_ups" = some (.ref A.f_law_ups)
  k_law_ups : PySem.W.keepIn K (.ref A.f_law_ups) = true
  f_law_orders : Fun K "_law_orders" "_law_orders" s_law_orders A.f_law_orders A.d_law_orders
  b_law_orders : Binds K A.d_law_orders ["_law_script", "_law_by", "_law_most"] []
  m_law_orders : mg "_law_orders" = some (.ref A.f_law_orders)
  k_law_orders : PySem.W.keepIn K (.ref A.f_law_orders) = true
  f_law_absent : Fun K "_law_absent" "_law_absent" s_law_absent A.f_law_absent A.d_law_absent
  b_law_absent : Binds K A.d_law_absent ["_law_script", "_law_by", "_law_people"] []
  m_law_absent : mg "_law_absent" = some (.ref A.f_law_absent)
  k_law_absent : PySem.W.keepIn K (.ref A.f_law_absent) = true
  f_law_walk : Fun K "_law_walk" "_law_walk" s_law_walk A.f_law_walk A.d_law_walk
  b_law_walk : Binds K A.d_law_walk ["_law_orders_here", "_law_absent_here"] []
  m_law_walk : mg "_law_walk" = some (.ref A.f_law_walk)
  k_law_walk : PySem.W.keepIn K (.ref A.f_law_walk) = true
  f_law_wrong : Fun K "_law_wrong" "_law_wrong" s_law_wrong A.f_law_wrong A.d_law_wrong
  b_law_wrong : Binds K A.d_law_wrong ["_law_orders_here", "_law_calls"] []
  m_law_wrong : mg "_law_wrong" = some (.ref A.f_law_wrong)
  k_law_wrong : PySem.W.keepIn K (.ref A.f_law_wrong) = true
  f_law_spoils : Fun K "_law_spoils" "_law_spoils" s_law_spoils A.f_law_spoils A.d_law_spoils
  b_law_spoils : Binds K A.d_law_spoils ["_law_calls", "_law_whole"] []
  m_law_spoils : mg "_law_spoils" = some (.ref A.f_law_spoils)
  k_law_spoils : PySem.W.keepIn K (.ref A.f_law_spoils) = true
  f_law : Fun K "law" "law" s_law A.f_law A.d_law
  b_law : Binds K A.d_law ["_law_script"] []
  m_law : mg "law" = some (.ref A.f_law)
  k_law : PySem.W.keepIn K (.ref A.f_law) = true
  f_Right_shows : Fun K "shows" "Right.shows" s_Right_shows A.f_Right_shows A.d_Right_shows
  b_Right_shows : Binds K A.d_Right_shows ["self", "orders", "calls"] []
  mt_Right_shows : Meth K A.C_Right "shows" A.f_Right_shows
  f_Wrong_init : Fun K "__init__" "Wrong.__init__" s_Wrong_init A.f_Wrong_init A.d_Wrong_init
  b_Wrong_init : Binds K A.d_Wrong_init ["self", "turn", "spot"] []
  f_Wrong_shows : Fun K "shows" "Wrong.shows" s_Wrong_shows A.f_Wrong_shows A.d_Wrong_shows
  b_Wrong_shows : Binds K A.d_Wrong_shows ["self", "orders", "calls"] []
  mt_Wrong_shows : Meth K A.C_Wrong "shows" A.f_Wrong_shows
  cl_Right : Cls K A.C_Right
  k0_Right : Mk0 K A.C_Right
  c_Right : mg "Right" = some (.ref A.C_Right)
  cl_Wrong : Cls K A.C_Wrong
  k_Wrong : Mk K A.C_Wrong A.f_Wrong_init
  c_Wrong : mg "Wrong" = some (.ref A.C_Wrong)
  na_Wrong_turn : NoAttr K A.C_Wrong "turn"
  na_Wrong_spot : NoAttr K A.C_Wrong "spot"
end Toy

set_option Elab.async false
set_option linter.all false
set_option maxRecDepth 100000
set_option maxHeartbeats 4000000
namespace Toy
open PySem L2
theorem kit_int {K : PySem.W.Frag} : PySem.W.kitOne K (.type "int") (.type "int") = some true := by kernel_rfl
theorem kit_int_bool {K : PySem.W.Frag} : PySem.W.kitOne K (.type "int") (.type "bool") = some false := by kernel_rfl
theorem kit_list {K : PySem.W.Frag} : PySem.W.kitOne K (.type "list") (.type "list") = some true := by kernel_rfl
theorem kit_none_list {K : PySem.W.Frag} : PySem.W.kitOne K (.type "NoneType") (.type "list") = some false := by kernel_rfl
theorem kit_int_list {K : PySem.W.Frag} : PySem.W.kitOne K (.type "int") (.type "list") = some false := by kernel_rfl
section
variable {P : Program} {w : World} {K : PySem.W.Frag} {mg : Str → Option Value} {base : Heap} {A : Adr}
def spNum : Sp := fun vs H Q _ => ∃ i, vs = [.int i] ∧ Q (.bl true) H
theorem sc_is_number : FnScope ["thing"] ["thing"] (defScope s_is_number) := ⟨rfl, rfl, rfl, by decide +kernel, rfl, by decide +kernel, by decide +kernel⟩
theorem ok_is_number (T : Txt K mg A) : FnOk P w K mg base CX0 1 A.f_is_number A.d_is_number ["thing"] spNum := by
  refine T.f_is_number.ok sc_is_number (fun vs H Q E h => ?_) (fun cdv A outer s H vs Q E hr h => ?_)
  · obtain ⟨i, rfl, _⟩ := h
    rfl
  · obtain ⟨i, rfl, k⟩ := h
    refine ⟨_, (pss_one (ps_ret (pe_and (pe_callB (cr_isiK K) (by rfl) T.n_isinstance (by decide +kernel) (@pa_cons _ _ _ _ _ (pv 0) (@pa_cons _ _ _ _ _ (pe_bltn (v := .ty "int") (by rfl) T.n_int (by decide +kernel) rfl) pa_nil (by rfl)) (by rfl))) (pe_one (pe_not (pe_callB (cr_isiK K) (by rfl) T.n_isinstance (by decide +kernel) (@pa_cons _ _ _ _ _ (pv 0) (@pa_cons _ _ _ _ _ (pe_bltn (v := .ty "bool") (by rfl) T.n_bool (by decide +kernel) rfl) pa_nil (by rfl)) (by rfl)))))))), ?_⟩
    refine ⟨_, rfl, .int i, .ty "int", _, true, rfl, .int i, (fun u hu => ?_), true, rfl, ?_⟩
    · cases hu
      exact kit_int
    · refine iteT ⟨_, rfl, .int i, .ty "bool", _, false, rfl, .int i, (fun u hu => ?_), false, rfl, ?_⟩
      · cases hu
        exact kit_int_bool
      · exact k
theorem kitL {K : PySem.W.Frag} {u : Value} (h : RelV (.ty "list") u) : PySem.W.kitOne K (.type "list") u = some true := by
  cases h
  exact kit_list
theorem kitIL {K : PySem.W.Frag} {u : Value} (h : RelV (.ty "list") u) : PySem.W.kitOne K (.type "int") u = some false := by
  cases h
  exact kit_int_list
theorem kitNL {K : PySem.W.Frag} {u : Value} (h : RelV (.ty "list") u) : PySem.W.kitOne K (.type "NoneType") u = some false := by
  cases h
  exact kit_none_list
def GoodUps (us : List Int) : Prop := us.length ≤ 39 ∧ ∀ (j : Nat) (u : Int), us[j]? = some u → 0 ≤ u ∧ u ≤ j
def Abs (as : List Int) (n : Int) : Prop := as.Pairwise (· < ·) ∧ ∀ a ∈ as, 0 < a ∧ a < n
theorem sc_copied : FnScope ["thing", "part"] ["thing"] (defScope s_copied) := ⟨rfl, rfl, rfl, by decide +kernel, rfl, by decide +kernel, by decide +kernel⟩
theorem take_snoc {α : Type} {xs : List α} {i : Nat} {x : α} (h : xs[i]? = some x) : xs.take (i + 1) = xs.take i ++ [x] := by
  rw [List.take_add_one, h]
  rfl
def RowV (H : Hp) (v : V) : Option (List Int) → Prop
  | none => v = .non
  | some l => ∃ r, v = .ref r ∧ H r = some (.lst (l.map V.int))
structure RL (H : Hp) (vs : List V) (rows : List (Option (List Int))) : Prop where
  len : vs.length = rows.length
  at' : ∀ (p : Nat) (v : V) (row : Option (List Int)), vs[p]? = some v → rows[p]? = some row → RowV H v row
theorem RowV.mono {H H' : Hp} {v : V} {row : Option (List Int)} (h : RowV H v row) (s : Same H H') : RowV H' v row := by
  cases row with
  | none => exact h
  | some l => exact let ⟨r, e, q⟩ := h; ⟨r, e, s _ _ q⟩
theorem RL.mono {H H' : Hp} {vs : List V} {rows : List (Option (List Int))} (h : RL H vs rows) (s : Same H H') : RL H' vs rows := ⟨h.len, fun p v row a b => (h.at' p v row a b).mono s⟩
theorem RL.nil {H : Hp} : RL H [] [] := ⟨rfl, fun p v row h _ => by simp at h⟩
theorem RL.snoc {H : Hp} {vs : List V} {rows : List (Option (List Int))} {v : V} {row : Option (List Int)} (h : RL H vs rows) (hv : RowV H v row) : RL H (vs ++ [v]) (rows ++ [row]) := by
  refine ⟨by rw [List.length_append, List.length_append, h.len]; rfl, fun p x r hp hr => ?_⟩
  by_cases hpi : p < vs.length
  · rw [List.getElem?_append_left hpi] at hp
    rw [List.getElem?_append_left (by rw [← h.len]; exact hpi)] at hr
    exact h.at' p x r hp hr
  · rw [List.getElem?_append_right (by omega)] at hp
    rw [List.getElem?_append_right (by rw [← h.len]; omega), ← h.len] at hr
    have e0 : p - vs.length = 0 := by
      have := (List.getElem?_eq_some_iff.mp hp).1
      simp at this
      omega
    rw [e0] at hp hr
    have e1 : v = x := by simpa using hp
    have e2 : row = r := by simpa using hr
    subst e1 e2
    exact hv
theorem RL.get {H : Hp} {vs : List V} {rows : List (Option (List Int))} (h : RL H vs rows) {p : Nat} {v : V} (hv : vs[p]? = some v) : ∃ row, rows[p]? = some row ∧ RowV H v row := by
  have hl := (List.getElem?_eq_some_iff.mp hv).1
  have e : rows[p]? = some (rows[p]'(by rw [← h.len]; exact hl)) := List.getElem?_eq_getElem _
  exact ⟨_, e, h.at' p v _ hv e⟩
theorem RL.set {H : Hp} {vs : List V} {rows : List (Option (List Int))} {v : V} {row : Option (List Int)} (h : RL H vs rows) (hv : RowV H v row) (j : Nat) : RL H (vs.set j v) (rows.set j row) := by
  refine ⟨by rw [List.length_set, List.length_set, h.len], fun p x r hp hr => ?_⟩
  by_cases hj : j = p
  · subst hj
    have hl : j < vs.length := by
      have := (List.getElem?_eq_some_iff.mp hp).1
      rwa [List.length_set] at this
    rw [List.getElem?_set_self hl] at hp
    rw [List.getElem?_set_self (by rw [← h.len]; exact hl)] at hr
    cases hp
    cases hr
    exact hv
  · rw [List.getElem?_set_ne hj] at hp hr
    exact h.at' p x r hp hr
def spCopyR : Sp := fun vs H Q _ => ∃ (a : Addr) (xs : List V) (rows : List (Option (List Int))), vs = [.ref a] ∧ H a = some (.lst xs) ∧ RL H xs rows ∧ rows.length < 1000 ∧ ∀ b xs' H', Same H H' → H b = none → H' b = some (.lst xs') → RL H' xs' rows → (∀ r, V.ref r ∈ xs' → H r = none ∧ r ≠ b) → Q (.ref b) H'
theorem ok_copiedR (T : Txt K mg A) : FnOk P w K mg base CX0 1 A.f_copied A.d_copied ["thing"] spCopyR := by
  refine T.f_copied.ok sc_copied (fun vs H Q E h => ?_) (fun cdv A outer s H vs Q E hr h => ?_)
  · obtain ⟨a, xs, rows, rfl, _⟩ := h
    rfl
  · obtain ⟨a, xs, rows, rfl, hH, hR, hl, k⟩ := h
    refine ⟨_, (pss_cons (ps_if (pt_not (pt_val (pe_callB (cr_isiK K) (by rfl) T.n_isinstance (by decide +kernel) (@pa_cons _ _ _ _ _ (pv 0) (@pa_cons _ _ _ _ _ (pe_bltn (v := .ty "list") (by rfl) T.n_list (by decide +kernel) rfl) pa_nil (by rfl)) (by rfl))))) (pss_one (ps_ret (pv 0))) pss_nil)
      (pss_one (ps_ret (pe_lc (own := [("part", 1)]) rfl sc_copied.nd (pi_listK K (pv 0)) (blkOk_by (own := [("part", 1)]) (by kernel_rfl)) (fun _ _ _ _ _ => (pg_name (i := 1) sc_copied.nd rfl (Or.inl rfl))) (fun _ _ _ _ _ => pts_nil) (fun _ _ _ _ _ => (pe_ifExp (pt_val (pe_callB (cr_isiK K) (by rfl) T.n_isinstance (by decide +kernel) (@pa_cons _ _ _ _ _ (pv 1) (@pa_cons _ _ _ _ _ (pe_bltn (v := .ty "list") (by rfl) T.n_list (by decide +kernel) rfl) pa_nil (by rfl)) (by rfl)))) (pe_callTy (call_list_ofK K) (by rfl) T.n_list (by decide +kernel) (@pa_cons _ _ _ _ _ (pv 1) pa_nil (by rfl))) (pv 1))))))), ?_⟩
    refine ⟨_, rfl, .ref a, .ty "list", _, true, rfl, .lst hH, (fun u hu => kitL hu), true, rfl, iteF ?_⟩
    refine ⟨_, rfl, a, rfl, ⟨_, SqL.of hH⟩, fun D hD => ?_⟩
    refine lc_list (K := K) (a := a) (xs := xs) (fun i H2 => Same H H2 ∧ ∃ ys : List V, ys.length = i ∧ H2 D = some (.lst ys) ∧ RL H2 ys (rows.take i) ∧ ∀ r, V.ref r ∈ ys → H r = none ∧ r ≠ D) ⟨Same.new hD, [], rfl, upd_same, by simpa using RL.nil, by simp⟩ (fun i H2 _ ⟨s2, _⟩ => SqL.of (s2 _ _ hH)) ?_ ?_
    · rintro i x H2 hi ⟨s2, ys, hyl, hd, hR2, hn⟩
      obtain ⟨row, hrow, hv⟩ := hR.get hi
      have hil := (List.getElem?_eq_some_iff.mp hrow).1
      have hsz : ys.length < sizeLine := small1000 (by omega)
      refine ⟨rfl, yesT ?_⟩
      cases row with
      | none =>
        have hv : x = .non := hv
        subst hv
        refine ⟨_, rfl, .non, .ty "list", _, false, rfl, .non, (fun u hu => kitNL hu), false, rfl, iteF ?_⟩
        refine ⟨_, rfl, _, hd, hsz, s2.upd hD, ys ++ [.non], by rw [List.length_append, hyl]; rfl, upd_same, ?_, fun r hr' => ?_⟩
        · rw [take_snoc hrow]
          refine RL.snoc ⟨hR2.len, fun p v row hp hr => ?_⟩ rfl
          have q := hR2.at' p v row hp hr
          cases row with
          | none => exact q
          | some l =>
            obtain ⟨r, e, q⟩ := q
            exact ⟨r, e, by rw [upd_ne (hn r (by rw [← e]; exact List.mem_of_getElem? hp)).2]; exact q⟩
        · rcases List.mem_append.mp hr' with h1 | h1
          · exact hn r h1
          · exact absurd (List.mem_singleton.mp h1) (by simp)
      | some l =>
        obtain ⟨r, rfl, hr⟩ := hv
        refine ⟨_, rfl, .ref r, .ty "list", _, true, rfl, .lst (s2 _ _ hr), (fun u hu => kitL hu), true, rfl, iteT ?_⟩
        refine ⟨_, rfl, r, _, rfl, .inl (SqL.of (s2 _ _ hr)), fun q hq => ?_⟩
        have hqH : H q = none := s2.free hq
        have nqD : D ≠ q := ne_of_none hd hq
        refine ⟨ys, by rw [upd_ne nqD]; exact hd, hsz, (s2.upd hqH).upd hD, ys ++ [.ref q], by rw [List.length_append, hyl]; rfl, upd_same, ?_, fun r' hr' => ?_⟩
        · rw [take_snoc hrow]
          refine RL.snoc ⟨hR2.len, fun p v row hp hr => ?_⟩ ⟨q, rfl, by rw [upd_ne (Ne.symm nqD), upd_same]⟩
          have z := hR2.at' p v row hp hr
          cases row with
          | none => exact z
          | some l =>
            obtain ⟨r, e, z⟩ := z
            exact ⟨r, e, by rw [upd_ne (hn r (by rw [← e]; exact List.mem_of_getElem? hp)).2, upd_ne (ne_of_none z hq)]; exact z⟩
        · rcases List.mem_append.mp hr' with h1 | h1
          · exact hn r' h1
          · have e : r' = q := by
              have := List.mem_singleton.mp h1
              injection this
            subst e
            exact ⟨hqH, Ne.symm nqD⟩
    · rintro H2 ⟨s2, ys, hyl, hd, hR2, hn⟩
      rw [hR.len, List.take_length] at hR2
      exact k D ys H2 s2 hD hd hR2 hn
end
end Toy

set_option Elab.async false
set_option linter.all false
set_option maxRecDepth 100000
set_option maxHeartbeats 4000000
namespace Toy
open PySem L2
theorem nodup_sub {α : Type} [DecidableEq α] : ∀ {l₁ l₂ : List α}, l₁.Nodup → (∀ x ∈ l₁, x ∈ l₂) → l₁.length ≤ l₂.length
  | [], _, _, _ => Nat.zero_le _
  | a :: r, l₂, h, hs => by
    obtain ⟨h1, h2⟩ := List.nodup_cons.mp h
    have ha := hs a List.mem_cons_self
    have ih := nodup_sub (l₂ := l₂.erase a) h2 fun x hx => (List.mem_erase_of_ne (fun (z : x = a) => h1 (by rw [← z]; exact hx))).mpr (hs x (List.mem_cons_of_mem _ hx))
    rw [List.length_erase_of_mem ha] at ih
    have := List.length_pos_of_mem ha
    rw [List.length_cons]
    omega
theorem nodup_len {l : List Int} {n : Nat} (h : l.Nodup) (hx : ∀ x ∈ l, 0 ≤ x ∧ x < n) : l.length ≤ n := by
  have := nodup_sub (l₂ := (List.range n).map fun k : Nat => (k : Int)) h fun x hx' => List.mem_map.mpr ⟨x.toNat, List.mem_range.mpr (by have := hx x hx'; omega), by have := hx x hx'; omega⟩
  simpa using this
structure GoodO (os : List (List Int)) : Prop where
  n1 : 1 ≤ os.length
  n40 : os.length ≤ 40
  inR : ∀ x ∈ os.flatten, 0 < x ∧ x < os.length
  nd : os.flatten.Nodup
  reach : ∀ S : Int → Prop, S 0 → (∀ (p : Nat) (row : List Int), os[p]? = some row → S p → ∀ x ∈ row, S x) → ∀ x : Int, 0 ≤ x → x < os.length → S x
def ch (os : List (List Int)) (x : Int) : List Int := os.getD x.toNat []
theorem ch_get {os : List (List Int)} {x : Int} (h0 : 0 ≤ x) (h1 : x < os.length) : os[x.toNat]? = some (ch os x) := by
  unfold ch
  rw [List.getD_eq_getElem?_getD, List.getElem?_eq_getElem (by omega)]
  rfl
theorem flat_mem {os : List (List Int)} {p : Nat} {row : List Int} {x : Int} (hp : os[p]? = some row) (hx : x ∈ row) : x ∈ os.flatten := List.mem_flatten.mpr ⟨row, List.mem_of_getElem? hp, hx⟩
theorem GoodO.row {os : List (List Int)} (g : GoodO os) {p : Nat} {row : List Int} (hp : os[p]? = some row) : row.Nodup ∧ ∀ x ∈ row, 0 < x ∧ x < os.length := by
  obtain ⟨h1, _⟩ := List.pairwise_flatten.mp g.nd
  exact ⟨h1 row (List.mem_of_getElem? hp), fun x hx => g.inR x (flat_mem hp hx)⟩
theorem GoodO.one {os : List (List Int)} (g : GoodO os) {p q : Nat} {row row' : List Int} {x : Int} (hp : os[p]? = some row) (hq : os[q]? = some row') (hx : x ∈ row) (hx' : x ∈ row') : p = q := by
  obtain ⟨_, h2⟩ := List.pairwise_flatten.mp g.nd
  obtain ⟨lp, ep⟩ := List.getElem?_eq_some_iff.mp hp
  obtain ⟨lq, eq⟩ := List.getElem?_eq_some_iff.mp hq
  rcases Nat.lt_trichotomy p q with h | h | h
  · have := List.pairwise_iff_getElem.mp h2 p q lp lq h x (by rw [ep]; exact hx) x (by rw [eq]; exact hx')
    exact absurd rfl this
  · exact h
  · have := List.pairwise_iff_getElem.mp h2 q p lq lp h x (by rw [eq]; exact hx') x (by rw [ep]; exact hx)
    exact absurd rfl this
structure Bfs (os : List (List Int)) (R : List Int) (at' : Nat) : Prop where
  le : at' ≤ R.length
  eq : R = 0 :: (R.take at').flatMap (ch os)
  nd : R.Nodup
  inR : ∀ x ∈ R, 0 ≤ x ∧ x < os.length
theorem Bfs.start {os : List (List Int)} (g : GoodO os) : Bfs os [0] 0 :=
  ⟨Nat.zero_le _, rfl, by simp, fun x hx => by
    have := g.n1
    rw [List.mem_singleton.mp hx]
    omega⟩
theorem Bfs.step {os : List (List Int)} {R : List Int} {i : Nat} {p : Int} (g : GoodO os) (h : Bfs os R i) (hp : R[i]? = some p) : Bfs os (R ++ ch os p) (i + 1) := by
  have hi := (List.getElem?_eq_some_iff.mp hp).1
  have hpm : p ∈ R := List.mem_of_getElem? hp
  obtain ⟨p0, p1⟩ := h.inR p hpm
  have hrow := ch_get p0 p1
  obtain ⟨cn, cr⟩ := g.row hrow
  refine ⟨by rw [List.length_append]; omega, ?_, ?_, ?_⟩
  · rw [List.take_append_of_le_length (by omega), take_snoc hp, List.flatMap_append]
    conv => lhs; rw [h.eq]
    simp
  · refine List.nodup_append.mpr ⟨h.nd, cn, fun x hx y hy z => ?_⟩
    subst z
    have hx0 := (cr x hy).1
    rw [h.eq] at hx
    rcases List.mem_cons.mp hx with rfl | hx
    · omega
    · obtain ⟨q, hq, hxq⟩ := List.mem_flatMap.mp hx
      obtain ⟨q0, q1⟩ := h.inR q (List.mem_of_mem_take hq)
      have e := g.one hrow (ch_get q0 q1) hy hxq
      have epq : p = q := by omega
      subst epq
      obtain ⟨j, hj, ej⟩ := List.mem_iff_getElem.mp hq
      rw [List.length_take] at hj
      rw [List.getElem_take] at ej
      have e2 : R[i] = p := (List.getElem?_eq_some_iff.mp hp).2
      exact List.pairwise_iff_getElem.mp h.nd j i (by omega) hi (by omega) (by rw [e2, ej])
  · intro x hx
    rcases List.mem_append.mp hx with hx | hx
    · exact h.inR x hx
    · have := cr x hx
      exact ⟨by omega, this.2⟩
theorem Bfs.last {os : List (List Int)} {R : List Int} (g : GoodO os) (h : Bfs os R R.length) : R.length = os.length := by
  have e := h.eq
  rw [List.take_length] at e
  have all : ∀ x : Int, 0 ≤ x → x < os.length → x ∈ R := g.reach (· ∈ R) (by rw [e]; exact List.mem_cons_self) fun p row hp hpR x hx => by
    rw [e]
    refine List.mem_cons_of_mem _ (List.mem_flatMap.mpr ⟨p, hpR, ?_⟩)
    have hl := (List.getElem?_eq_some_iff.mp hp).1
    have q := ch_get (os := os) (x := p) (by omega) (by omega)
    rw [Int.toNat_natCast, hp] at q
    cases q
    exact hx
  have h1 := nodup_len h.nd h.inR
  have h2 := nodup_sub (l₁ := (List.range os.length).map fun k : Nat => (k : Int)) (l₂ := R) (by
    refine List.Pairwise.map _ (fun a b hab z => hab (by omega)) List.nodup_range) fun x hx => by
      obtain ⟨k, hk, rfl⟩ := List.mem_map.mp hx
      have := List.mem_range.mp hk
      exact all k (by omega) (by omega)
  rw [List.length_map, List.length_range] at h2
  omega
end Toy

set_option Elab.async false
set_option linter.all false
set_option maxRecDepth 100000
set_option maxHeartbeats 4000000
namespace Toy
open PySem L2
abbrev OL (H : Hp) (vs : List V) (os : List (List Int)) : Prop := RL H vs (os.map some)
theorem OL.get {H : Hp} {vs : List V} {os : List (List Int)} (h : OL H vs os) {p : Nat} {v : V} (hv : vs[p]? = some v) : ∃ r l, v = .ref r ∧ os[p]? = some l ∧ H r = some (.lst (l.map V.int)) := by
  obtain ⟨row, hr, q⟩ := RL.get h hv
  rw [List.getElem?_map] at hr
  obtain ⟨l, hl, rfl⟩ := Option.map_eq_some_iff.mp hr
  obtain ⟨r, e, q⟩ := q
  exact ⟨r, l, e, hl, q⟩
theorem OL.at {H : Hp} {vs : List V} {os : List (List Int)} (h : OL H vs os) {p : Nat} {l : List Int} (hl : os[p]? = some l) : ∃ r, vs[p]? = some (.ref r) ∧ H r = some (.lst (l.map V.int)) := by
  have hp := (List.getElem?_eq_some_iff.mp hl).1
  have e : vs[p]? = some (vs[p]'(by rw [h.len, List.length_map]; exact hp)) := List.getElem?_eq_getElem _
  obtain ⟨r, l', e', hl', q⟩ := OL.get h e
  rw [hl] at hl'
  cases hl'
  exact ⟨r, by rw [e, e'], q⟩
section
variable {P : Program} {w : World} {K : PySem.W.Frag} {mg : Str → Option Value} {base : Heap} {A : Adr}
def firstM (os : List (List Int)) : List (Option (List Int)) := some (ch os 0) :: List.replicate (os.length - 1) none
def spFirst : Sp := fun vs H Q _ => ∃ (a : Addr) (xs : List V) (os : List (List Int)), vs = [.ref a] ∧ H a = some (.lst xs) ∧ OL H xs os ∧ GoodO os ∧ ∀ b xs' H', Same H H' → H b = none → H' b = some (.lst xs') → RL H' xs' (firstM os) → (∀ r, V.ref r ∈ xs' → H r = none) → Q (.ref b) H'
theorem sc_first_rows : FnScope ["orders", "row"] ["orders"] (defScope s_first_rows) := ⟨rfl, rfl, rfl, by decide +kernel, rfl, by decide +kernel, by decide +kernel⟩
theorem rl_nones {H : Hp} : ∀ n, RL H (List.replicate n .non) (List.replicate n none)
  | n => ⟨by simp, fun p v row hp hr => by
    have h1 := List.eq_of_mem_replicate (List.mem_of_getElem? hp)
    have h2 := List.eq_of_mem_replicate (List.mem_of_getElem? hr)
    subst h1 h2
    exact rfl⟩
theorem RL.cons {H : Hp} {vs : List V} {rows : List (Option (List Int))} {v : V} {row : Option (List Int)} (h : RL H vs rows) (hv : RowV H v row) : RL H (v :: vs) (row :: rows) :=
  ⟨by rw [List.length_cons, List.length_cons, h.len], fun p x r hp hr => by
    cases p with
    | zero =>
      cases hp
      cases hr
      exact hv
    | succ p => exact h.at' p x r hp hr⟩
theorem cut_tail {xs : List V} (h : 1 ≤ xs.length) : cutV xs (some 1) none = xs.drop 1 := by
  unfold cutV
  have e : (1 : Int) = ((1 : Nat) : Int) := rfl
  rw [e, HT.sIx_none, HT.sIx_nat, Nat.min_eq_left h, List.take_of_length_le (by simp)]
theorem ok_first_rows (T : Txt K mg A) : FnOk P w K mg base CX0 1 A.f_first_rows A.d_first_rows ["orders"] spFirst := by
  refine T.f_first_rows.ok sc_first_rows (fun vs H Q E h => ?_) (fun cdv A' outer s H vs Q E hr h => ?_)
  · obtain ⟨a, xs, os, rfl, _⟩ := h
    rfl
  · obtain ⟨a, xs, os, rfl, hH, hO, g, k⟩ := h
    have n1 := g.n1
    have n40 := g.n40
    have hxl : xs.length = os.length := by rw [hO.len, List.length_map]
    obtain ⟨r0, hr0, hr0H⟩ := OL.at hO (ch_get (os := os) (x := 0) (by omega) (by omega))
    refine ⟨_, (pss_one (ps_ret (pe_op op_cat (@pe_lst _ _ _ _ (@pa_cons _ _ _ _ _ (pe_callTy (call_list_ofK K) (by rfl) T.n_list (by decide +kernel) (@pa_cons _ _ _ _ _ (pe_ix (ix_listK K) (pv 0) pe_int (fun _ _ => rfl)) pa_nil (by rfl))) pa_nil (by rfl))) (pe_lc (own := [("row", 1)]) rfl sc_first_rows.nd (pi_listK K (pe_slice (sl_listK K) (pv 0) (po_some pe_int) po_none)) (blkOk_by (own := [("row", 1)]) (by kernel_rfl)) (fun _ _ _ _ _ => (pg_name (i := 1) sc_first_rows.nd rfl (Or.inl rfl))) (fun _ _ _ _ _ => pts_nil) (fun _ _ _ _ _ => pe_non))))), ?_⟩
    refine ⟨_, rfl, a, _, _, _, rfl, rfl, SqL.of hH, at_of (j := 0) rfl hr0, r0, _, rfl, .inl (SqL.of hr0H), fun q hq => ⟨(by show 1 ≤ sizeLine; decide), fun p1 hp1 => ?_⟩⟩
    have s1 : Same H (upd (upd H q (.lst ((ch os 0).map V.int))) p1 (.lst [.ref q])) := by
      have a1 : Same H (upd H q (.lst ((ch os 0).map V.int))) := Same.new hq
      exact a1.upd (a1.free hp1)
    have nqp : q ≠ p1 := fun z => by
      rw [← z, upd_same] at hp1
      cases hp1
    refine ⟨_, rfl, _, rfl, a, xs, rfl, SqL.of (s1 _ _ hH), fun p2 hp2 => ?_⟩
    rw [cut_tail (by omega)]
    generalize hHe : upd (upd (upd H q (.lst ((ch os 0).map V.int))) p1 (.lst [.ref q])) p2 (.lst (xs.drop 1)) = H1
    have s2 : Same H H1 := by rw [← hHe]; exact s1.upd (s1.free hp2)
    have hp1' : H1 p1 = some (.lst [.ref q]) := by
      rw [← hHe, upd_ne (ne_of_none upd_same hp2), upd_same]
    have hq1 : H1 q = some (.lst ((ch os 0).map V.int)) := by
      rw [← hHe, upd_ne (ne_of_none (by rw [upd_ne nqp, upd_same]) hp2), upd_ne nqp, upd_same]
    have hp2' : H1 p2 = some (.lst (xs.drop 1)) := by rw [← hHe, upd_same]
    refine ⟨p2, rfl, ⟨_, SqL.of hp2'⟩, fun D hD => ?_⟩
    refine lc_list (K := K) (a := p2) (xs := xs.drop 1) (fun i H2 => Same H1 H2 ∧ H2 D = some (.lst (List.replicate i .non))) ⟨Same.new hD, by rw [upd_same]; rfl⟩ (fun i H2 _ ⟨s3, _⟩ => SqL.of (s3 _ _ hp2')) ?_ ?_
    · rintro i x H2 hi ⟨s3, hd⟩
      have hil := (List.getElem?_eq_some_iff.mp hi).1
      rw [List.length_drop] at hil
      refine ⟨rfl, yesT ⟨_, hd, ?_, s3.upd hD, ?_⟩⟩
      · rw [List.length_replicate]
        exact small1000 (by omega)
      · rw [upd_same, List.replicate_succ']
    · rintro H2 ⟨s3, hd⟩
      rw [List.length_drop, hxl] at hd
      refine ⟨p1, D, _, _, rfl, rfl, s3 _ _ hp1', hd, ?_, fun b hb => ?_⟩
      · rw [List.length_replicate]
        exact Nat.le_of_lt (small1000 (by show 1 + (os.length - 1) ≤ 1000; omega))
      · have s4 : Same H2 (upd H2 b (.lst ([.ref q] ++ List.replicate (os.length - 1) .non))) := Same.new hb
        exact k b _ _ ((s2.trans s3).trans s4) (s2.free (s3.free hb)) upd_same (RL.cons (rl_nones _) ⟨q, rfl, s4 _ _ (s3 _ _ hq1)⟩) fun r hr' => by
          rcases List.mem_cons.mp hr' with e | e
          · injection e with e
            rw [e]
            exact hq
          · exact absurd (List.eq_of_mem_replicate e) (by simp)
def idxs (f : Option (List Int) → Bool) (rows : List (Option (List Int))) : List Int := (rows.zipIdx.filter fun q => f q.1).map fun q => (q.2 : Int)
theorem idxs_snoc (f : Option (List Int) → Bool) (rows : List (Option (List Int))) (row : Option (List Int)) : idxs f (rows ++ [row]) = idxs f rows ++ (if f row = true then [(rows.length : Int)] else []) := by
  unfold idxs
  rw [List.zipIdx_append, List.filter_append, List.map_append]
  congr 1
  by_cases h : f row = true <;> simp [h]
theorem idxs_len (f : Option (List Int) → Bool) (rows : List (Option (List Int))) : (idxs f rows).length ≤ rows.length := by
  unfold idxs
  rw [List.length_map]
  exact Nat.le_trans (List.length_filter_le _ _) (by simp)
theorem idxs_mem {f : Option (List Int) → Bool} {rows : List (Option (List Int))} {x : Int} : x ∈ idxs f rows ↔ ∃ (p : Nat) (row : Option (List Int)), x = p ∧ rows[p]? = some row ∧ f row = true := by
  unfold idxs
  constructor
  · intro h
    obtain ⟨⟨row, p⟩, hq, rfl⟩ := List.mem_map.mp h
    obtain ⟨h1, h2⟩ := List.mem_filter.mp hq
    exact ⟨p, row, rfl, by simpa [List.mem_zipIdx_iff_getElem?] using h1, h2⟩
  · rintro ⟨p, row, rfl, h1, h2⟩
    exact List.mem_map.mpr ⟨(row, p), List.mem_filter.mpr ⟨by simpa [List.mem_zipIdx_iff_getElem?] using h1, h2⟩, rfl⟩
def hasC : Option (List Int) → Bool
  | some (_ :: _) => true
  | _ => false
def spCallers : Sp := fun vs H Q _ => ∃ (a : Addr) (xs : List V) (rows : List (Option (List Int))), vs = [.ref a] ∧ H a = some (.lst xs) ∧ RL H xs rows ∧ rows.length ≤ 100 ∧ ∀ b H', Same H H' → H b = none → H' b = some (.lst ((idxs hasC rows).map V.int)) → Q (.ref b) H'
theorem sc_callers : FnScope ["rows", "person", "row"] ["rows"] (defScope s_callers) := ⟨rfl, rfl, rfl, by decide +kernel, rfl, by decide +kernel, by decide +kernel⟩
theorem ok_callers (T : Txt K mg A) : FnOk P w K mg base CX0 1 A.f_callers A.d_callers ["rows"] spCallers := by
  refine T.f_callers.ok sc_callers (fun vs H Q E h => ?_) (fun cdv A' outer s H vs Q E hr h => ?_)
  · obtain ⟨a, xs, rows, rfl, _⟩ := h
    rfl
  · obtain ⟨a, xs, rows, rfl, hH, hR, hl, k⟩ := h
    refine ⟨_, (pss_one (ps_ret (pe_lc (own := [("person", 1), ("row", 2)]) rfl sc_callers.nd (pi_enumK K (by rfl) T.n_enumerate (@pa_cons _ _ _ _ _ (pv 0) pa_nil (by rfl))) (blkOk_by (own := [("person", 1), ("row", 2)]) (by kernel_rfl)) (fun _ _ _ _ _ => (pg_tupK K (n := 2) (by rfl) (pgs_cons (pg_name (i := 1) sc_callers.nd rfl (Or.inl rfl)) (pgs_cons (pg_name (i := 2) sc_callers.nd rfl (Or.inl rfl)) pgs_nil)))) (fun _ _ _ _ _ => (pts_one (PW.pt (pw_and (pt_cmpR op_notN (pv 2) pe_non (nomark _)) (pw_and1 (pt_cmpR op_gt (pe_callB (call_len_seqK K) (by rfl) T.n_len PySem.boot_len (@pa_cons _ _ _ _ _ (pv 2) pa_nil (by rfl))) pe_int (nomark _))))))) (fun _ _ _ _ _ => (pv 1))))), ?_⟩
    refine ⟨_, rfl, a, xs, rfl, SqL.of hH, fun D hD => ?_⟩
    refine lc_enum0 (K := K) (a := a) (xs := xs) (fun j H3 => Same H H3 ∧ H3 D = some (.lst ((idxs hasC (rows.take j)).map V.int))) ⟨Same.new hD, by rw [upd_same]; rfl⟩ (fun j H3 _ ⟨s3, _⟩ => SqL.of (s3 _ _ hH)) ?_ ?_
    · rintro j x t H3 hj ⟨s3, hd⟩ ht
      obtain ⟨row, hrow, hv⟩ := hR.get hj
      have hjl := (List.getElem?_eq_some_iff.mp hrow).1
      have htk : (rows.take j).length = j := by rw [List.length_take]; omega
      have s4 : Same H3 (upd H3 t (.tup [.int (j : Nat), x])) := Same.new ht
      have hd4 := s4 _ _ hd
      have hs3 : Same H (upd H3 t (.tup [.int (j : Nat), x])) := s3.trans s4
      have key : idxs hasC (rows.take (j + 1)) = idxs hasC (rows.take j) ++ (if hasC row = true then [(j : Int)] else []) := by
        rw [take_snoc hrow, idxs_snoc, htk]
      refine ⟨t, _, rfl, SqT.of upd_same, rfl, _, _, rfl, _, _, rfl, rfl, rfl, ?_⟩
      refine ⟨_, rfl, rfl, _, rfl, ?_⟩
      cases row with
      | none =>
        have hv : x = .non := hv
        subst hv
        refine ⟨hs3, ?_⟩
        rw [key]
        simpa [hasC] using hd4
      | some l =>
        obtain ⟨r, rfl, hr'⟩ := hv
        have hr4 := hs3 _ _ hr'
        refine ⟨_, rfl, r, _, rfl, .inl (SqL.of hr4), _, _, rfl, rfl, _, rfl, ?_⟩
        rw [List.length_map]
        cases l with
        | nil =>
          refine ⟨hs3, ?_⟩
          rw [key]
          simpa [hasC] using hd4
        | cons y l =>
          refine ite2 (fun _ => ?_) (fun h => absurd (decide_eq_true (by rw [List.length_cons]; omega)) h)
          refine ⟨_, rfl, _, hd4, ?_, hs3.upd hD, ?_⟩
          · rw [List.length_map]
            have := idxs_len hasC (rows.take j)
            exact small1000 (by omega)
          · rw [upd_same, key]
            simp [hasC]
    · rintro H3 ⟨s3, hd⟩
      rw [hR.len, List.take_length] at hd
      exact k D H3 s3 hD hd
end
end Toy

set_option Elab.async false
set_option linter.all false
set_option maxRecDepth 100000
set_option maxHeartbeats 4000000
namespace Toy
open PySem L2
theorem inV_ints (c : Int) : ∀ as : List Int, inV (.int c) (as.map V.int) = decide (c ∈ as)
  | [] => by simp [inV]
  | a :: r => by
    have ih := inV_ints c r
    unfold inV at ih ⊢
    rw [List.map_cons, List.any_cons, ih]
    by_cases h : a = c
    · subst h
      simp [eqV]
    · have h' : ¬ c = a := fun z => h z.symm
      simp [eqV, h, h']
theorem flat_ints : ∀ as : List Int, (as.map V.int).all flatV = true
  | [] => rfl
  | a :: r => by
    rw [List.map_cons, List.all_cons, flat_ints r]
    rfl
structure CL (H : Hp) (cs : List Addr) (calls : List (Int × Int × Bool)) : Prop where
  len : cs.length = calls.length
  at' : ∀ (p : Nat) (t : Addr) (c : Int × Int × Bool), cs[p]? = some t → calls[p]? = some c → H t = some (.tup [.int c.1, .int c.2.1, .bl c.2.2])
theorem CL.mono {H H' : Hp} {cs : List Addr} {calls : List (Int × Int × Bool)} (h : CL H cs calls) (s : Same H H') : CL H' cs calls := ⟨h.len, fun p t c a b => s _ _ (h.at' p t c a b)⟩
theorem CL.upd {H : Hp} {cs : List Addr} {calls : List (Int × Int × Bool)} {a : Addr} {o : HO} (h : CL H cs calls) (n : a ∉ cs) : CL (L2.upd H a o) cs calls :=
  ⟨h.len, fun p t c hp hc => by rw [upd_ne (fun z => n (by rw [← z]; exact List.mem_of_getElem? hp))]; exact h.at' p t c hp hc⟩
theorem CL.nil {H : Hp} : CL H [] [] := ⟨rfl, fun p t c h _ => by simp at h⟩
theorem CL.snoc {H : Hp} {cs : List Addr} {calls : List (Int × Int × Bool)} {t : Addr} {c : Int × Int × Bool} (h : CL H cs calls) (ht : H t = some (.tup [.int c.1, .int c.2.1, .bl c.2.2])) : CL H (cs ++ [t]) (calls ++ [c]) := by
  refine ⟨by rw [List.length_append, List.length_append, h.len]; rfl, fun p x r hp hr => ?_⟩
  by_cases hpi : p < cs.length
  · rw [List.getElem?_append_left hpi] at hp
    rw [List.getElem?_append_left (by rw [← h.len]; exact hpi)] at hr
    exact h.at' p x r hp hr
  · rw [List.getElem?_append_right (by omega)] at hp
    rw [List.getElem?_append_right (by rw [← h.len]; omega), ← h.len] at hr
    have e0 : p - cs.length = 0 := by
      have := (List.getElem?_eq_some_iff.mp hp).1
      simp at this
      omega
    rw [e0] at hp hr
    have e1 : t = x := by simpa using hp
    have e2 : c = r := by simpa using hr
    subst e1 e2
    exact ht
theorem RL.upd {H : Hp} {vs : List V} {rows : List (Option (List Int))} {a : Addr} {o : HO} (h : RL H vs rows) (n : V.ref a ∉ vs) : RL (L2.upd H a o) vs rows :=
  ⟨h.len, fun p v row hp hr => by
    have q := h.at' p v row hp hr
    cases row with
    | none => exact q
    | some l =>
      obtain ⟨r, e, q⟩ := q
      exact ⟨r, e, by rw [upd_ne (fun z => n (by rw [← z, ← e]; exact List.mem_of_getElem? hp))]; exact q⟩⟩
theorem RL.notin {H : Hp} {vs : List V} {rows : List (Option (List Int))} {a : Addr} (h : RL H vs rows) (ha : H a = none) : V.ref a ∉ vs := fun hm => by
  obtain ⟨p, hp⟩ := List.getElem?_of_mem hm
  obtain ⟨row, hr, q⟩ := h.get hp
  cases row with
  | none => cases q
  | some l =>
    obtain ⟨r, e, q⟩ := q
    injection e with e
    rw [← e, ha] at q
    cases q
def stepP (os : List (List Int)) (rows : List (Option (List Int))) (as : List Int) (st : List (Int × Int × Bool) × List (Option (List Int))) (c : Int) : List (Int × Int × Bool) × List (Option (List Int)) :=
  if c ∈ as then st else match rows.getD c.toNat none with
  | some (x :: rest) => if x ∈ as then (st.1 ++ [(c, x, false)], st.2.set c.toNat (some (ch os x ++ rest))) else (st.1 ++ [(c, x, true)], (st.2.set c.toNat (some rest)).set x.toNat (some (ch os x)))
  | _ => st
def nextM (os : List (List Int)) (rows : List (Option (List Int))) (as : List Int) : List (Int × Int × Bool) × List (Option (List Int)) := (idxs hasC rows).foldl (stepP os rows as) ([], rows)
structure RowsIn (os : List (List Int)) (rows : List (Option (List Int))) : Prop where
  len : rows.length = os.length
  row : ∀ (p : Nat) (l : List Int), rows[p]? = some (some l) → l.length ≤ 40 ∧ ∀ x ∈ l, 0 ≤ x ∧ x < os.length
theorem stepP_len {os : List (List Int)} {rows : List (Option (List Int))} {as : List Int} {st : List (Int × Int × Bool) × List (Option (List Int))} {c : Int} : (stepP os rows as st c).2.length = st.2.length ∧ (stepP os rows as st c).1.length ≤ st.1.length + 1 := by
  unfold stepP
  split
  · exact ⟨rfl, Nat.le_succ _⟩
  · split
    · split
      · simp
      · simp
    · exact ⟨rfl, Nat.le_succ _⟩
theorem foldP_len {os : List (List Int)} {rows : List (Option (List Int))} {as : List Int} : ∀ (cs : List Int) (st : List (Int × Int × Bool) × List (Option (List Int))), (cs.foldl (stepP os rows as) st).2.length = st.2.length ∧ (cs.foldl (stepP os rows as) st).1.length ≤ st.1.length + cs.length
  | [], st => ⟨rfl, Nat.le_refl _⟩
  | c :: r, st => by
    have h1 := stepP_len (os := os) (rows := rows) (as := as) (st := st) (c := c)
    have ih := foldP_len (os := os) (rows := rows) (as := as) r (stepP os rows as st c)
    rw [List.foldl_cons, List.length_cons]
    omega
theorem ixN_of {n j : Nat} (h : j < n) : ixN n (j : Int) = some j := by
  unfold ixN
  rw [if_pos (by omega)]
  simp [h]
theorem app_call {K : PySem.W.Frag} {D : Ends} {σ : St} {H : Hp} {c : Addr} {cs : List Addr} {p y : Int} {bl : Bool} (h3 : σ[3]? = some (some (.ref c))) (h5 : σ[5]? = some (some (.int p))) (h6 : σ[6]? = some (some (.bl bl))) (h7 : σ[7]? = some (some (.int y)))
    (hc : H c = some (.lst (cs.map V.ref))) (hl : cs.length < 1000) (q : ∀ t, H t = none → D.nx σ (L2.upd (L2.upd H t (.tup [.int p, .int y, .bl bl])) c (.lst ((cs ++ [t]).map V.ref)))) :
    tDrop (tBM K "list" rAppend (tVar 3) (tCons (tTup (tCons (tVar 5) (tCons (tVar 7) (tCons (tVar 6) tNil)))) tNil)) D σ H := by
  refine ⟨_, h3, .inl ⟨rfl, _, SqL.of hc⟩, _, h5, _, h7, _, h6, (by show 3 ≤ sizeLine; decide), fun t ht => ⟨c, _, _, rfl, rfl, (by rw [upd_ne (ne_of_none hc ht)]; exact hc), ?_, ?_⟩⟩
  · rw [List.length_map]
    exact small1000 (by omega)
  · have := q t ht
    rw [List.map_append] at this
    exact this
section
variable {P : Program} {w : World} {K : PySem.W.Frag} {mg : Str → Option Value} {base : Heap} {A : Adr}
def spNext : Sp := fun vs H Q _ => ∃ (o rr ab : Addr) (xs ys : List V) (os : List (List Int)) (rows : List (Option (List Int))) (as : List Int), vs = [.ref o, .ref rr, .ref ab] ∧ H o = some (.lst xs) ∧ OL H xs os ∧ GoodO os ∧ H rr = some (.lst ys) ∧ RL H ys rows ∧ RowsIn os rows ∧ H ab = some (.lst (as.map V.int)) ∧
  ∀ (t c b : Addr) (cs : List Addr) (zs : List V) (H' : Hp), Same H H' → H c = none → H b = none → H' t = some (.tup [.ref c, .ref b]) → H' c = some (.lst (cs.map V.ref)) → CL H' cs (nextM os rows as).1 → H' b = some (.lst zs) → RL H' zs (nextM os rows as).2 → c ≠ b → c ∉ cs → V.ref c ∉ zs → (∀ r, V.ref r ∈ zs → H r = none) → Q (.ref t) H'
theorem sc_next_round : FnScope ["orders", "rows", "absent", "calls", "behind", "caller", "there", "called", "rest"] ["orders", "rows", "absent"] (defScope s_next_round) := ⟨rfl, rfl, rfl, by decide +kernel, rfl, by decide +kernel, by decide +kernel⟩
theorem ok_next_round (T : Txt K mg A) : FnOk P w K mg base CX0 2 A.f_next_round A.d_next_round ["orders", "rows", "absent"] spNext := by
  have G_copied := ok_copiedR (P := P) (w := w) (base := base) T
  have G_callers := ok_callers (P := P) (w := w) (base := base) T
  refine T.f_next_round.ok sc_next_round (fun vs H Q E h => ?_) (fun cdv A' outer s H vs Q E hr h => ?_)
  · obtain ⟨o, rr, ab, xs, ys, os, rows, as, rfl, _⟩ := h
    rfl
  · obtain ⟨o, rr, ab, xs, ys, os, rows, as, rfl, ho, hO, g, hrr, hR, hin, hab, k⟩ := h
    have n40 := g.n40
    have hrl := hin.len
    refine ⟨_, (pss_cons (ps_set (i := 3) sc_next_round.nd rfl (Or.inl rfl) (@pe_lst _ _ _ _ pa_nil))
      (pss_cons (ps_set (i := 4) sc_next_round.nd rfl (Or.inl rfl) (pe_call G_copied (hr.mono (by decide)) (by rfl) T.m_copied T.k_copied T.b_copied .nil pass0 (@pa_cons _ _ _ _ _ (pv 1) pa_nil (by rfl))))
      (pss_cons (ps_for PassesOwn.never rfl (pi_listK K (pe_call G_callers (hr.mono (by decide)) (by rfl) T.m_callers T.k_callers T.b_callers .nil pass0 (@pa_cons _ _ _ _ _ (pv 1) pa_nil (by rfl)))) (pg_name (i := 5) sc_next_round.nd rfl (Or.inl rfl)) (pss_cons (ps_if (pt_cmpR (op_in_seqK K) (pv 5) (pv 2) (by with_unfolding_all rfl)) (pss_one ps_continue) pss_nil)
      (pss_cons (ps_asg (pe_ix (ix_listK K) (pv 1) (pv 5) (fun _ _ => rfl)) (pg_starK K (by rfl) (pgs_cons (pg_name (i := 7) sc_next_round.nd rfl (Or.inl rfl)) (pgs_cons (pg_name (i := 8) sc_next_round.nd rfl (Or.inl rfl)) pgs_nil))))
      (pss_cons (ps_set (i := 6) sc_next_round.nd rfl (Or.inl rfl) (pe_cmpR (op_notIn_seqK K) (pv 7) (pv 2) (by with_unfolding_all rfl)))
      (pss_cons (ps_if (pt_val (pv 6)) (pss_cons (ps_asg (pv 8) (pg_sub (pv 4) (pv 5) set_list))
      (pss_one (ps_asg (pe_callTy (call_list_ofK K) (by rfl) T.n_list (by decide +kernel) (@pa_cons _ _ _ _ _ (pe_ix (ix_listK K) (pv 0) (pv 7) (fun _ _ => rfl)) pa_nil (by rfl))) (pg_sub (pv 4) (pv 7) set_list)))) (pss_one (ps_asg (pe_op op_cat (pe_ix (ix_listK K) (pv 0) (pv 7) (fun _ _ => rfl)) (pv 8)) (pg_sub (pv 4) (pv 5) set_list))))
      (pss_one (ps_expr (pe_bmK K PySem.F.plainAttrs_list PySem.F.slot_list_append PySem.F.type_list_append mt_append (pv 3) (@pa_cons _ _ _ _ _ (@pe_tup _ _ _ _ _ (@pa_cons _ _ _ _ _ (pv 5) (@pa_cons _ _ _ _ _ (pv 7) (@pa_cons _ _ _ _ _ (pv 6) pa_nil (by rfl)) (by rfl)) (by rfl))) pa_nil (by rfl))))))))))
      (pss_one (ps_ret (@pe_tup _ _ _ _ _ (@pa_cons _ _ _ _ _ (pv 3) (@pa_cons _ _ _ _ _ (pv 4) pa_nil (by rfl)) (by rfl)))))))), ?_⟩
    refine ⟨Nat.zero_le _, fun c hc => ?_⟩
    have s0 : Same H (upd H c (.lst [])) := Same.new hc
    refine ⟨_, rfl, rr, ys, rows, rfl, s0 _ _ hrr, hR.mono s0, by omega, fun b zs H1 s1 hb0 hb hZ hzn => ?_⟩
    have hc1 : H1 c = some (.lst []) := s1 _ _ upd_same
    have s01 := s0.trans s1
    have nbc : c ≠ b := fun z => by
      rw [← z, upd_same] at hb0
      cases hb0
    have hbH : H b = none := s0.free hb0
    refine ⟨_, rfl, rr, ys, rows, rfl, s01 _ _ hrr, hR.mono s01, by omega, fun cl H2 s2 hcl0 hcl => ?_⟩
    have s02 := s01.trans s2
    have hclH : H cl = none := s01.free hcl0
    have ncl : c ≠ cl := ne_of_none hc1 hcl0
    have nbl : b ≠ cl := ne_of_none hb hcl0
    generalize hcsd : idxs hasC rows = callers at hcl
    refine ⟨cl, rfl, ⟨_, SqL.of hcl⟩, for_list (K := K) (a := cl) (xs := callers.map V.int)
      (fun i σ H3 => ∃ (cs : List Addr) (zs : List V) (x5 x6 x7 x8 : Option V), σ = [some (.ref o), some (.ref rr), some (.ref ab), some (.ref c), some (.ref b), x5, x6, x7, x8] ∧ Same H H3 ∧ H3 cl = some (.lst (callers.map V.int)) ∧ H3 c = some (.lst (cs.map V.ref)) ∧ CL H3 cs ((callers.take i).foldl (stepP os rows as) ([], rows)).1 ∧ H3 b = some (.lst zs) ∧ RL H3 zs ((callers.take i).foldl (stepP os rows as) ([], rows)).2 ∧ c ∉ cs ∧ b ∉ cs ∧ V.ref c ∉ zs ∧ V.ref b ∉ zs ∧ ∀ r, V.ref r ∈ zs → H r = none)
      ⟨[], zs, _, _, _, _, rfl, s02, hcl, s2 _ _ hc1, CL.nil, s2 _ _ hb, hZ.mono s2, by simp, by simp, fun h1 => ?_, fun h1 => ?_, fun r hr' => s0.free (hzn r hr').1⟩ (fun i σ H3 _ ⟨_, _, _, _, _, _, _, _, q, _⟩ => SqL.of q) ?_ ?_⟩
    · have := (hzn c h1).1
      rw [upd_same] at this
      cases this
    · exact (hzn b h1).2 rfl
    · rintro i x σ H3 hi ⟨cs, zs, x5, x6, x7, x8, rfl, s3, hcl3, hc3, hC3, hb3, hZ3, n1, n2, n3, n4, n5⟩
      obtain ⟨p, hp, rfl⟩ := map_int_get hi
      have hpm : p ∈ idxs hasC rows := by rw [hcsd]; exact List.mem_of_getElem? hp
      obtain ⟨pn, row, rfl, hrow, hhas⟩ := idxs_mem.mp hpm
      obtain ⟨y, rest, rfl⟩ : ∃ y rest, row = some (y :: rest) := by
        cases row with
        | none => cases hhas
        | some l =>
          cases l with
          | nil => cases hhas
          | cons y l => exact ⟨y, l, rfl⟩
      obtain ⟨hl40, hyin⟩ := hin.row pn _ hrow
      obtain ⟨y0, y1⟩ := hyin y List.mem_cons_self
      have hpl := (List.getElem?_eq_some_iff.mp hrow).1
      generalize hst : (callers.take i).foldl (stepP os rows as) ([], rows) = st at hC3 hZ3
      have hst1 : (callers.take (i + 1)).foldl (stepP os rows as) ([], rows) = stepP os rows as st pn := by
        rw [take_snoc hp, List.foldl_append, hst]
        rfl
      have hlen := foldP_len (os := os) (rows := rows) (as := as) (callers.take i) ([], rows)
      rw [hst, List.length_take] at hlen
      have hcll : callers.length ≤ rows.length := by rw [← hcsd]; exact idxs_len _ _
      have hrd : rows.getD ((pn : Int)).toNat none = some (y :: rest) := by
        rw [Int.toNat_natCast, List.getD_eq_getElem?_getD, hrow]
        rfl
      rw [hst1]
      refine ⟨_, rfl, _, rfl, ab, as.map V.int, rfl, .inl (SqL.of (s3 _ _ hab)), rfl, flat_ints as, _, rfl, ?_⟩
      rw [if_neg (by simp), inV_ints]
      refine ite2 (fun ha => ?_) (fun ha => ?_)
      · have ha := of_decide_eq_true ha
        have e : stepP os rows as st pn = st := by
          unfold stepP
          rw [if_pos ha]
        rw [e]
        exact ⟨cs, zs, _, _, _, _, rfl, s3, hcl3, hc3, hC3, hb3, hZ3, n1, n2, n3, n4, n5⟩
      · have ha : ¬ (pn : Int) ∈ as := fun z => ha (decide_eq_true z)
        have hysl : pn < ys.length := by rw [hR.len]; exact hpl
        obtain ⟨v, hv⟩ : ∃ v, ys[pn]? = some v := ⟨_, List.getElem?_eq_getElem hysl⟩
        obtain ⟨r1, rfl, hr1⟩ := hR.at' pn v _ hv hrow
        refine ⟨_, rfl, _, rfl, rr, _, _, _, rfl, rfl, SqL.of (s3 _ _ hrr), at_of (j := pn) rfl hv, ?_⟩
        refine ⟨r1, .int y, rest.map V.int, rfl, SqL.of (s3 _ _ hr1), fun p1 hp1 => ⟨_, _, rfl, _, _, rfl, rfl, ?_⟩⟩
        have np1 : ∀ {d u}, H3 d = some u → d ≠ p1 := fun {d u} z => ne_of_none z hp1
        have s4 : Same H (upd H3 p1 (.lst (rest.map V.int))) := s3.upd (s3.free hp1)
        have m4 : Same H3 (upd H3 p1 (.lst (rest.map V.int))) := Same.new hp1
        have hrest : (upd H3 p1 (.lst (rest.map V.int))) p1 = some (.lst (rest.map V.int)) := upd_same
        have hb4 := m4 _ _ hb3
        have hc4 := m4 _ _ hc3
        have hcl4 := m4 _ _ hcl3
        have hC4 := hC3.mono m4
        have hZ4 := hZ3.mono m4
        have npc : c ≠ p1 := np1 hc3
        have npb : b ≠ p1 := np1 hb3
        have npl : cl ≠ p1 := np1 hcl3
        generalize upd H3 p1 (.lst (rest.map V.int)) = H4 at s4 m4 hrest hb4 hc4 hcl4 hC4 hZ4
        have hzl : zs.length = rows.length := by rw [hZ4.len, hlen.1]
        have hcsl : cs.length < 1000 := by
          rw [hC4.len]
          have := hlen.2
          simp only [List.length_nil] at this
          omega
        obtain ⟨r2, hr2, hr2H⟩ := OL.at hO (ch_get y0 y1)
        have hlch : (ch os y).length ≤ 40 := Nat.le_trans (nodup_len (n := os.length) (g.row (ch_get y0 y1)).1 fun x hx => by have := (g.row (ch_get y0 y1)).2 x hx; omega) n40
        refine ⟨_, rfl, _, rfl, ab, as.map V.int, rfl, .inl (SqL.of (s4 _ _ hab)), rfl, flat_ints as, ?_⟩
        rw [if_pos rfl, inV_ints]
        have ncb : b ≠ c := Ne.symm nbc
        by_cases hy : y ∈ as
        · rw [decide_eq_true hy]
          refine ⟨_, rfl, _, rfl, ?_⟩
          refine iteF ?_
          refine ⟨_, rfl, _, rfl, o, _, y, _, rfl, rfl, SqL.of (s4 _ _ ho), at_of (j := y.toNat) (by omega) hr2, _, rfl, r2, p1, _, _, rfl, rfl, s4 _ _ hr2H, hrest, ?_, fun p2 hp2 => ?_⟩
          · rw [List.length_map, List.length_map]
            rw [List.length_cons] at hl40
            exact Nat.le_of_lt (small1000 (by omega))
          · have np2 : ∀ {d u}, H4 d = some u → d ≠ p2 := fun {d u} z => ne_of_none z hp2
            have m5 : Same H4 (upd H4 p2 (.lst ((ch os y).map V.int ++ rest.map V.int))) := Same.new hp2
            have hn5 : (upd H4 p2 (.lst ((ch os y).map V.int ++ rest.map V.int))) p2 = some (.lst ((ch os y ++ rest).map V.int)) := by rw [upd_same, List.map_append]
            have hb5 := m5 _ _ hb4
            have hc5 := m5 _ _ hc4
            have hcl5 := m5 _ _ hcl4
            have hC5 := hC4.mono m5
            have hZ5 := hZ4.mono m5
            have s5 := s4.trans m5
            have npb2 : p2 ≠ b := Ne.symm (np2 hb4)
            have npc2 : p2 ≠ c := Ne.symm (np2 hc4)
            generalize upd H4 p2 (.lst ((ch os y).map V.int ++ rest.map V.int)) = H5 at m5 hn5 hb5 hc5 hcl5 hC5 hZ5 s5
            refine ⟨_, rfl, _, rfl, b, zs, (pn : Int), pn, rfl, rfl, hb5, ixN_of (by omega), ?_⟩
            have e : stepP os rows as st pn = (st.1 ++ [((pn : Int), y, false)], st.2.set pn (some (ch os y ++ rest))) := by
              unfold stepP
              rw [if_neg ha, hrd]
              simp only
              rw [if_pos hy, Int.toNat_natCast]
            have nzc : V.ref c ∉ zs.set pn (.ref p2) := fun hm => by
              rcases List.mem_or_eq_of_mem_set hm with h1 | h1
              · exact n3 h1
              · injection h1 with h1
                exact npc2 h1.symm
            have nzb : V.ref b ∉ zs.set pn (.ref p2) := fun hm => by
              rcases List.mem_or_eq_of_mem_set hm with h1 | h1
              · exact n4 h1
              · injection h1 with h1
                exact npb2 h1.symm
            have hZ6 : RL (upd H5 b (.lst (zs.set pn (.ref p2)))) (zs.set pn (.ref p2)) (st.2.set pn (some (ch os y ++ rest))) := (hZ5.set (row := some (ch os y ++ rest)) ⟨p2, rfl, hn5⟩ pn).upd nzb
            have hc6 : (upd H5 b (.lst (zs.set pn (.ref p2)))) c = some (.lst (cs.map V.ref)) := by rw [upd_ne nbc]; exact hc5
            have hb6 : (upd H5 b (.lst (zs.set pn (.ref p2)))) b = some (.lst (zs.set pn (.ref p2))) := upd_same
            have hC6 : CL (upd H5 b (.lst (zs.set pn (.ref p2)))) cs st.1 := hC5.upd n2
            have hcl6 : (upd H5 b (.lst (zs.set pn (.ref p2)))) cl = some (.lst (callers.map V.int)) := by rw [upd_ne (Ne.symm nbl)]; exact hcl5
            have s6 : Same H (upd H5 b (.lst (zs.set pn (.ref p2)))) := s5.upd hbH
            generalize upd H5 b (.lst (zs.set pn (.ref p2))) = H6 at hZ6 hc6 hb6 hC6 hcl6 s6
            refine app_call (cs := cs) rfl rfl rfl rfl hc6 hcsl fun t ht => ?_
            have m7 : Same H6 (upd H6 t (.tup [.int (pn : Int), .int y, .bl false])) := Same.new ht
            have nt : ∀ {d u}, H6 d = some u → d ≠ t := fun {d u} z => ne_of_none z ht
            have nct : c ∉ cs ++ [t] := fun hm => by
              rcases List.mem_append.mp hm with h1 | h1
              · exact n1 h1
              · exact nt hc6 (List.mem_singleton.mp h1)
            refine ⟨cs ++ [t], zs.set pn (.ref p2), _, _, _, _, rfl, (s6.trans m7).upd hc, ?_, upd_same, ?_, ?_, ?_, nct, ?_, nzc, nzb, fun r' hr' => ?_⟩
            · rw [upd_ne (Ne.symm ncl)]
              exact m7 _ _ hcl6
            · rw [e]
              exact ((hC6.mono m7).snoc (c := ((pn : Int), y, false)) upd_same).upd nct
            · rw [upd_ne ncb]
              exact m7 _ _ hb6
            · rw [e]
              exact (hZ6.mono m7).upd nzc
            · intro hm
              rcases List.mem_append.mp hm with h1 | h1
              · exact n2 h1
              · exact nt hb6 (List.mem_singleton.mp h1)
            · rcases List.mem_or_eq_of_mem_set hr' with h1 | h1
              · exact n5 r' h1
              · injection h1 with h1
                rw [h1]
                exact s4.free hp2
        · rw [decide_eq_false hy]
          refine ⟨_, rfl, _, rfl, ?_⟩
          refine iteT ?_
          have ey : ((y.toNat : Nat) : Int) = y := by omega
          refine ⟨_, rfl, _, rfl, _, rfl, b, zs, (pn : Int), pn, rfl, rfl, hb4, ixN_of (by omega), ?_⟩
          have nzc : V.ref c ∉ zs.set pn (.ref p1) := fun hm => by
            rcases List.mem_or_eq_of_mem_set hm with h1 | h1
            · exact n3 h1
            · injection h1 with h1
              exact npc h1
          have nzb : V.ref b ∉ zs.set pn (.ref p1) := fun hm => by
            rcases List.mem_or_eq_of_mem_set hm with h1 | h1
            · exact n4 h1
            · injection h1 with h1
              exact npb h1
          have hZ5 : RL (upd H4 b (.lst (zs.set pn (.ref p1)))) (zs.set pn (.ref p1)) (st.2.set pn (some rest)) := (hZ4.set (row := some rest) ⟨p1, rfl, hrest⟩ pn).upd nzb
          have hc5 : (upd H4 b (.lst (zs.set pn (.ref p1)))) c = some (.lst (cs.map V.ref)) := by rw [upd_ne nbc]; exact hc4
          have hb5 : (upd H4 b (.lst (zs.set pn (.ref p1)))) b = some (.lst (zs.set pn (.ref p1))) := upd_same
          have hC5 : CL (upd H4 b (.lst (zs.set pn (.ref p1)))) cs st.1 := hC4.upd n2
          have hcl5 : (upd H4 b (.lst (zs.set pn (.ref p1)))) cl = some (.lst (callers.map V.int)) := by rw [upd_ne (Ne.symm nbl)]; exact hcl4
          have s5 : Same H (upd H4 b (.lst (zs.set pn (.ref p1)))) := s4.upd hbH
          generalize upd H4 b (.lst (zs.set pn (.ref p1))) = H5 at hZ5 hc5 hb5 hC5 hcl5 s5
          generalize hz1 : zs.set pn (.ref p1) = zs1 at hZ5 hb5 nzc nzb
          have hz1l : zs1.length = rows.length := by rw [← hz1, List.length_set, hzl]
          refine ⟨_, rfl, _, rfl, o, _, y, _, rfl, rfl, SqL.of (s5 _ _ ho), at_of (j := y.toNat) (by omega) hr2, r2, _, rfl, .inl (SqL.of (s5 _ _ hr2H)), fun p2 hp2 => ?_⟩
          have np2 : ∀ {d u}, H5 d = some u → d ≠ p2 := fun {d u} z => ne_of_none z hp2
          have m6 : Same H5 (upd H5 p2 (.lst ((ch os y).map V.int))) := Same.new hp2
          have hn6 : (upd H5 p2 (.lst ((ch os y).map V.int))) p2 = some (.lst ((ch os y).map V.int)) := upd_same
          have hb6 := m6 _ _ hb5
          have hc6 := m6 _ _ hc5
          have hcl6 := m6 _ _ hcl5
          have hC6 := hC5.mono m6
          have hZ6 := hZ5.mono m6
          have s6 := s5.trans m6
          have npb2 : p2 ≠ b := Ne.symm (np2 hb5)
          have npc2 : p2 ≠ c := Ne.symm (np2 hc5)
          generalize upd H5 p2 (.lst ((ch os y).map V.int)) = H6 at m6 hn6 hb6 hc6 hcl6 hC6 hZ6 s6
          refine ⟨_, rfl, _, rfl, b, zs1, y, y.toNat, rfl, rfl, hb6, (by rw [← ey]; exact ixN_of (by omega)), ?_⟩
          have e : stepP os rows as st pn = (st.1 ++ [((pn : Int), y, true)], (st.2.set pn (some rest)).set y.toNat (some (ch os y))) := by
            unfold stepP
            rw [if_neg ha, hrd]
            simp only
            rw [if_neg hy, Int.toNat_natCast]
          have nyc : V.ref c ∉ zs1.set y.toNat (.ref p2) := fun hm => by
            rcases List.mem_or_eq_of_mem_set hm with h1 | h1
            · exact nzc h1
            · injection h1 with h1
              exact npc2 h1.symm
          have nyb : V.ref b ∉ zs1.set y.toNat (.ref p2) := fun hm => by
            rcases List.mem_or_eq_of_mem_set hm with h1 | h1
            · exact nzb h1
            · injection h1 with h1
              exact npb2 h1.symm
          have hZ7 : RL (upd H6 b (.lst (zs1.set y.toNat (.ref p2)))) (zs1.set y.toNat (.ref p2)) ((st.2.set pn (some rest)).set y.toNat (some (ch os y))) := (hZ6.set (row := some (ch os y)) ⟨p2, rfl, hn6⟩ y.toNat).upd nyb
          have hc7 : (upd H6 b (.lst (zs1.set y.toNat (.ref p2)))) c = some (.lst (cs.map V.ref)) := by rw [upd_ne nbc]; exact hc6
          have hb7 : (upd H6 b (.lst (zs1.set y.toNat (.ref p2)))) b = some (.lst (zs1.set y.toNat (.ref p2))) := upd_same
          have hC7 : CL (upd H6 b (.lst (zs1.set y.toNat (.ref p2)))) cs st.1 := hC6.upd n2
          have hcl7 : (upd H6 b (.lst (zs1.set y.toNat (.ref p2)))) cl = some (.lst (callers.map V.int)) := by rw [upd_ne (Ne.symm nbl)]; exact hcl6
          have s7 : Same H (upd H6 b (.lst (zs1.set y.toNat (.ref p2)))) := s6.upd hbH
          generalize upd H6 b (.lst (zs1.set y.toNat (.ref p2))) = H7 at hZ7 hc7 hb7 hC7 hcl7 s7
          refine app_call (cs := cs) rfl rfl rfl rfl hc7 hcsl fun t ht => ?_
          have m8 : Same H7 (upd H7 t (.tup [.int (pn : Int), .int y, .bl true])) := Same.new ht
          have nt : ∀ {d u}, H7 d = some u → d ≠ t := fun {d u} z => ne_of_none z ht
          have nct : c ∉ cs ++ [t] := fun hm => by
            rcases List.mem_append.mp hm with h1 | h1
            · exact n1 h1
            · exact nt hc7 (List.mem_singleton.mp h1)
          refine ⟨cs ++ [t], zs1.set y.toNat (.ref p2), _, _, _, _, rfl, (s7.trans m8).upd hc, ?_, upd_same, ?_, ?_, ?_, nct, ?_, nyc, nyb, fun r' hr' => ?_⟩
          · rw [upd_ne (Ne.symm ncl)]
            exact m8 _ _ hcl7
          · rw [e]
            exact ((hC7.mono m8).snoc (c := ((pn : Int), y, true)) upd_same).upd nct
          · rw [upd_ne ncb]
            exact m8 _ _ hb7
          · rw [e]
            exact (hZ7.mono m8).upd nyc
          · intro hm
            rcases List.mem_append.mp hm with h1 | h1
            · exact n2 h1
            · exact nt hb7 (List.mem_singleton.mp h1)
          · rcases List.mem_or_eq_of_mem_set hr' with h1 | h1
            · rw [← hz1] at h1
              rcases List.mem_or_eq_of_mem_set h1 with h1 | h1
              · exact n5 r' h1
              · injection h1 with h1
                rw [h1]
                exact s3.free hp1
            · injection h1 with h1
              rw [h1]
              exact s5.free hp2
    · rintro σ H3 ⟨cs, zs, x5, x6, x7, x8, rfl, s3, hcl3, hc3, hC3, hb3, hZ3, n1, n2, n3, n4, n5⟩
      rw [List.length_map, List.take_length, ← hcsd] at hC3 hZ3
      refine ⟨_, rfl, _, rfl, (by show 2 ≤ sizeLine; decide), fun t ht => ?_⟩
      have m4 : Same H3 (upd H3 t (.tup [.ref c, .ref b])) := Same.new ht
      exact k t c b cs zs _ (s3.trans m4) hc hbH upd_same (m4 _ _ hc3) (hC3.mono m4) (m4 _ _ hb3) (hZ3.mono m4) nbc n1 n3 n5
end
end Toy

set_option Elab.async false
set_option linter.all false
set_option maxRecDepth 100000
set_option maxHeartbeats 4000000
namespace Toy
open PySem L2
def But (x : Addr) (H H' : Hp) : Prop := ∀ b u, b ≠ x → H b = some u → H' b = some u
def KL (H H' : Hp) : Prop := ∀ b xs, H b = some (.lst xs) → H' b = some (.lst xs)
theorem KL.of {H H' : Hp} (s : Same H H') : KL H H' := fun b xs e => s b _ e
theorem KL.but {H H' : Hp} {x C dx : Addr} {fs : List (Str × V)} (hx : H x = some (.ins C dx fs)) (h : But x H H') : KL H H' := fun b xs e => h b _ (fun z => by rw [z, hx] at e; cases e) e
theorem RL.kl {H H' : Hp} {vs : List V} {rows : List (Option (List Int))} (h : RL H vs rows) (s : KL H H') : RL H' vs rows := ⟨h.len, fun p v row a b => by
  have q := h.at' p v row a b
  cases row with
  | none => exact q
  | some l =>
    obtain ⟨r, e, q⟩ := q
    exact ⟨r, e, s _ _ q⟩⟩
theorem But.of {x : Addr} {H H' : Hp} (s : Same H H') : But x H H' := fun b u _ e => s b u e
theorem But.trans {x : Addr} {H H1 H2 : Hp} (a : But x H H1) (b : But x H1 H2) : But x H H2 := fun c u n e => b c u n (a c u n e)
theorem But.upd {x : Addr} {H : Hp} {o : HO} : But x H (L2.upd H x o) := fun b u n e => by rw [upd_ne n]; exact e
abbrev fldP (o rr : Addr) (t : Int) : List (Str × V) := [("orders", .ref o), ("rows", .ref rr), ("turns", .int t)]
structure PhAt (C : Addr) (H : Hp) (x dx o rr : Addr) (xs ys : List V) (os : List (List Int)) (rows : List (Option (List Int))) (t : Int) : Prop where
  hx : H x = some (.ins C dx (fldP o rr t))
  ho : H o = some (.lst xs)
  hO : OL H xs os
  hr : H rr = some (.lst ys)
  hR : RL H ys rows
theorem PhAt.mono {C : Addr} {H H' : Hp} {x dx o rr : Addr} {xs ys : List V} {os : List (List Int)} {rows : List (Option (List Int))} {t : Int} (h : PhAt C H x dx o rr xs ys os rows t) (s : Same H H') : PhAt C H' x dx o rr xs ys os rows t :=
  ⟨s _ _ h.hx, s _ _ h.ho, RL.mono h.hO s, s _ _ h.hr, h.hR.mono s⟩
def Ph (C : Addr) (H : Hp) (x : Addr) (os : List (List Int)) (rows : List (Option (List Int))) (t : Int) : Prop := ∃ dx o rr xs ys, PhAt C H x dx o rr xs ys os rows t
theorem Ph.mono {C : Addr} {H H' : Hp} {x : Addr} {os : List (List Int)} {rows : List (Option (List Int))} {t : Int} (h : Ph C H x os rows t) (s : Same H H') : Ph C H' x os rows t :=
  let ⟨dx, o, rr, xs, ys, h⟩ := h; ⟨dx, o, rr, xs, ys, h.mono s⟩
section
variable {P : Program} {w : World} {K : PySem.W.Frag} {mg : Str → Option Value} {base : Heap} {A : Adr}
end
end Toy

set_option Elab.async false
set_option linter.all false
set_option maxRecDepth 100000
set_option maxHeartbeats 4000000
namespace Toy
open PySem L2
section
variable {P : Program} {w : World} {K : PySem.W.Frag} {mg : Str → Option Value} {base : Heap} {A : Adr}
end
end Toy

set_option Elab.async false
set_option linter.all false
set_option maxRecDepth 100000
set_option maxHeartbeats 4000000
namespace Toy
open PySem L2 PySem.Builtin.Int
theorem bits_of {x : Int} {m : Nat} (h : x.natAbs < 2 ^ m) : intBits x ≤ m := intBits_le_iff.mpr h
theorem p18 : (10 : Int) ^ (18 : Int).toNat = 1000000000000000000 := by decide
theorem b20 {n : Nat} (h : n ≤ 200) : n ≤ 2 ^ 20 := Nat.le_trans h (by decide)
theorem mulB {x y : Int} {m n : Nat} (hx : intBits x ≤ m) (hy : intBits y ≤ n) (hm : m ≤ 200) (hn : n ≤ 200) : CMulB x y := ⟨Nat.le_trans hx (b20 hm), Nat.le_trans hy (b20 hn)⟩
section
variable {P : Program} {w : World} {K : PySem.W.Frag} {mg : Str → Option Value} {base : Heap} {A : Adr}
def spNumber : Sp := fun vs H Q _ => ∃ c n z, vs = [.int c, .int n, .int z] ∧ 0 ≤ n ∧ n ≤ 1000 ∧ ∀ r, Q (.int r) H
theorem sc_law_number : FnScope ["_law_cell", "_law_at", "_law_whole", "_law_mixed", "_law_more"] ["_law_cell", "_law_at", "_law_whole"] (defScope s_law_number) := ⟨rfl, rfl, rfl, by decide +kernel, rfl, by decide +kernel, by decide +kernel⟩
theorem ok_law_number (T : Txt K mg A) : FnOk P w K mg base CX0 1 A.f_law_number A.d_law_number ["_law_cell", "_law_at", "_law_whole"] spNumber := by
  refine T.f_law_number.ok sc_law_number (fun vs H Q E h => ?_) (fun cdv A' outer s H vs Q E hr h => ?_)
  · obtain ⟨c, n, z, rfl, _⟩ := h
    rfl
  · obtain ⟨c, n, z, rfl, hn0, hn1, k⟩ := h
    refine ⟨_, (pss_cons (ps_if (PW.pt (pw_or (pt_cmpR op_ge (pv 0) (pe_op op_pow pe_int pe_int) (nomark _)) (pw_or1 (pt_cmpR op_le (pv 0) (pe_op op_sub pe_int (pe_op op_pow pe_int pe_int)) (nomark _))))) (pss_one (ps_ret (pe_op op_mod (pv 0) (pe_op op_pow pe_int pe_int)))) pss_nil)
      (pss_cons (ps_set (i := 3) sc_law_number.nd rfl (Or.inl rfl) (pe_op op_mod (pe_op op_add (pe_op op_mulB (pe_op op_add (pv 0) (pe_op op_mulB pe_int (pv 1))) pe_int) (pv 2)) pe_int))
      (pss_cons (ps_set (i := 4) sc_law_number.nd rfl (Or.inl rfl) (pe_op op_mulB (pe_op op_mulB (pv 3) (pe_op op_add (pe_op op_add (pv 3) (pe_op op_mulB pe_int (pv 1))) pe_int)) (pe_op op_add (pe_op op_add (pv 3) (pv 0)) pe_int)))
      (pss_one (ps_ret (pe_op op_fdiv (pe_op op_mulB (pv 4) (pe_op op_add (pv 4) pe_int)) pe_int)))))), ?_⟩
    have big : Q (.int (c % 10 ^ (60 : Int).toNat)) H := k _
    have ret1 : ∃ v, (L2.start ["_law_cell", "_law_at", "_law_whole", "_law_mixed", "_law_more"] [.int c, .int n, .int z])[0]? = some (some v) ∧ tOp (rI CPow fun i j => .int (i ^ j.toNat)) (tC (.int 10)) (tC (.int 60)) (L2.start ["_law_cell", "_law_at", "_law_whole", "_law_mixed", "_law_more"] [.int c, .int n, .int z]) H fun y H2 => rI (fun _ j => 0 < j) (fun i j => .int (i % j)) v y H2 Q :=
      ⟨_, rfl, _, _, rfl, rfl, ⟨by decide, by decide, by decide⟩, _, _, rfl, rfl, (by show (0 : Int) < 10 ^ 60; decide), big⟩
    refine ⟨_, rfl, _, _, rfl, rfl, ⟨by decide, by decide, by decide⟩, _, _, rfl, rfl, _, rfl, ?_⟩
    refine ite2 (fun _ => ?_) (fun h1 => ?_)
    · exact iteT ret1
    refine ⟨_, rfl, _, _, rfl, rfl, ⟨by decide, by decide, by decide⟩, _, _, rfl, rfl, _, _, rfl, rfl, _, rfl, ?_⟩
    refine ite2 (fun _ => ret1) (fun h2 => ?_)
    rw [p18] at h1 h2
    have h1 : c < 1000000000000000000 := by
      have : ¬ (1000000000000000000 ≤ c) := fun q => h1 (decide_eq_true q)
      omega
    have h2 : -1000000000000000000 < c := by
      have : ¬ (c ≤ 0 - 1000000000000000000) := fun q => h2 (decide_eq_true q)
      omega
    refine ⟨_, rfl, _, rfl, _, _, rfl, rfl, mulB (m := 20) (n := 20) (bits_of (by decide)) (bits_of (by omega)) (by decide) (by decide), _, _, rfl, rfl, _, _, rfl, rfl, mulB (m := 64) (n := 20) (bits_of (by omega)) (bits_of (by decide)) (by decide) (by decide), _, rfl, _, _, rfl, rfl, _, _, rfl, rfl, (by show (0 : Int) < 2147483647; decide), ?_⟩
    have bM : intBits (((c + 977 * n) * 48271 + z) % 2147483647) ≤ 31 := bits_of (by omega)
    have bN : intBits ((((c + 977 * n) * 48271 + z) % 2147483647) + 31 * n + 7) ≤ 33 := bits_of (by omega)
    have bC : intBits ((((c + 977 * n) * 48271 + z) % 2147483647) + c + 5) ≤ 62 := bits_of (by omega)
    have b1 : intBits ((((c + 977 * n) * 48271 + z) % 2147483647) * ((((c + 977 * n) * 48271 + z) % 2147483647) + 31 * n + 7)) ≤ 64 := intBits_mul_le bM bN
    refine ⟨_, rfl, _, rfl, _, rfl, _, _, rfl, rfl, mulB (m := 20) (n := 20) (bits_of (by decide)) (bits_of (by omega)) (by decide) (by decide), _, _, rfl, rfl, _, _, rfl, rfl, _, _, rfl, rfl, mulB (m := 31) (n := 33) bM bN (by decide) (by decide), _, rfl, _, rfl, _, _, rfl, rfl, _, _, rfl, rfl, _, _, rfl, rfl, mulB (m := 64) (n := 62) b1 bC (by decide) (by decide), ?_⟩
    have b2 : intBits ((((c + 977 * n) * 48271 + z) % 2147483647) * ((((c + 977 * n) * 48271 + z) % 2147483647) + 31 * n + 7) * ((((c + 977 * n) * 48271 + z) % 2147483647) + c + 5)) ≤ 126 := intBits_mul_le b1 bC
    have b3 : intBits ((((c + 977 * n) * 48271 + z) % 2147483647) * ((((c + 977 * n) * 48271 + z) % 2147483647) + 31 * n + 7) * ((((c + 977 * n) * 48271 + z) % 2147483647) + c + 5) + 48271) ≤ 127 := by
      have q := intBits_add_le b2 (show intBits 48271 ≤ 20 from bits_of (by decide))
      simpa using q
    refine ⟨_, rfl, _, rfl, _, _, rfl, rfl, _, _, rfl, rfl, mulB (m := 126) (n := 127) b2 b3 (by decide) (by decide), _, _, rfl, rfl, ⟨by decide, by decide⟩, k _⟩
end
end Toy
namespace Toy
open PySem L2
theorem dpAll_ints {K : PySem.W.Frag} {H : Hp} : ∀ ns : List Int, DpAll K H (ns.map V.int) (ns.map PyData.int)
  | [] => .nil
  | n :: r => .cons (.int n) (dpAll_ints r)
theorem dp_ints {K : PySem.W.Frag} {H : Hp} {a : Addr} {ns : List Int} (h : SqL K H a (ns.map V.int)) : Dp K H (.ref a) (.list (ns.map PyData.int)) := .lst h (dpAll_ints ns)
theorem can_ints : ∀ ns : List Int, PyData.canLayAll0 (ns.map PyData.int) = true
  | [] => by simp [PyData.canLayAll0]
  | n :: r => by
    have ih := can_ints r
    simp [PyData.canLayAll0, PyData.canLay0, ih]
theorem dep_ints : ∀ ns : List Int, PyData.depthAll (ns.map PyData.int) ≤ 1
  | [] => by simp [PyData.depthAll]
  | n :: r => by
    have ih := dep_ints r
    simp only [List.map_cons, PyData.depthAll, PyData.depth]
    omega
theorem shaped_ints (ns : List Int) : SeqAt.shaped (.list (ns.map PyData.int)) = true := by
  unfold SeqAt.shaped
  rw [Bool.and_eq_true]
  refine ⟨?_, decide_eq_true ?_⟩
  · simpa only [PyData.canLay0] using can_ints ns
  · have := dep_ints ns
    simp only [PyData.depth]
    omega
theorem eqv_nil (ns : List Int) : PyData.eqv (.list (ns.map PyData.int)) (.list []) = decide (ns = []) := by
  cases ns with
  | nil => simp [PyData.eqv, PyData.eqvAll]
  | cons n r => simp [PyData.eqv, PyData.eqvAll]
section
variable {P : Program} {w : World} {K : PySem.W.Frag} {mg : Str → Option Value} {base : Heap} {A : Adr}
def spLups (K : PySem.W.Frag) : Sp := fun vs H Q _ => ∃ (a : Addr) (ns : List Int) (by' most : Int), vs = [.ref a, .int by', .int most] ∧ SqL K H a (ns.map V.int) ∧ ns.length ≤ 63 ∧ 0 ≤ by' ∧ by' ≤ 10 ∧ 1 ≤ most ∧ most ≤ 40 ∧
  ∀ (b : Addr) (us : List Int) (H' : Hp), Same H H' → H b = none → H' b = some (.lst (us.map V.int)) → (us.length : Int) < most → GoodUps us → Q (.ref b) H'
theorem sc_law_ups : FnScope ["_law_script", "_law_by", "_law_most", "_law_cells", "_law_at", "_law_whole", "_law_found", "_law_many", "_law_kind", "_law_number_here"] ["_law_script", "_law_by", "_law_most"] (defScope s_law_ups) := ⟨rfl, rfl, rfl, by decide +kernel, rfl, by decide +kernel, by decide +kernel⟩
theorem ok_law_ups (T : Txt K mg A) : FnOk P w K mg base CX0 2 A.f_law_ups A.d_law_ups ["_law_script", "_law_by", "_law_most"] (spLups K) := by
  have G_law_number := ok_law_number (P := P) (w := w) (base := base) T
  refine T.f_law_ups.ok sc_law_ups (fun vs H Q E h => ?_) (fun cdv A' outer s H vs Q E hr h => ?_)
  · obtain ⟨a, ns, b, m, rfl, _⟩ := h
    rfl
  · obtain ⟨a, ns, by', most, rfl, hS, hlen, hb0, hb1, hm0, hm1, k⟩ := h
    have tail : ∃ u, PSs (cxOf CX0 P w K mg base ["_law_script", "_law_by", "_law_most", "_law_cells", "_law_at", "_law_whole", "_law_found", "_law_many", "_law_kind", "_law_number_here"] "_law_ups" (defScope s_law_ups) A.f_law_ups cdv A' outer s H E).nox ((defBody s_law_ups).drop 1) u ∧ ∀ (cl : Addr) (cs : List Int) (H1 : Hp), Same H H1 → H cl = none → H1 cl = some (.lst (cs.map V.int)) → 0 < cs.length → cs.length ≤ 63 →
        u { nx := fun _ H' => Q .non H', rt := Q } [some (.ref a), some (.int by'), some (.int most), some (.ref cl), none, none, none, none, none, none] H1 := by
      refine ⟨_, (pss_cons (ps_par (i := 5) (j := 6) (by rfl) sc_law_ups.nd rfl rfl (by decide) rfl rfl (@pa_cons _ _ _ _ _ (pe_op op_add (pe_callB (cr_sumK K rfl) (by rfl) T.n_sum (by decide +kernel) (@pa_cons _ _ _ _ _ (pv 3) pa_nil (by rfl))) (pv 1)) (@pa_cons _ _ _ _ _ (@pe_lst _ _ _ _ pa_nil) pa_nil (by rfl)) (by rfl)) (by rfl))
      (pss_cons (ps_par (i := 7) (j := 8) (by rfl) sc_law_ups.nd rfl rfl (by decide) rfl rfl (@pa_cons _ _ _ _ _ (pe_op op_mod (pe_op op_fdiv (pe_call G_law_number (hr.mono (by decide)) (by rfl) T.m_law_number T.k_law_number T.b_law_number .nil pass0 (@pa_cons _ _ _ _ _ (pv 5) (@pa_cons _ _ _ _ _ (pe_op op_add (pv 1) pe_int) (@pa_cons _ _ _ _ _ pe_int pa_nil (by rfl)) (by rfl)) (by rfl))) pe_int) (pv 2)) (@pa_cons _ _ _ _ _ (pe_op op_mod (pe_op op_fdiv (pe_call G_law_number (hr.mono (by decide)) (by rfl) T.m_law_number T.k_law_number T.b_law_number .nil pass0 (@pa_cons _ _ _ _ _ (pv 5) (@pa_cons _ _ _ _ _ (pe_op op_add (pv 1) pe_int) (@pa_cons _ _ _ _ _ pe_int pa_nil (by rfl)) (by rfl)) (by rfl))) pe_int) pe_int) pa_nil (by rfl)) (by rfl)) (by rfl))
      (pss_cons (ps_for PassesOwn.never rfl (pi_range1 (by rfl) T.n_range (@pa_cons _ _ _ _ _ (pv 7) pa_nil (by rfl))) (pg_name (i := 4) sc_law_ups.nd rfl (Or.inl rfl)) (pss_cons (ps_set (i := 9) sc_law_ups.nd rfl (Or.inl rfl) (pe_op op_fdiv (pe_call G_law_number (hr.mono (by decide)) (by rfl) T.m_law_number T.k_law_number T.b_law_number .nil pass0 (@pa_cons _ _ _ _ _ (pe_op op_add (pe_ix (ix_listK K) (pv 3) (pe_op op_mod (pe_op op_add (pv 4) (pv 1)) (pe_callB (call_len_seqK K) (by rfl) T.n_len PySem.boot_len (@pa_cons _ _ _ _ _ (pv 3) pa_nil (by rfl)))) (fun _ _ => rfl)) (pv 4)) (@pa_cons _ _ _ _ _ (pe_op op_add (pv 4) (pv 1)) (@pa_cons _ _ _ _ _ (pv 5) pa_nil (by rfl)) (by rfl)) (by rfl))) pe_int))
      (pss_one (ps_expr (pe_bmK K PySem.F.plainAttrs_list PySem.F.slot_list_append PySem.F.type_list_append mt_append (pv 6) (@pa_cons _ _ _ _ _ (pe_ix (ix_tupK K) (@pe_tup _ _ _ _ _ (@pa_cons _ _ _ _ _ (pe_op op_mod (pv 9) (pe_op op_add (pv 4) pe_int)) (@pa_cons _ _ _ _ _ (pv 4) (@pa_cons _ _ _ _ _ pe_int (@pa_cons _ _ _ _ _ (pe_op op_mod (pv 9) (pe_callB (call_min2 rfl) (by rfl) T.n_min (by decide +kernel) (@pa_cons _ _ _ _ _ (pe_op op_add (pv 4) pe_int) (@pa_cons _ _ _ _ _ pe_int pa_nil (by rfl)) (by rfl)))) (@pa_cons _ _ _ _ _ (pe_op op_fdiv (pv 4) pe_int) pa_nil (by rfl)) (by rfl)) (by rfl)) (by rfl)) (by rfl))) (pv 8) (fun _ _ => rfl)) pa_nil (by rfl)))))))
      (pss_one (ps_ret (pv 6)))))), ?_⟩
      intro cl cs H1 s1 hcn hc1 hc0 hc63
      refine ⟨_, rfl, cl, cs, rfl, SqL.of hc1, _, rfl, _, _, rfl, rfl, Nat.zero_le _, fun f hf => ⟨_, _, rfl, ?_⟩⟩
      have s2 : Same H (upd H1 f (.lst [])) := s1.upd (s1.free hf)
      have hfH : H f = none := s1.free hf
      have hcf : cl ≠ f := ne_of_none hc1 hf
      have hc2 : (upd H1 f (.lst [])) cl = some (.lst (cs.map V.int)) := by
        rw [upd_ne hcf]
        exact hc1
      refine ⟨_, rfl, _, rfl, _, _, rfl, rfl, _, _, _, rfl, by omega, by omega, fun r1 => ?_⟩
      refine ⟨_, _, rfl, rfl, ⟨by decide, by decide⟩, _, rfl, _, _, rfl, rfl, (by show 0 < most; omega), ?_⟩
      refine ⟨_, rfl, _, rfl, _, _, rfl, rfl, _, _, _, rfl, by omega, by omega, fun r2 => ?_⟩
      refine ⟨_, _, rfl, rfl, ⟨by decide, by decide⟩, _, _, rfl, rfl, (by show (0 : Int) < 5; decide), _, _, rfl, ?_⟩
      have hma : 0 ≤ r1 / 9 % most ∧ r1 / 9 % most < most := ⟨Int.emod_nonneg _ (by omega), Int.emod_lt_of_pos _ (by omega)⟩
      have hki : 0 ≤ r2 / 360 % 5 ∧ r2 / 360 % 5 < 5 := ⟨Int.emod_nonneg _ (by omega), Int.emod_lt_of_pos _ (by omega)⟩
      refine ⟨_, rfl, r1 / 9 % most, rfl, by omega, by omega, ?_⟩
      refine for_range (lo := 0) (n := (r1 / 9 % most).toNat) (fun i σ H3 => ∃ x y, σ = [some (.ref a), some (.int by'), some (.int most), some (.ref cl), x, some (.int (cs.sum + by')), some (.ref f), some (.int (r1 / 9 % most)), some (.int (r2 / 360 % 5)), y] ∧ Same H H3 ∧ H3 cl = some (.lst (cs.map V.int)) ∧
          ∃ us : List Int, H3 f = some (.lst (us.map V.int)) ∧ us.length = i ∧ ∀ (j : Nat) (u : Int), us[j]? = some u → 0 ≤ u ∧ u ≤ j)
        ⟨none, none, rfl, s2, hc2, [], upd_same, rfl, fun j u h1 => by simp at h1⟩ ?_ ?_
      · rintro i σ H3 hi ⟨x0, y0, rfl, s3, hc3, us, hf3, hul, hug⟩
        have hcl0 : 0 < (((cs.map V.int).length : Nat) : Int) := by
          rw [List.length_map]
          omega
        have hidx : 0 ≤ ((0 : Int) + i + by') % (((cs.map V.int).length : Nat) : Int) ∧ ((0 : Int) + i + by') % (((cs.map V.int).length : Nat) : Int) < (((cs.map V.int).length : Nat) : Int) := ⟨Int.emod_nonneg _ (by omega), Int.emod_lt_of_pos _ hcl0⟩
        obtain ⟨z, hz⟩ : ∃ z, cs[(((0 : Int) + i + by') % (((cs.map V.int).length : Nat) : Int)).toNat]? = some z := ⟨_, List.getElem?_eq_getElem (by have := hidx.2; rw [List.length_map] at this; rw [List.length_map]; omega)⟩
        refine ⟨_, rfl, _, rfl, _, rfl, _, _, rfl, rfl, _, rfl, cl, _, rfl, .inl (SqL.of hc3), _, _, rfl, rfl, hcl0, cl, cs.map V.int, _, .int z, rfl, rfl, SqL.of hc3, at_of (j := (((0 : Int) + i + by') % (((cs.map V.int).length : Nat) : Int)).toNat) (by omega) (by rw [List.getElem?_map, hz]; rfl), ?_⟩
        refine ⟨_, rfl, _, _, rfl, rfl, _, rfl, _, rfl, _, _, rfl, rfl, _, rfl, _, _, _, rfl, by omega, by omega, fun r => ?_⟩
        refine ⟨_, _, rfl, rfl, ⟨by decide, by decide⟩, ?_⟩
        refine ⟨_, rfl, .inl ⟨rfl, _, SqL.of hf3⟩, ?_⟩
        refine ⟨_, rfl, _, rfl, _, _, rfl, rfl, _, _, rfl, rfl, (by show (0 : Int) < 0 + i + 1; omega), ?_⟩
        refine ⟨_, rfl, _, rfl, _, rfl, _, _, rfl, rfl, _, _, rfl, _, _, rfl, rfl, (by show (0 : Int) < if (3 : Int) < 0 + (i : Int) + 1 then (3 : Int) else 0 + (i : Int) + 1; split <;> omega), ?_⟩
        refine ⟨_, rfl, _, _, rfl, rfl, ⟨by decide, by decide⟩, (by show 5 ≤ sizeLine; decide), fun t ht => ?_⟩
        obtain ⟨v, hv, hv0, hv1⟩ : ∃ v : Int, atI [V.int (r / 3 % (0 + i + 1)), V.int (0 + i), V.int 0, V.int (r / 3 % (if (3 : Int) < 0 + (i : Int) + 1 then (3 : Int) else 0 + (i : Int) + 1)), V.int ((0 + i) / 2)] (r2 / 360 % 5) = some (V.int v) ∧ 0 ≤ v ∧ v ≤ i := by
          have c5 : r2 / 360 % 5 = ((0 : Nat) : Int) ∨ r2 / 360 % 5 = ((1 : Nat) : Int) ∨ r2 / 360 % 5 = ((2 : Nat) : Int) ∨ r2 / 360 % 5 = ((3 : Nat) : Int) ∨ r2 / 360 % 5 = ((4 : Nat) : Int) := by omega
          rcases c5 with e | e | e | e | e
          · refine ⟨_, at_of e rfl, Int.emod_nonneg _ (by omega), ?_⟩
            have := Int.emod_lt_of_pos (r / 3) (show (0 : Int) < 0 + i + 1 by omega)
            omega
          · exact ⟨_, at_of e rfl, by omega, by omega⟩
          · exact ⟨_, at_of e rfl, by omega, by omega⟩
          · have hpos : (0 : Int) < if (3 : Int) < 0 + (i : Int) + 1 then (3 : Int) else 0 + (i : Int) + 1 := by split <;> omega
            have hle : (if (3 : Int) < 0 + (i : Int) + 1 then (3 : Int) else 0 + (i : Int) + 1) ≤ i + 1 := by split <;> omega
            refine ⟨_, at_of e rfl, Int.emod_nonneg _ (by omega), ?_⟩
            have := Int.emod_lt_of_pos (r / 3) hpos
            omega
          · exact ⟨_, at_of e rfl, by omega, by omega⟩
        refine ⟨_, rfl, t, _, _, .int v, rfl, rfl, SqT.of upd_same, hv, f, us.map V.int, .int v, rfl, rfl, (by rw [upd_ne (ne_of_none hf3 ht)]; exact hf3), ?_, ?_⟩
        · rw [List.length_map]
          exact small1000 (by omega)
        · refine ⟨_, _, rfl, (s3.upd (s3.free ht)).upd hfH, ?_, us ++ [v], ?_, ?_, fun j u hj => ?_⟩
          · rw [upd_ne hcf, upd_ne (ne_of_none hc3 ht)]
            exact hc3
          · rw [upd_same, List.map_append]
            rfl
          · rw [List.length_append, hul]
            rfl
          · by_cases hji : j < us.length
            · rw [List.getElem?_append_left hji] at hj
              exact hug j u hj
            · rw [List.getElem?_append_right (by omega)] at hj
              have ej : j - us.length = 0 := by
                have := (List.getElem?_eq_some_iff.mp hj).1
                simp at this
                omega
              rw [ej] at hj
              have e2 : v = u := by simpa using hj
              omega
      · rintro σ H3 ⟨x0, y0, rfl, s3, hc3, us, hf3, hul, hug⟩
        refine ⟨_, rfl, ?_⟩
        exact k f us H3 s3 hfH hf3 (by omega) ⟨by omega, hug⟩
    obtain ⟨u, hu, rest⟩ := tail
    refine ⟨_, pss_cons (ps_set (i := 3) sc_law_ups.nd rfl (Or.inl rfl) (pe_ifExp (pt_cmpR (op_neDK K hr.units) (pv 0) (@pe_lst _ _ _ _ pa_nil) (nomark _)) (pe_slice (sl_listK K) (pv 0) po_none (po_some pe_int)) (@pe_lst _ _ _ _ (@pa_cons _ _ _ _ _ pe_int pa_nil (by rfl))))) hu, ?_⟩
    refine ⟨_, rfl, Nat.zero_le _, fun e he => ⟨.list (ns.map PyData.int), .list [], dp_ints ((Same.new he).seq hS), .lst (SqL.of upd_same) .nil, shaped_ints ns, shaped_ints [], _, rfl, ?_⟩⟩
    rw [eqv_nil]
    by_cases hn : ns = []
    · rw [decide_eq_true hn]
      refine iteF ?_
      refine ⟨(by show 1 ≤ sizeLine; decide), fun cl hcl => ?_⟩
      exact rest cl [5] _ ((Same.new he).upd ((Same.new he).free hcl)) ((Same.new he).free hcl) upd_same (by decide) (by decide)
    · rw [decide_eq_false hn]
      refine iteT ?_
      refine ⟨_, rfl, _, rfl, a, ns.map V.int, rfl, (Same.new he).seq hS, fun cl hcl => ?_⟩
      have ecut : cutV (ns.map V.int) none (some 63) = ns.map V.int := by
        unfold cutV
        rw [HT.sIx_none]
        have e1 : HT.sIx (ns.map V.int).length (ns.map V.int).length (some 63) = ns.length := by
          have := HT.sIx_nat (ns.map V.int).length (ns.map V.int).length 63
          have e63 : ((63 : Nat) : Int) = 63 := rfl
          rw [e63] at this
          rw [this, List.length_map]
          omega
        rw [e1, List.drop_zero, Nat.sub_zero, List.take_of_length_le (by simp)]
      rw [ecut]
      exact rest cl ns _ ((Same.new he).upd ((Same.new he).free hcl)) ((Same.new he).free hcl) upd_same (List.length_pos_iff.mpr hn) hlen
end
end Toy

set_option Elab.async false
set_option linter.all false
set_option maxRecDepth 100000
set_option maxHeartbeats 4000000
namespace Toy
open PySem L2
theorem perm_ins {α : Type} (xs : List α) (y : α) (k : Nat) : (xs.take k ++ y :: xs.drop k).Perm (y :: xs) := by
  have h := List.perm_middle (a := y) (l₁ := xs.take k) (l₂ := xs.drop k)
  rw [List.take_append_drop] at h
  exact h
def upTo (i : Nat) : List Int := (List.range i).map fun k : Nat => (k : Int) + 1
theorem upTo_succ (i : Nat) : upTo (i + 1) = upTo i ++ [(i : Int) + 1] := by
  unfold upTo
  rw [List.range_succ, List.map_append]
  rfl
theorem names_step {nm : List Int} {i k : Nat} (h : nm.Perm (upTo i)) : (nm.take k ++ ((i : Int) + 1) :: nm.drop k).Perm (upTo (i + 1)) := by
  rw [upTo_succ]
  exact (perm_ins nm _ k).trans ((List.Perm.cons _ h).trans (List.perm_append_singleton _ _).symm)
theorem upTo_nodup (i : Nat) : (upTo i).Nodup := by
  unfold upTo
  exact List.Pairwise.map _ (fun a b hab z => hab (by omega)) List.nodup_range
theorem mem_upTo {i : Nat} {x : Int} : x ∈ upTo i ↔ 0 < x ∧ x ≤ i := by
  unfold upTo
  constructor
  · intro h
    obtain ⟨k, hk, rfl⟩ := List.mem_map.mp h
    have := List.mem_range.mp hk
    omega
  · rintro ⟨h1, h2⟩
    exact List.mem_map.mpr ⟨(x - 1).toNat, List.mem_range.mpr (by omega), by omega⟩
theorem nd_at {α : Type} {xs : List α} (h : xs.Nodup) {p q : Nat} {x : α} (hp : xs[p]? = some x) (hq : xs[q]? = some x) : p = q := by
  obtain ⟨lp, ep⟩ := List.getElem?_eq_some_iff.mp hp
  obtain ⟨lq, eq⟩ := List.getElem?_eq_some_iff.mp hq
  rcases Nat.lt_trichotomy p q with h1 | h1 | h1
  · exact absurd (by rw [ep, eq]) (List.pairwise_iff_getElem.mp h p q lp lq h1)
  · exact h1
  · exact absurd (by rw [ep, eq]) (List.pairwise_iff_getElem.mp h q p lq lp h1)
structure FSpec (us kn : List Int) (fs : List (List Int)) (i : Nat) : Prop where
  len : fs.length = us.length + 1
  nd : ∀ (q : Nat) (row : List Int), fs[q]? = some row → row.Nodup
  mem : ∀ (q : Nat) (row : List Int), fs[q]? = some row → ∀ x, x ∈ row ↔ ∃ (j : Nat) (u : Int), j < i ∧ us[j]? = some u ∧ kn[u.toNat]? = some (q : Int) ∧ kn[j + 1]? = some x
theorem FSpec.start {us kn : List Int} : FSpec us kn (List.replicate (us.length + 1) []) 0 :=
  ⟨by simp, fun q row h => by rw [List.eq_of_mem_replicate (List.mem_of_getElem? h)]; exact List.nodup_nil, fun q row h x => by
    rw [List.eq_of_mem_replicate (List.mem_of_getElem? h)]
    constructor
    · intro h
      cases h
    · rintro ⟨j, u, h, _⟩
      omega⟩
theorem FSpec.step {us kn : List Int} {fs : List (List Int)} {i : Nat} (hk : kn.Nodup) (h : FSpec us kn fs i) {u x : Int} {q k : Nat} {row : List Int} (hu : us[i]? = some u) (hq : kn[u.toNat]? = some (q : Int)) (hx : kn[i + 1]? = some x) (hr : fs[q]? = some row) :
    FSpec us kn (fs.set q (row.take k ++ x :: row.drop k)) (i + 1) := by
  have pr := perm_ins row x k
  have hql := (List.getElem?_eq_some_iff.mp hr).1
  refine ⟨by rw [List.length_set]; exact h.len, fun q' row' hr' => ?_, fun q' row' hr' y => ?_⟩
  · by_cases e : q = q'
    · subst e
      rw [List.getElem?_set_self hql] at hr'
      cases hr'
      refine pr.nodup_iff.mpr (List.nodup_cons.mpr ⟨fun hm => ?_, h.nd q row hr⟩)
      obtain ⟨j, u', hj, _, _, h4⟩ := (h.mem q row hr x).mp hm
      have := nd_at hk h4 hx
      omega
    · rw [List.getElem?_set_ne e] at hr'
      exact h.nd q' row' hr'
  · by_cases e : q = q'
    · subst e
      rw [List.getElem?_set_self hql] at hr'
      cases hr'
      rw [pr.mem_iff, List.mem_cons, h.mem q row hr y]
      constructor
      · rintro (rfl | ⟨j, u', hj, h2, h3, h4⟩)
        · exact ⟨i, u, Nat.lt_succ_self i, hu, hq, hx⟩
        · exact ⟨j, u', by omega, h2, h3, h4⟩
      · rintro ⟨j, u', hj, h2, h3, h4⟩
        by_cases ej : j = i
        · subst ej
          rw [hx] at h4
          cases h4
          exact .inl rfl
        · exact .inr ⟨j, u', by omega, h2, h3, h4⟩
    · rw [List.getElem?_set_ne e] at hr'
      rw [h.mem q' row' hr' y]
      constructor
      · rintro ⟨j, u', hj, h2, h3, h4⟩
        exact ⟨j, u', by omega, h2, h3, h4⟩
      · rintro ⟨j, u', hj, h2, h3, h4⟩
        by_cases ej : j = i
        · subst ej
          rw [hu] at h2
          cases h2
          rw [hq] at h3
          cases h3
          exact absurd rfl e
        · exact ⟨j, u', by omega, h2, h3, h4⟩
theorem FSpec.good {us nm : List Int} {fs : List (List Int)} (hg : GoodUps us) (hn : nm.Perm (upTo us.length)) (h : FSpec us (0 :: nm) fs us.length) : GoodO fs := by
  have hl := h.len
  have h39 := hg.1
  have hnl : nm.length = us.length := by rw [hn.length_eq]; simp [upTo]
  have hkn : (0 :: nm).Nodup := List.nodup_cons.mpr ⟨fun hm => by have := mem_upTo.mp (hn.mem_iff.mp hm); omega, hn.nodup_iff.mpr (upTo_nodup _)⟩
  have hin : ∀ (j : Nat) (x : Int), (0 :: nm)[j + 1]? = some x → 0 < x ∧ x < us.length + 1 := fun j x hx => by
    have hx : nm[j]? = some x := hx
    have := mem_upTo.mp (hn.mem_iff.mp (List.mem_of_getElem? hx))
    omega
  refine ⟨by omega, by omega, fun x hx => ?_, ?_, fun S hS0 hS x h0 h1 => ?_⟩
  · obtain ⟨row, hr, hxr⟩ := List.mem_flatten.mp hx
    obtain ⟨q, hq⟩ := List.getElem?_of_mem hr
    obtain ⟨j, u, hj, h2, h3, h4⟩ := (h.mem q row hq x).mp hxr
    have := hin j x h4
    rw [hl]
    exact ⟨this.1, by omega⟩
  · refine List.pairwise_flatten.mpr ⟨fun row hr => ?_, List.pairwise_iff_getElem.mpr fun p q hp hq hpq x hx y hy z => ?_⟩
    · obtain ⟨q, hq⟩ := List.getElem?_of_mem hr
      exact h.nd q row hq
    · subst z
      obtain ⟨j, u, hj, h2, h3, h4⟩ := (h.mem p _ (List.getElem?_eq_getElem hp) x).mp hx
      obtain ⟨j', u', hj', h2', h3', h4'⟩ := (h.mem q _ (List.getElem?_eq_getElem hq) x).mp hy
      have e := nd_at hkn h4 h4'
      have ej : j = j' := by omega
      subst ej
      rw [h2] at h2'
      cases h2'
      rw [h3] at h3'
      injection h3' with h3'
      omega
  · have key : ∀ (p : Nat) (y : Int), (0 :: nm)[p]? = some y → S y := by
      intro p
      induction p using Nat.strongRecOn with
      | ind p ih =>
        intro y hy
        cases p with
        | zero =>
          have e : (0 : Int) = y := by simpa using hy
          rw [← e]
          exact hS0
        | succ j =>
          have hjl : j < us.length := by
            have := (List.getElem?_eq_some_iff.mp hy).1
            rw [List.length_cons] at this
            omega
          obtain ⟨u, hu⟩ : ∃ u, us[j]? = some u := ⟨_, List.getElem?_eq_getElem hjl⟩
          obtain ⟨u0, u1⟩ := hg.2 j u hu
          obtain ⟨q, hq⟩ : ∃ q, (0 :: nm)[u.toNat]? = some q := ⟨_, List.getElem?_eq_getElem (by rw [List.length_cons]; omega)⟩
          have Sq := ih u.toNat (by omega) q hq
          have q01 : 0 ≤ q ∧ q < us.length + 1 := by
            cases e : u.toNat with
            | zero =>
              rw [e] at hq
              have : (0 : Int) = q := by simpa using hq
              omega
            | succ m =>
              rw [e] at hq
              have := hin m q hq
              omega
          obtain ⟨row, hrow⟩ : ∃ row, fs[q.toNat]? = some row := ⟨_, List.getElem?_eq_getElem (by omega)⟩
          have eq : ((q.toNat : Nat) : Int) = q := by omega
          exact hS q.toNat row hrow (by rw [eq]; exact Sq) y ((h.mem q.toNat row hrow y).mpr ⟨j, u, hjl, hu, by rw [eq]; exact hq, hy⟩)
    have hm : x ∈ 0 :: nm := by
      by_cases e : x = 0
      · rw [e]
        exact List.mem_cons_self
      · exact List.mem_cons_of_mem _ (hn.mem_iff.mpr (mem_upTo.mpr ⟨by omega, by omega⟩))
    obtain ⟨p, hp⟩ := List.getElem?_of_mem hm
    exact key p x hp
def LL (H : Hp) (rs : List Addr) (oss : List (List Int)) : Prop := rs.length = oss.length ∧ ∀ (p : Nat) (r : Addr) (os : List Int), rs[p]? = some r → oss[p]? = some os → H r = some (.lst (os.map V.int))
theorem LL.mono {H H' : Hp} {rs : List Addr} {oss : List (List Int)} (h : LL H rs oss) (s : Same H H') : LL H' rs oss := ⟨h.1, fun p r os a b => s _ _ (h.2 p r os a b)⟩
theorem LL.set {H : Hp} {rs : List Addr} {oss : List (List Int)} {p : Nat} {r : Addr} {t : List Int} (h : LL H rs oss) (hp : rs[p]? = some r) (nd : rs.Nodup) : LL (upd H r (.lst (t.map V.int))) rs (oss.set p t) := by
  refine ⟨by rw [List.length_set]; exact h.1, fun q r' os hq ho => ?_⟩
  by_cases hqp : q = p
  · subst hqp
    rw [hp] at hq
    cases hq
    rw [List.getElem?_set_self (by rw [← h.1]; exact (List.getElem?_eq_some_iff.mp hp).1)] at ho
    cases ho
    exact upd_same
  · rw [List.getElem?_set_ne (Ne.symm hqp)] at ho
    rw [upd_ne (fun z => hqp (nd_at nd hq (by rw [z]; exact hp)))]
    exact h.2 q r' os hq ho
theorem LL.upd {H : Hp} {rs : List Addr} {oss : List (List Int)} {a : Addr} {o : HO} (h : LL H rs oss) (n : a ∉ rs) : LL (L2.upd H a o) rs oss :=
  ⟨h.1, fun p r os hp ho => by rw [upd_ne (fun z => n (by rw [← z]; exact List.mem_of_getElem? hp))]; exact h.2 p r os hp ho⟩
theorem LL.notin {H : Hp} {rs : List Addr} {os : List (List Int)} {a : Addr} (h : LL H rs os) (ha : H a = none) : a ∉ rs := fun h1 => by
  obtain ⟨p, hp⟩ := List.getElem?_of_mem h1
  obtain ⟨o, ho⟩ : ∃ o, os[p]? = some o := ⟨_, List.getElem?_eq_getElem (by rw [← h.1]; exact (List.getElem?_eq_some_iff.mp hp).1)⟩
  rw [h.2 p a o hp ho] at ha
  cases ha
theorem LL.nil {H : Hp} : LL H [] [] := ⟨rfl, fun p r o hp _ => by simp at hp⟩
theorem LL.snoc {H : Hp} {rs : List Addr} {os : List (List Int)} {r : Addr} {o : List Int} (h : LL H rs os) (hr : H r = some (.lst (o.map V.int))) : LL H (rs ++ [r]) (os ++ [o]) := by
  refine ⟨by rw [List.length_append, List.length_append, h.1]; rfl, fun p r' o' hp ho => ?_⟩
  by_cases hpi : p < rs.length
  · rw [List.getElem?_append_left hpi] at hp
    rw [List.getElem?_append_left (by rw [← h.1]; exact hpi)] at ho
    exact h.2 p r' o' hp ho
  · rw [List.getElem?_append_right (by omega)] at hp
    rw [List.getElem?_append_right (by rw [← h.1]; omega), ← h.1] at ho
    have e0 : p - rs.length = 0 := by
      have := (List.getElem?_eq_some_iff.mp hp).1
      simp at this
      omega
    rw [e0] at hp ho
    have e1 : r = r' := by simpa using hp
    have e2 : o = o' := by simpa using ho
    subst e1 e2
    exact hr
theorem ref_get {rs : List Addr} {i : Nat} {x : V} (h : (rs.map V.ref)[i]? = some x) : ∃ r, rs[i]? = some r ∧ x = .ref r := by
  rw [List.getElem?_map] at h
  obtain ⟨r, e, q⟩ := Option.map_eq_some_iff.mp h
  exact ⟨r, e, q.symm⟩
theorem LL.ol {H : Hp} {rs : List Addr} {os : List (List Int)} (h : LL H rs os) : OL H (rs.map V.ref) os := by
  refine ⟨by rw [List.length_map, List.length_map, h.1], fun p v row hp hr => ?_⟩
  obtain ⟨r, hr1, rfl⟩ := ref_get hp
  rw [List.getElem?_map] at hr
  obtain ⟨l, hl, rfl⟩ := Option.map_eq_some_iff.mp hr
  exact ⟨r, rfl, h.2 p r l hr1 hl⟩
end Toy

set_option Elab.async false
set_option linter.all false
set_option maxRecDepth 100000
set_option maxHeartbeats 4000000
namespace Toy
open PySem L2
theorem cut63 {ns : List Int} (hlen : ns.length ≤ 63) : cutV (ns.map V.int) none (some 63) = ns.map V.int := by
  unfold cutV
  rw [HT.sIx_none]
  have e1 : HT.sIx (ns.map V.int).length (ns.map V.int).length (some 63) = ns.length := by
    have := HT.sIx_nat (ns.map V.int).length (ns.map V.int).length 63
    have e63 : ((63 : Nat) : Int) = 63 := rfl
    rw [e63] at this
    rw [this, List.length_map]
    omega
  rw [e1, List.drop_zero, Nat.sub_zero, List.take_of_length_le (by simp)]
section
variable {P : Program} {w : World} {K : PySem.W.Frag} {mg : Str → Option Value} {base : Heap} {A : Adr}
def spLord (K : PySem.W.Frag) : Sp := fun vs H Q _ => ∃ (a : Addr) (ns : List Int) (by' most : Int), vs = [.ref a, .int by', .int most] ∧ SqL K H a (ns.map V.int) ∧ ns.length ≤ 63 ∧ 0 ≤ by' ∧ by' ≤ 10 ∧ 1 ≤ most ∧ most ≤ 40 ∧
  ∀ (b : Addr) (rs : List Addr) (os : List (List Int)) (H' : Hp), Same H H' → H b = none → H' b = some (.lst (rs.map V.ref)) → LL H' rs os → rs.Nodup → b ∉ rs → (∀ r ∈ rs, H r = none) → GoodO os → (os.length : Int) ≤ most → Q (.ref b) H'
theorem sc_law_orders : FnScope ["_law_script", "_law_by", "_law_most", "_law_cells", "_law_whole", "_law_at", "_law_ups_here", "_law_names", "_law_number_here", "_law_found", "_law_known", "_law_up", "_law_row", "_law_person"] ["_law_script", "_law_by", "_law_most"] (defScope s_law_orders) := ⟨rfl, rfl, rfl, by decide +kernel, rfl, by decide +kernel, by decide +kernel⟩
theorem ok_law_orders (T : Txt K mg A) : FnOk P w K mg base CX0 3 A.f_law_orders A.d_law_orders ["_law_script", "_law_by", "_law_most"] (spLord K) := by
  have G_law_number := ok_law_number (P := P) (w := w) (base := base) T
  have G_law_ups := ok_law_ups (P := P) (w := w) (base := base) T
  refine T.f_law_orders.ok sc_law_orders (fun vs H Q E h => ?_) (fun cdv A' outer s H vs Q E hr h => ?_)
  · obtain ⟨a, ns, b, m, rfl, _⟩ := h
    rfl
  · obtain ⟨a, ns, by', most, rfl, hS, hlen, hb0, hb1, hm0, hm1, k⟩ := h
    have tail : ∃ u, PSs (cxOf CX0 P w K mg base ["_law_script", "_law_by", "_law_most", "_law_cells", "_law_whole", "_law_at", "_law_ups_here", "_law_names", "_law_number_here", "_law_found", "_law_known", "_law_up", "_law_row", "_law_person"] "_law_orders" (defScope s_law_orders) A.f_law_orders cdv A' outer s H E).nox ((defBody s_law_orders).drop 2) u ∧ ∀ (cl ub na : Addr) (cs us : List Int) (H1 : Hp), Same H H1 → H cl = none → H1 cl = some (.lst (cs.map V.int)) → 0 < cs.length → cs.length ≤ 63 →
        H1 ub = some (.lst (us.map V.int)) → GoodUps us → (us.length : Int) < most → H1 na = some (.lst []) → H na = none → na ≠ ub → na ≠ cl →
        u { nx := fun _ H' => Q .non H', rt := Q } [some (.ref a), some (.int by'), some (.int most), some (.ref cl), none, none, some (.ref ub), some (.ref na), none, none, none, none, none, none] H1 := by
      refine ⟨_, (pss_cons (ps_set (i := 4) sc_law_orders.nd rfl (Or.inl rfl) (pe_op op_add (pe_callB (cr_sumK K rfl) (by rfl) T.n_sum (by decide +kernel) (@pa_cons _ _ _ _ _ (pv 3) pa_nil (by rfl))) (pv 1)))
      (pss_cons (ps_for PassesOwn.never rfl (pi_range1 (by rfl) T.n_range (@pa_cons _ _ _ _ _ (pe_callB (call_len_seqK K) (by rfl) T.n_len PySem.boot_len (@pa_cons _ _ _ _ _ (pv 6) pa_nil (by rfl))) pa_nil (by rfl))) (pg_name (i := 5) sc_law_orders.nd rfl (Or.inl rfl)) (pss_cons (ps_set (i := 8) sc_law_orders.nd rfl (Or.inl rfl) (pe_op op_fdiv (pe_call G_law_number (hr.mono (by decide)) (by rfl) T.m_law_number T.k_law_number T.b_law_number .nil pass0 (@pa_cons _ _ _ _ _ (pe_op op_add (pe_ix (ix_listK K) (pv 3) (pe_op op_mod (pe_op op_add (pv 5) (pv 1)) (pe_callB (call_len_seqK K) (by rfl) T.n_len PySem.boot_len (@pa_cons _ _ _ _ _ (pv 3) pa_nil (by rfl)))) (fun _ _ => rfl)) (pe_op op_mulB pe_int (pv 5))) (@pa_cons _ _ _ _ _ (pe_op op_add (pv 5) (pv 1)) (@pa_cons _ _ _ _ _ (pv 4) pa_nil (by rfl)) (by rfl)) (by rfl))) pe_int))
      (pss_one (ps_expr (pe_bmK K PySem.F.plainAttrs_list PySem.F.slot_list_insert PySem.F.type_list_insert mt_insert (pv 7) (@pa_cons _ _ _ _ _ (pe_op op_mod (pv 8) (pe_op op_add (pv 5) pe_int)) (@pa_cons _ _ _ _ _ (pe_op op_add (pv 5) pe_int) pa_nil (by rfl)) (by rfl)))))))
      (pss_cons (ps_par (i := 9) (j := 10) (by rfl) sc_law_orders.nd rfl rfl (by decide) rfl rfl (@pa_cons _ _ _ _ _ (pe_lc (own := [("_law_person", 13)]) rfl sc_law_orders.nd (pi_range1 (by rfl) T.n_range (@pa_cons _ _ _ _ _ (pe_op op_add (pe_callB (call_len_seqK K) (by rfl) T.n_len PySem.boot_len (@pa_cons _ _ _ _ _ (pv 6) pa_nil (by rfl))) pe_int) pa_nil (by rfl))) (blkOk_by (own := [("_law_person", 13)]) (by kernel_rfl)) (fun _ _ _ _ _ => (pg_name (i := 13) sc_law_orders.nd rfl (Or.inl rfl))) (fun _ _ _ _ _ => pts_nil) (fun _ _ _ _ _ => (@pe_lst _ _ _ _ pa_nil))) (@pa_cons _ _ _ _ _ (pe_op op_cat (@pe_lst _ _ _ _ (@pa_cons _ _ _ _ _ pe_int pa_nil (by rfl))) (pv 7)) pa_nil (by rfl)) (by rfl)) (by rfl))
      (pss_cons (ps_for PassesOwn.never rfl (pi_enumK K (by rfl) T.n_enumerate (@pa_cons _ _ _ _ _ (pv 6) pa_nil (by rfl))) (pg_tupK K (n := 2) (by rfl) (pgs_cons (pg_name (i := 5) sc_law_orders.nd rfl (Or.inl rfl)) (pgs_cons (pg_name (i := 11) sc_law_orders.nd rfl (Or.inl rfl)) pgs_nil))) (pss_cons (ps_set (i := 12) sc_law_orders.nd rfl (Or.inl rfl) (pe_ix (ix_listK K) (pv 9) (pe_ix (ix_listK K) (pv 10) (pv 11) (fun _ _ => rfl)) (fun _ _ => rfl)))
      (pss_one (ps_expr (pe_bmK K PySem.F.plainAttrs_list PySem.F.slot_list_insert PySem.F.type_list_insert mt_insert (pv 12) (@pa_cons _ _ _ _ _ (pe_op op_mod (pe_op op_fdiv (pe_call G_law_number (hr.mono (by decide)) (by rfl) T.m_law_number T.k_law_number T.b_law_number .nil pass0 (@pa_cons _ _ _ _ _ (pv 4) (@pa_cons _ _ _ _ _ (pv 5) (@pa_cons _ _ _ _ _ pe_int pa_nil (by rfl)) (by rfl)) (by rfl))) pe_int) (pe_op op_add (pe_callB (call_len_seqK K) (by rfl) T.n_len PySem.boot_len (@pa_cons _ _ _ _ _ (pv 12) pa_nil (by rfl))) pe_int)) (@pa_cons _ _ _ _ _ (pe_ix (ix_listK K) (pv 10) (pe_op op_add (pv 5) pe_int) (fun _ _ => rfl)) pa_nil (by rfl)) (by rfl)))))))
      (pss_one (ps_ret (pv 9))))))), ?_⟩
      intro cl ub na cs us H1 s1 hcn hc1 hc0 hc63 hub hgu hum hna hnaH nab nac
      have hu39 := hgu.1
      refine ⟨_, rfl, cl, cs, rfl, SqL.of hc1, _, rfl, _, _, rfl, rfl, ?_⟩
      refine ⟨_, rfl, ub, _, rfl, .inl (SqL.of hub), _, rfl, by rw [List.length_map]; omega, by rw [List.length_map]; omega, ?_⟩
      rw [List.length_map]
      refine for_range (lo := 0) (n := ((us.length : Nat) : Int).toNat) (fun i σ H3 => ∃ (x y : Option V) (nm : List Int), σ = [some (.ref a), some (.int by'), some (.int most), some (.ref cl), some (.int (cs.sum + by')), x, some (.ref ub), some (.ref na), y, none, none, none, none, none] ∧ Same H H3 ∧ H3 cl = some (.lst (cs.map V.int)) ∧ H3 ub = some (.lst (us.map V.int)) ∧ H3 na = some (.lst (nm.map V.int)) ∧ nm.Perm (upTo i))
        ⟨none, none, [], rfl, s1, hc1, hub, hna, .refl _⟩ ?_ ?_
      · rintro i σ H3 hi ⟨x0, y0, nm, rfl, s3, hc3, hub3, hna3, hpm⟩
        have hnl : nm.length = i := by rw [hpm.length_eq]; simp [upTo]
        have hcl0 : 0 < (((cs.map V.int).length : Nat) : Int) := by
          rw [List.length_map]
          omega
        have hidx : 0 ≤ ((0 : Int) + i + by') % (((cs.map V.int).length : Nat) : Int) ∧ ((0 : Int) + i + by') % (((cs.map V.int).length : Nat) : Int) < (((cs.map V.int).length : Nat) : Int) := ⟨Int.emod_nonneg _ (by omega), Int.emod_lt_of_pos _ hcl0⟩
        obtain ⟨z, hz⟩ : ∃ z, cs[(((0 : Int) + i + by') % (((cs.map V.int).length : Nat) : Int)).toNat]? = some z := ⟨_, List.getElem?_eq_getElem (by have := hidx.2; rw [List.length_map] at this; rw [List.length_map]; omega)⟩
        refine ⟨_, rfl, _, rfl, _, rfl, _, _, rfl, rfl, _, rfl, cl, _, rfl, .inl (SqL.of hc3), _, _, rfl, rfl, hcl0, cl, cs.map V.int, _, .int z, rfl, rfl, SqL.of hc3, at_of (j := (((0 : Int) + i + by') % (((cs.map V.int).length : Nat) : Int)).toNat) (by omega) (by rw [List.getElem?_map, hz]; rfl), ?_⟩
        refine ⟨_, rfl, _, _, rfl, rfl, mulB (m := 20) (n := 20) (bits_of (by decide)) (bits_of (by omega)) (by decide) (by decide), _, _, rfl, rfl, _, rfl, _, rfl, _, _, rfl, rfl, _, rfl, _, _, _, rfl, by omega, by omega, fun r => ?_⟩
        refine ⟨_, _, rfl, rfl, ⟨by decide, by decide⟩, ?_⟩
        have hpos : 0 ≤ r / 3 % (0 + (i : Int) + 1) ∧ r / 3 % (0 + (i : Int) + 1) < 0 + (i : Int) + 1 := ⟨Int.emod_nonneg _ (by omega), Int.emod_lt_of_pos _ (by omega)⟩
        refine ⟨_, rfl, .inl ⟨rfl, _, SqL.of hna3⟩, ?_⟩
        refine ⟨_, rfl, _, rfl, _, _, rfl, rfl, _, _, rfl, rfl, (by show (0 : Int) < 0 + i + 1; omega), _, rfl, _, _, rfl, rfl, na, nm.map V.int, _, _, rfl, rfl, hna3, hpos.1, (by rw [List.length_map]; omega), (by rw [List.length_map]; exact small1000 (by omega)), ?_⟩
        refine ⟨_, _, nm.take (r / 3 % (0 + (i : Int) + 1)).toNat ++ ((i : Int) + 1) :: nm.drop (r / 3 % (0 + (i : Int) + 1)).toNat, rfl, s3.upd hnaH, ?_, ?_, ?_, names_step hpm⟩
        · rw [upd_ne (Ne.symm nac)]
          exact hc3
        · rw [upd_ne (Ne.symm nab)]
          exact hub3
        · rw [upd_same, List.map_append, List.map_cons, List.map_take, List.map_drop]
          have e1 : (0 : Int) + i + 1 = i + 1 := by omega
          simp only [e1]
      · rintro σ H3 ⟨x0, y0, nm, rfl, s3, hc3, hub3, hna3, hpm⟩
        rw [show ((us.length : Nat) : Int).toNat = us.length by omega] at hpm
        have hnl : nm.length = us.length := by rw [hpm.length_eq]; simp [upTo]
        refine ⟨_, rfl, ub, _, rfl, .inl (SqL.of hub3), _, _, rfl, rfl, _, rfl, by rw [List.length_map]; omega, by rw [List.length_map]; omega, fun D hD => ?_⟩
        rw [List.length_map, show (((us.length : Nat) : Int) + 1).toNat = us.length + 1 by omega]
        refine lc_range (lo := 0) (n := us.length + 1) (fun q H4 => Same H3 H4 ∧ ∃ rs : List Addr, rs.length = q ∧ H4 D = some (.lst (rs.map V.ref)) ∧ LL H4 rs (List.replicate q []) ∧ rs.Nodup ∧ D ∉ rs ∧ ∀ m ∈ rs, H3 m = none)
          ⟨Same.new hD, [], rfl, upd_same, LL.nil, List.nodup_nil, by simp, by simp⟩ ?_ ?_
        · rintro q H4 hq ⟨s4, rs, hrl, hD4, hL4, hnd, hDn, hrn⟩
          refine ⟨rfl, yesT ⟨Nat.zero_le _, fun r hr0 => ?_⟩⟩
          have nD : D ≠ r := ne_of_none hD4 hr0
          have m5 : Same H4 (upd H4 r (.lst [])) := Same.new hr0
          have nr : r ∉ rs := hL4.notin hr0
          have nDr : D ∉ rs ++ [r] := fun h1 => by
            rcases List.mem_append.mp h1 with h1 | h1
            · exact hDn h1
            · exact nD (List.mem_singleton.mp h1)
          refine ⟨rs.map V.ref, m5 _ _ hD4, ?_, (s4.trans m5).upd hD, rs ++ [r], ?_, ?_, ?_, ?_, nDr, ?_⟩
          · rw [List.length_map]
            exact small1000 (by omega)
          · rw [List.length_append, hrl]
            rfl
          · rw [upd_same, List.map_append]
            rfl
          · rw [List.replicate_succ']
            exact ((hL4.mono m5).snoc upd_same).upd nDr
          · exact List.nodup_append.mpr ⟨hnd, by simp, fun x hx y hy z => nr (by rw [← List.mem_singleton.mp hy, ← z]; exact hx)⟩
          · intro m hm
            rcases List.mem_append.mp hm with h1 | h1
            · exact hrn m h1
            · rw [List.mem_singleton.mp h1]
              exact s4.free hr0
        · rintro H4 ⟨s4, rs, hrl, hD4, hL4, hnd, hDn, hrn⟩
          have sH4 : Same H H4 := s3.trans s4
          refine ⟨(by show 1 ≤ sizeLine; decide), fun p1 hp1 => ⟨_, rfl, p1, na, [.int 0], nm.map V.int, rfl, rfl, upd_same, ?_, ?_, fun kb hkb => ?_⟩⟩
          · rw [upd_ne (ne_of_none (s4 _ _ hna3) hp1)]
            exact s4 _ _ hna3
          · rw [List.length_map]
            exact Nat.le_of_lt (small1000 (by show 1 + nm.length ≤ 1000; omega))
          · have m5 : Same H4 (upd H4 p1 (.lst [.int 0])) := Same.new hp1
            have hkb4 : H4 kb = none := m5.free hkb
            have m6 : Same H4 (upd (upd H4 p1 (.lst [.int 0])) kb (.lst ([.int 0] ++ nm.map V.int))) := m5.upd hkb4
            have hkb6 : (upd (upd H4 p1 (.lst [.int 0])) kb (.lst ([.int 0] ++ nm.map V.int))) kb = some (.lst ((0 :: nm).map V.int)) := by
              rw [upd_same]
              rfl
            generalize upd (upd H4 p1 (.lst [.int 0])) kb (.lst ([.int 0] ++ nm.map V.int)) = H6 at m6 hkb6
            have hub6 := m6 _ _ (s4 _ _ hub3)
            have hD6 := m6 _ _ hD4
            have hL6 := hL4.mono m6
            have sH6 := sH4.trans m6
            have hDH : H D = none := s3.free hD
            have hrnH : ∀ m ∈ rs, H m = none := fun m hm => s3.free (hrn m hm)
            have hkn : (0 :: nm).Nodup := List.nodup_cons.mpr ⟨fun hm => by have := mem_upTo.mp (hpm.mem_iff.mp hm); omega, hpm.nodup_iff.mpr (upTo_nodup _)⟩
            have hknin : ∀ (j : Nat) (x : Int), (0 :: nm)[j]? = some x → 0 ≤ x ∧ x < us.length + 1 := fun j x hx => by
              rcases List.mem_cons.mp (List.mem_of_getElem? hx) with e | e
              · omega
              · have := mem_upTo.mp (hpm.mem_iff.mp e)
                omega
            have nkr : kb ∉ rs := fun h1 => by
              obtain ⟨p, hp⟩ := List.getElem?_of_mem h1
              have hpl := (List.getElem?_eq_some_iff.mp hp).1
              have q := hL4.2 p kb [] hp (by rw [List.getElem?_replicate, if_pos (by omega)])
              rw [hkb4] at q
              cases q
            have nur : ub ∉ rs := fun h1 => by
              have := hrn ub h1
              rw [hub3] at this
              cases this
            refine ⟨_, _, rfl, ?_⟩
            refine ⟨_, rfl, ub, us.map V.int, rfl, SqL.of hub6, for_enum0 (K := K) (a := ub) (xs := us.map V.int)
              (fun i σ H7 => ∃ (x5 x11 x12 : Option V) (fs : List (List Int)), σ = [some (.ref a), some (.int by'), some (.int most), some (.ref cl), some (.int (cs.sum + by')), x5, some (.ref ub), some (.ref na), y0, some (.ref D), some (.ref kb), x11, x12, none] ∧ Same H H7 ∧ H7 ub = some (.lst (us.map V.int)) ∧ H7 kb = some (.lst ((0 :: nm).map V.int)) ∧ H7 D = some (.lst (rs.map V.ref)) ∧ LL H7 rs fs ∧ FSpec us (0 :: nm) fs i)
              ⟨_, _, _, _, rfl, sH6, hub6, hkb6, hD6, hL6, FSpec.start⟩ (fun i σ H7 _ ⟨_, _, _, _, _, _, q, _⟩ => SqL.of q) ?_ ?_⟩
            · rintro i x t σ H7 hi ⟨x5, x11, x12, fs, rfl, s7, hub7, hkb7, hD7, hL7, hF⟩ ht
              obtain ⟨u, hu, rfl⟩ := map_int_get hi
              have hil := (List.getElem?_eq_some_iff.mp hu).1
              obtain ⟨u0, u1⟩ := hgu.2 i u hu
              have m8 : Same H7 (upd H7 t (.tup [.int (i : Nat), .int u])) := Same.new ht
              have hub8 := m8 _ _ hub7
              have hkb8 := m8 _ _ hkb7
              have hD8 := m8 _ _ hD7
              have hL8 := hL7.mono m8
              have s8 := s7.trans m8
              have ht8 : (upd H7 t (.tup [.int (i : Nat), .int u])) t = some (.tup [.int (i : Nat), .int u]) := upd_same
              generalize upd H7 t (.tup [.int (i : Nat), .int u]) = H8 at m8 hub8 hkb8 hD8 hL8 s8 ht8
              obtain ⟨q, hq⟩ : ∃ q, (0 :: nm)[u.toNat]? = some q := ⟨_, List.getElem?_eq_getElem (by rw [List.length_cons]; omega)⟩
              obtain ⟨q0, q1⟩ := hknin _ _ hq
              obtain ⟨x, hx⟩ : ∃ x, (0 :: nm)[i + 1]? = some x := ⟨_, List.getElem?_eq_getElem (by rw [List.length_cons]; omega)⟩
              obtain ⟨r, hr1⟩ : ∃ r, rs[q.toNat]? = some r := ⟨_, List.getElem?_eq_getElem (by omega)⟩
              obtain ⟨row, hrow⟩ : ∃ row, fs[q.toNat]? = some row := ⟨_, List.getElem?_eq_getElem (by have := hF.len; omega)⟩
              have hr8 := hL8.2 _ _ _ hr1 hrow
              have eq : ((q.toNat : Nat) : Int) = q := by omega
              have hrH : H r = none := hrnH r (List.mem_of_getElem? hr1)
              have hrowl : row.length ≤ 40 := by
                have hnd' := hF.nd _ _ hrow
                have := nodup_len (n := us.length + 1) hnd' fun y hy => by
                  obtain ⟨j, u', _, _, _, h4⟩ := (hF.mem _ _ hrow y).mp hy
                  have := hknin _ _ h4
                  omega
                omega
              refine ⟨t, _, rfl, SqT.of ht8, rfl, _, _, rfl, _, _, rfl, rfl, ?_⟩
              refine ⟨_, rfl, _, rfl, _, rfl, kb, _, u, .int q, rfl, rfl, SqL.of hkb8, at_of (j := u.toNat) (by omega) (by rw [List.getElem?_map, hq]; rfl), D, _, q, .ref r, rfl, rfl, SqL.of hD8, at_of (j := q.toNat) (by omega) (by rw [List.getElem?_map, hr1]; rfl), ?_⟩
              refine ⟨_, rfl, .inl ⟨rfl, _, SqL.of hr8⟩, ?_⟩
              refine ⟨_, rfl, _, rfl, _, _, _, rfl, by omega, by omega, fun r9 => ⟨_, _, rfl, rfl, ⟨by decide, by decide⟩, ?_⟩⟩
              have hpos : 0 ≤ r9 / 7 % ((((row.map V.int).length : Nat) : Int) + 1) ∧ r9 / 7 % ((((row.map V.int).length : Nat) : Int) + 1) < (((row.map V.int).length : Nat) : Int) + 1 := ⟨Int.emod_nonneg _ (by omega), Int.emod_lt_of_pos _ (by omega)⟩
              refine ⟨_, rfl, r, _, rfl, .inl (SqL.of hr8), _, _, rfl, rfl, _, _, rfl, rfl, (by show (0 : Int) < (((row.map V.int).length : Nat) : Int) + 1; omega), ?_⟩
              refine ⟨_, rfl, _, rfl, _, _, rfl, rfl, kb, _, _, .int x, rfl, rfl, SqL.of hkb8, at_of (j := i + 1) (by show (i : Int) + 1 = ((i + 1 : Nat) : Int); omega) (by rw [List.getElem?_map, hx]; rfl), ?_⟩
              refine ⟨r, row.map V.int, _, .int x, rfl, rfl, hr8, hpos.1, (by show r9 / 7 % ((((row.map V.int).length : Nat) : Int) + 1) ≤ (((row.map V.int).length : Nat) : Int); omega), (by rw [List.length_map]; exact small1000 (by omega)), ?_⟩
              generalize (r9 / 7 % ((((row.map V.int).length : Nat) : Int) + 1)).toNat = k9
              have e9 : (row.map V.int).take k9 ++ V.int x :: (row.map V.int).drop k9 = (row.take k9 ++ x :: row.drop k9).map V.int := by
                rw [List.map_append, List.map_cons, List.map_take, List.map_drop]
              rw [e9]
              have nrk : kb ≠ r := fun z => nkr (by rw [z]; exact List.mem_of_getElem? hr1)
              have nru : ub ≠ r := fun z => nur (by rw [z]; exact List.mem_of_getElem? hr1)
              have nrD : D ≠ r := fun z => hDn (by rw [z]; exact List.mem_of_getElem? hr1)
              refine ⟨_, _, _, fs.set q.toNat (row.take k9 ++ x :: row.drop k9), rfl, s8.upd hrH, ?_, ?_, ?_, hL8.set hr1 hnd, hF.step hkn hu (by rw [eq]; exact hq) hx hrow⟩
              · rw [upd_ne nru]
                exact hub8
              · rw [upd_ne nrk]
                exact hkb8
              · rw [upd_ne nrD]
                exact hD8
            · rintro σ H7 ⟨x5, x11, x12, fs, rfl, s7, hub7, hkb7, hD7, hL7, hF⟩
              rw [List.length_map] at hF
              refine ⟨_, rfl, k D rs fs H7 s7 hDH hD7 hL7 hnd hDn hrnH (hF.good hgu hpm) ?_⟩
              rw [hF.len]
              omega
    obtain ⟨u, hu, rest⟩ := tail
    refine ⟨_, pss_cons (ps_par (i := 6) (j := 7) (by rfl) sc_law_orders.nd rfl rfl (by decide) rfl rfl (@pa_cons _ _ _ _ _ (pe_call G_law_ups (hr.mono (by decide)) (by rfl) T.m_law_ups T.k_law_ups T.b_law_ups .nil pass0 (@pa_cons _ _ _ _ _ (pv 0) (@pa_cons _ _ _ _ _ (pv 1) (@pa_cons _ _ _ _ _ (pv 2) pa_nil (by rfl)) (by rfl)) (by rfl))) (@pa_cons _ _ _ _ _ (@pe_lst _ _ _ _ pa_nil) pa_nil (by rfl)) (by rfl)) (by rfl)) (pss_cons (ps_set (i := 3) sc_law_orders.nd rfl (Or.inl rfl) (pe_ifExp (pt_cmpR (op_neDK K hr.units) (pv 0) (@pe_lst _ _ _ _ pa_nil) (nomark _)) (pe_slice (sl_listK K) (pv 0) po_none (po_some pe_int)) (@pe_lst _ _ _ _ (@pa_cons _ _ _ _ _ pe_int pa_nil (by rfl))))) hu), ?_⟩
    refine ⟨_, rfl, _, rfl, _, rfl, a, ns, by', most, rfl, hS, hlen, hb0, hb1, hm0, hm1, fun ub us H1 s1 hun hub hum hgu => ⟨Nat.zero_le _, fun na hna => ⟨_, _, rfl, ?_⟩⟩⟩
    have m2 : Same H1 (upd H1 na (.lst [])) := Same.new hna
    have s2 : Same H (upd H1 na (.lst [])) := s1.trans m2
    have hna2 : (upd H1 na (.lst [])) na = some (.lst []) := upd_same
    have hub2 := m2 _ _ hub
    have nab : na ≠ ub := Ne.symm (ne_of_none hub hna)
    have hnaH : H na = none := s1.free hna
    generalize upd H1 na (.lst []) = H2 at m2 s2 hna2 hub2
    refine ⟨_, rfl, Nat.zero_le _, fun e he => ⟨.list (ns.map PyData.int), .list [], dp_ints ((Same.new he).seq (s2.seq hS)), .lst (SqL.of upd_same) .nil, shaped_ints ns, shaped_ints [], _, rfl, ?_⟩⟩
    have m3 : Same H2 (upd H2 e (.lst [])) := Same.new he
    generalize upd H2 e (.lst []) = H3 at m3
    have s3 := s2.trans m3
    rw [eqv_nil]
    by_cases hn : ns = []
    · rw [decide_eq_true hn]
      refine iteF ?_
      refine ⟨(by show 1 ≤ sizeLine; decide), fun cl hcl => ?_⟩
      have m4 : Same H3 (upd H3 cl (.lst [.int 5])) := Same.new hcl
      exact rest cl ub na [5] us _ (s3.trans m4) (s3.free hcl) upd_same (by decide) (by decide) (m4 _ _ (m3 _ _ hub2)) hgu hum (m4 _ _ (m3 _ _ hna2)) hnaH nab (ne_of_none (m3 _ _ hna2) hcl)
    · rw [decide_eq_false hn]
      refine iteT ?_
      refine ⟨_, rfl, _, rfl, a, ns.map V.int, rfl, s3.seq hS, fun cl hcl => ?_⟩
      rw [cut63 hlen]
      have m4 : Same H3 (upd H3 cl (.lst (ns.map V.int))) := Same.new hcl
      exact rest cl ub na ns us _ (s3.trans m4) (s3.free hcl) upd_same (List.length_pos_iff.mpr hn) hlen (m4 _ _ (m3 _ _ hub2)) hgu hum (m4 _ _ (m3 _ _ hna2)) hnaH nab (ne_of_none (m3 _ _ hna2) hcl)
end
end Toy

set_option Elab.async false
set_option linter.all false
set_option maxRecDepth 100000
set_option maxHeartbeats 4000000
namespace Toy
open PySem L2
structure WC (os : List (List Int)) (rows : List (Option (List Int))) (C : Int → Prop) : Prop where
  zero : C 0
  known : ∀ (p : Nat) (l : List Int), rows[p]? = some (some l) → C p
  row : ∀ (p : Nat) (l : List Int), rows[p]? = some (some l) → l.Nodup ∧ ∀ x ∈ l, 0 < x ∧ x < os.length ∧ ¬ C x ∧ ∃ (q : Nat) (r : List Int), os[q]? = some r ∧ x ∈ r ∧ C q
  dis : ∀ (p q : Nat) (l m : List Int), p ≠ q → rows[p]? = some (some l) → rows[q]? = some (some m) → ∀ x ∈ l, x ∉ m
  up : ∀ y, C y → y = 0 ∨ ∃ (q : Nat) (r : List Int), os[q]? = some r ∧ y ∈ r ∧ C q
structure WInv (os : List (List Int)) (rows : List (Option (List Int))) : Prop where
  len : rows.length = os.length
  ex : ∃ C, WC os rows C
theorem WInv.rowsIn {os : List (List Int)} {rows : List (Option (List Int))} (g : GoodO os) (h : WInv os rows) : RowsIn os rows := by
  obtain ⟨C, w⟩ := h.ex
  refine ⟨h.len, fun p l hl => ⟨?_, fun x hx => ?_⟩⟩
  · exact Nat.le_trans (nodup_len (n := os.length) (w.row p l hl).1 fun x hx => by have := (w.row p l hl).2 x hx; omega) g.n40
  · have := (w.row p l hl).2 x hx
    omega
theorem WInv.first {os : List (List Int)} (g : GoodO os) : WInv os (firstM os) := by
  have n1 := g.n1
  have h0 := ch_get (os := os) (x := 0) (by omega) (by omega)
  obtain ⟨c1, c2⟩ := g.row h0
  have only : ∀ (p : Nat) (l : List Int), (firstM os)[p]? = some (some l) → p = 0 ∧ l = ch os 0 := by
    intro p l hl
    cases p with
    | zero =>
      have : some (ch os 0) = some l := by simpa [firstM] using hl
      cases this
      exact ⟨rfl, rfl⟩
    | succ p =>
      have : (List.replicate (os.length - 1) (none : Option (List Int)))[p]? = some (some l) := by simpa [firstM] using hl
      have := List.eq_of_mem_replicate (List.mem_of_getElem? this)
      cases this
  refine ⟨by simp [firstM]; omega, fun y => y = 0, rfl, fun p l hl => ?_, fun p l hl => ?_, fun p q l m hpq hl hm => ?_, fun y hy => .inl hy⟩
  · rw [(only p l hl).1]
    rfl
  · obtain ⟨rfl, rfl⟩ := only p l hl
    refine ⟨c1, fun x hx => ?_⟩
    have := c2 x hx
    exact ⟨this.1, this.2, by omega, 0, ch os 0, h0, hx, rfl⟩
  · exact absurd ((only p l hl).1.trans (only q m hm).1.symm) hpq
theorem set_get {α : Type} {xs : List α} {i p : Nat} {v y : α} (h : (xs.set i v)[p]? = some y) : (p = i ∧ y = v) ∨ (p ≠ i ∧ xs[p]? = some y) := by
  by_cases e : i = p
  · subst e
    have hl := (List.getElem?_eq_some_iff.mp h).1
    rw [List.length_set] at hl
    rw [List.getElem?_set_self hl] at h
    cases h
    exact .inl ⟨rfl, rfl⟩
  · rw [List.getElem?_set_ne e] at h
    exact .inr ⟨Ne.symm e, h⟩
theorem WC.call {os : List (List Int)} {rows : List (Option (List Int))} {C : Int → Prop} (g : GoodO os) (w : WC os rows C) {c : Nat} {x : Int} {rest : List Int} (hc : rows[c]? = some (some (x :: rest))) :
    WC os (rows.set c (some (ch os x ++ rest))) (fun y => C y ∨ y = x) ∧ WC os ((rows.set c (some rest)).set x.toNat (some (ch os x))) (fun y => C y ∨ y = x) ∧ rows[x.toNat]? ≠ some (some rest) ∧ (∀ l, rows[x.toNat]? ≠ some (some l)) := by
  obtain ⟨rn, rx⟩ := w.row c _ hc
  obtain ⟨x0, x1, xC, qx, rq, hq, hxq, hCq⟩ := rx x List.mem_cons_self
  obtain ⟨xr, rn⟩ := List.nodup_cons.mp rn
  have hch := ch_get (os := os) (x := x) (by omega) x1
  obtain ⟨cn, cr⟩ := g.row hch
  have ex : ((x.toNat : Nat) : Int) = x := by omega
  have new : ∀ y ∈ ch os x, ¬ C y ∧ y ≠ x := fun y hy => by
    constructor
    · intro hCy
      rcases w.up y hCy with e | ⟨q, r, h1, h2, h3⟩
      · have := cr y hy
        omega
      · have e := g.one h1 hch h2 hy
        rw [e, ex] at h3
        exact xC h3
    · intro e
      subst e
      have e := g.one hq hch hxq hy
      rw [e, ex] at hCq
      exact xC hCq
  have apart : ∀ (p : Nat) (l : List Int), rows[p]? = some (some l) → ∀ y ∈ l, y ∉ ch os x := fun p l hl y hy hyc => by
    obtain ⟨_, _, _, q, r, h1, h2, h3⟩ := (w.row p l hl).2 y hy
    have e := g.one h1 hch h2 hyc
    rw [e, ex] at h3
    exact xC h3
  have noX : ∀ l, rows[x.toNat]? ≠ some (some l) := fun l hl => by
    have := w.known _ _ hl
    rw [ex] at this
    exact xC this
  have up' : ∀ y, (C y ∨ y = x) → y = 0 ∨ ∃ (q : Nat) (r : List Int), os[q]? = some r ∧ y ∈ r ∧ (C q ∨ (q : Int) = x) := fun y hy => by
    rcases hy with hy | rfl
    · rcases w.up y hy with e | ⟨q, r, h1, h2, h3⟩
      · exact .inl e
      · exact .inr ⟨q, r, h1, h2, .inl h3⟩
    · exact .inr ⟨qx, rq, hq, hxq, .inl hCq⟩
  have old : ∀ (p : Nat) (l : List Int), p ≠ c → rows[p]? = some (some l) → l.Nodup ∧ ∀ y ∈ l, 0 < y ∧ y < os.length ∧ ¬ (C y ∨ y = x) ∧ ∃ (q : Nat) (r : List Int), os[q]? = some r ∧ y ∈ r ∧ (C q ∨ (q : Int) = x) := fun p l hpc hl => by
    obtain ⟨h1, h2⟩ := w.row p l hl
    refine ⟨h1, fun y hy => ?_⟩
    obtain ⟨a, b, c', q, r, d, e, f⟩ := h2 y hy
    refine ⟨a, b, fun z => ?_, q, r, d, e, .inl f⟩
    rcases z with z | rfl
    · exact c' z
    · exact w.dis p c l _ hpc hl hc y hy List.mem_cons_self
  have chOk : ∀ y ∈ ch os x, 0 < y ∧ y < os.length ∧ ¬ (C y ∨ y = x) ∧ ∃ (q : Nat) (r : List Int), os[q]? = some r ∧ y ∈ r ∧ (C q ∨ (q : Int) = x) := fun y hy =>
    ⟨(cr y hy).1, (cr y hy).2, fun z => z.elim (new y hy).1 (new y hy).2, x.toNat, ch os x, hch, hy, .inr ex⟩
  have restOk : ∀ y ∈ rest, 0 < y ∧ y < os.length ∧ ¬ (C y ∨ y = x) ∧ ∃ (q : Nat) (r : List Int), os[q]? = some r ∧ y ∈ r ∧ (C q ∨ (q : Int) = x) := fun y hy => by
    obtain ⟨a, b, c', q, r, d, e, f⟩ := rx y (List.mem_cons_of_mem _ hy)
    refine ⟨a, b, fun z => ?_, q, r, d, e, .inl f⟩
    rcases z with z | rfl
    · exact c' z
    · exact xr hy
  have Cc := w.known _ _ hc
  have ncx : c ≠ x.toNat := fun z => by
    rw [z, ex] at Cc
    exact xC Cc
  have restA : ∀ y ∈ rest, y ∉ ch os x := fun y hy => apart c _ hc y (List.mem_cons_of_mem _ hy)
  refine ⟨⟨.inl w.zero, fun p l hl => ?_, fun p l hl => ?_, fun p q l m hpq hl hm => ?_, up'⟩, ⟨.inl w.zero, fun p l hl => ?_, fun p l hl => ?_, fun p q l m hpq hl hm => ?_, up'⟩, noX _, noX⟩
  · rcases set_get hl with ⟨rfl, _⟩ | ⟨_, hl⟩
    · exact .inl Cc
    · exact .inl (w.known p l hl)
  · rcases set_get hl with ⟨rfl, e⟩ | ⟨n, hl⟩
    · cases e
      refine ⟨List.nodup_append.mpr ⟨cn, rn, fun a ha b hb z => restA b hb (by rw [← z]; exact ha)⟩, fun y hy => ?_⟩
      rcases List.mem_append.mp hy with hy | hy
      · exact chOk y hy
      · exact restOk y hy
    · exact old p l n hl
  · intro y hy hy'
    rcases set_get hl with ⟨rfl, e⟩ | ⟨n, hl⟩
    · cases e
      rcases set_get hm with ⟨rfl, _⟩ | ⟨_, hm⟩
      · exact hpq rfl
      · rcases List.mem_append.mp hy with hy | hy
        · exact apart q m hm y hy' hy
        · exact w.dis _ q _ m hpq hc hm y (List.mem_cons_of_mem _ hy) hy'
    · rcases set_get hm with ⟨e0, e⟩ | ⟨_, hm⟩
      · cases e
        rcases List.mem_append.mp hy' with hy' | hy'
        · exact apart p l hl y hy hy'
        · exact w.dis p c l _ n hl hc y hy (List.mem_cons_of_mem _ hy')
      · exact w.dis p q l m hpq hl hm y hy hy'
  · rcases set_get hl with ⟨rfl, _⟩ | ⟨_, hl⟩
    · exact .inr ex
    · rcases set_get hl with ⟨rfl, _⟩ | ⟨_, hl⟩
      · exact .inl Cc
      · exact .inl (w.known p l hl)
  · rcases set_get hl with ⟨rfl, e⟩ | ⟨_, hl⟩
    · cases e
      exact ⟨cn, chOk⟩
    · rcases set_get hl with ⟨rfl, e⟩ | ⟨n, hl⟩
      · cases e
        exact ⟨rn, restOk⟩
      · exact old p l n hl
  · intro y hy hy'
    rcases set_get hl with ⟨rfl, e⟩ | ⟨_, hl⟩
    · cases e
      rcases set_get hm with ⟨rfl, _⟩ | ⟨_, hm⟩
      · exact hpq rfl
      · rcases set_get hm with ⟨rfl, e⟩ | ⟨_, hm⟩
        · cases e
          exact restA y hy' hy
        · exact apart q m hm y hy' hy
    · rcases set_get hl with ⟨rfl, e⟩ | ⟨_, hl⟩
      · cases e
        rcases set_get hm with ⟨rfl, e⟩ | ⟨_, hm⟩
        · cases e
          exact restA y hy hy'
        · rcases set_get hm with ⟨rfl, _⟩ | ⟨_, hm⟩
          · exact hpq rfl
          · exact w.dis _ q _ m hpq hc hm y (List.mem_cons_of_mem _ hy) hy'
      · rcases set_get hm with ⟨rfl, e⟩ | ⟨_, hm⟩
        · cases e
          exact apart p l hl y hy hy'
        · rcases set_get hm with ⟨e0, e⟩ | ⟨_, hm⟩
          · cases e
            exact w.dis p c l _ (by omega) hl hc y hy (List.mem_cons_of_mem _ hy')
          · exact w.dis p q l m hpq hl hm y hy hy'
abbrev Rws := List (Option (List Int))
structure LSt where
  turn : List (Int × Int × Bool)
  cur : Rws
  more : List (Int × List Int)
def stepL (os : List (List Int)) (as : List Int) (st : LSt) (c : Int) : LSt :=
  if c ∈ as then st else match st.cur.getD c.toNat none with
  | some (x :: rest) => if x ∈ as then ⟨st.turn ++ [(c, x, false)], st.cur.set c.toNat (some (ch os x ++ rest)), st.more⟩ else ⟨st.turn ++ [(c, x, true)], st.cur.set c.toNat (some rest), st.more ++ [(x, ch os x)]⟩
  | _ => st
def appM (cur : Rws) (more : List (Int × List Int)) : Rws := more.foldl (fun r q => r.set q.1.toNat (some q.2)) cur
theorem appM_snoc (cur : Rws) (more : List (Int × List Int)) (q : Int × List Int) : appM cur (more ++ [q]) = (appM cur more).set q.1.toNat (some q.2) := by
  unfold appM
  rw [List.foldl_append]
  rfl
theorem appM_len (cur : Rws) (more : List (Int × List Int)) : (appM cur more).length = cur.length := by
  induction more generalizing cur with
  | nil => rfl
  | cons q r ih =>
    show (appM (cur.set q.1.toNat (some q.2)) r).length = _
    rw [ih, List.length_set]
theorem appM_set {p : Nat} {v : Option (List Int)} : ∀ (more : List (Int × List Int)) (cur : Rws), (∀ q ∈ more, q.1.toNat ≠ p) → appM (cur.set p v) more = (appM cur more).set p v
  | [], cur, _ => rfl
  | q :: r, cur, h => by
    show appM ((cur.set p v).set q.1.toNat (some q.2)) r = (appM (cur.set q.1.toNat (some q.2)) r).set p v
    rw [List.set_comm _ _ (Ne.symm (h q List.mem_cons_self))]
    exact appM_set r _ fun q' hq' => h q' (List.mem_cons_of_mem _ hq')
structure Jn (os : List (List Int)) (rows : Rws) (cs : List Int) (st : List (Int × Int × Bool) × Rws) (lw : LSt) : Prop where
  calls : st.1 = lw.turn
  app : st.2 = appM lw.cur lw.more
  inv : WInv os st.2
  nd : cs.Nodup
  still : ∀ c ∈ cs, ∃ (p : Nat) (l : List Int), c = p ∧ rows[p]? = some (some l) ∧ st.2[p]? = some (some l) ∧ lw.cur[p]? = some (some l)
  more : ∀ q ∈ lw.more, 0 ≤ q.1 ∧ q.1 < os.length ∧ q.1 ∉ cs ∧ ∃ l, st.2[q.1.toNat]? = some (some l)
  mnd : (lw.more.map (·.1)).Nodup
theorem Jn.step {os : List (List Int)} {rows : Rws} {cs as : List Int} {c : Int} {st : List (Int × Int × Bool) × Rws} {lw : LSt} (g : GoodO os) (j : Jn os rows (c :: cs) st lw) :
    Jn os rows cs (stepP os rows as st c) (stepL os as lw c) ∧ (c ∉ as → ∀ x rest, lw.cur[c.toNat]? = some (some (x :: rest)) → 0 ≤ x ∧ x < os.length ∧ x ∉ lw.more.map (·.1)) := by
  obtain ⟨p, l, rfl, hrow, hb, hcur⟩ := j.still c List.mem_cons_self
  obtain ⟨hnc, hnd⟩ := List.nodup_cons.mp j.nd
  have hskip : Jn os rows cs st lw := ⟨j.calls, j.app, j.inv, hnd, fun c' hc' => j.still c' (List.mem_cons_of_mem _ hc'), fun q hq => let ⟨a, b, d, e⟩ := j.more q hq; ⟨a, b, fun z => d (List.mem_cons_of_mem _ z), e⟩, j.mnd⟩
  have hgr : rows.getD ((p : Int)).toNat none = some l := by
    rw [Int.toNat_natCast, List.getD_eq_getElem?_getD, hrow]
    rfl
  have hgc : lw.cur.getD ((p : Int)).toNat none = some l := by
    rw [Int.toNat_natCast, List.getD_eq_getElem?_getD, hcur]
    rfl
  unfold stepP stepL
  by_cases ha : (p : Int) ∈ as
  · rw [if_pos ha, if_pos ha]
    exact ⟨hskip, fun z => absurd ha z⟩
  rw [if_neg ha, if_neg ha, hgr, hgc]
  cases l with
  | nil =>
    refine ⟨hskip, fun _ x rest h => ?_⟩
    rw [Int.toNat_natCast, hcur] at h
    cases h
  | cons x rest =>
    obtain ⟨C, w⟩ := j.inv.ex
    obtain ⟨w1, w2, _, noX⟩ := w.call g hb
    obtain ⟨x0, x1, xC, _⟩ := (w.row p _ hb).2 x List.mem_cons_self
    have ex : ((x.toNat : Nat) : Int) = x := by omega
    have hpl : p < st.2.length := (List.getElem?_eq_some_iff.mp hb).1
    have hxl : x.toNat < st.2.length := by rw [j.inv.len]; omega
    have hpm : ∀ q ∈ lw.more, q.1.toNat ≠ p := fun q hq z => by
      obtain ⟨q0, _, q2, _⟩ := j.more q hq
      exact q2 (by rw [← z, show ((q.1.toNat : Nat) : Int) = q.1 by omega]; exact List.mem_cons_self)
    have hxm : x ∉ lw.more.map (·.1) := fun hm => by
      obtain ⟨q, hq, e⟩ := List.mem_map.mp hm
      obtain ⟨_, _, _, l', h4⟩ := j.more q hq
      rw [e] at h4
      exact noX l' h4
    have other : ∀ c' ∈ cs, ∀ (p' : Nat) (l' : List Int), c' = p' → st.2[p']? = some (some l') → p' ≠ p ∧ p' ≠ x.toNat := fun c' hc' p' l' e h => by
      refine ⟨fun z => hnc (by rw [← z, ← e]; exact hc'), fun z => ?_⟩
      rw [z] at h
      exact noX l' h
    refine ⟨?_, fun _ x' rest' h => ?_⟩
    · simp only [Int.toNat_natCast]
      by_cases hx : x ∈ as
      · rw [if_pos hx, if_pos hx]
        refine ⟨by show st.1 ++ _ = lw.turn ++ _; rw [j.calls], ?_, ⟨by rw [List.length_set]; exact j.inv.len, _, w1⟩, hnd, fun c' hc' => ?_, fun q hq => ?_, j.mnd⟩
        · show st.2.set p _ = appM (lw.cur.set p _) lw.more
          rw [appM_set _ _ hpm, ← j.app]
        · obtain ⟨p', l', e, h1, h2, h3⟩ := j.still c' (List.mem_cons_of_mem _ hc')
          obtain ⟨n1, _⟩ := other c' hc' p' l' e h2
          exact ⟨p', l', e, h1, by show (st.2.set p _)[p']? = _; rw [List.getElem?_set_ne (Ne.symm n1)]; exact h2, by show (lw.cur.set p _)[p']? = _; rw [List.getElem?_set_ne (Ne.symm n1)]; exact h3⟩
        · obtain ⟨a, b, d, l', e⟩ := j.more q hq
          exact ⟨a, b, fun z => d (List.mem_cons_of_mem _ z), l', by show (st.2.set p _)[q.1.toNat]? = _; rw [List.getElem?_set_ne (Ne.symm (hpm q hq))]; exact e⟩
      · rw [if_neg hx, if_neg hx]
        refine ⟨by show st.1 ++ _ = lw.turn ++ _; rw [j.calls], ?_, ⟨by rw [List.length_set, List.length_set]; exact j.inv.len, _, w2⟩, hnd, fun c' hc' => ?_, fun q hq => ?_, ?_⟩
        · show (st.2.set p _).set x.toNat _ = appM (lw.cur.set p _) (lw.more ++ [(x, ch os x)])
          rw [appM_snoc, appM_set _ _ hpm, ← j.app]
        · obtain ⟨p', l', e, h1, h2, h3⟩ := j.still c' (List.mem_cons_of_mem _ hc')
          obtain ⟨n1, n2⟩ := other c' hc' p' l' e h2
          exact ⟨p', l', e, h1, by show ((st.2.set p _).set x.toNat _)[p']? = _; rw [List.getElem?_set_ne (Ne.symm n2), List.getElem?_set_ne (Ne.symm n1)]; exact h2, by show (lw.cur.set p _)[p']? = _; rw [List.getElem?_set_ne (Ne.symm n1)]; exact h3⟩
        · have hq : q ∈ lw.more ++ [(x, ch os x)] := hq
          show _ ∧ _ ∧ _ ∧ ∃ l, ((st.2.set p _).set x.toNat _)[q.1.toNat]? = some (some l)
          rcases List.mem_append.mp hq with hq | hq
          · obtain ⟨a, b, d, l', e⟩ := j.more q hq
            refine ⟨a, b, fun z => d (List.mem_cons_of_mem _ z), ?_⟩
            by_cases ne : x.toNat = q.1.toNat
            · exact ⟨ch os x, by rw [← ne, List.getElem?_set_self (by rw [List.length_set]; exact hxl)]⟩
            · exact ⟨l', by rw [List.getElem?_set_ne ne, List.getElem?_set_ne (Ne.symm (hpm q hq))]; exact e⟩
          · obtain rfl := List.mem_singleton.mp hq
            refine ⟨by show 0 ≤ x; omega, x1, fun z => ?_, ch os x, by rw [List.getElem?_set_self (by rw [List.length_set]; exact hxl)]⟩
            obtain ⟨p', l', e, _, h2, _⟩ := j.still x (List.mem_cons_of_mem _ z)
            have : p' = x.toNat := by omega
            rw [this] at h2
            exact noX l' h2
        · show ((lw.more ++ [(x, ch os x)]).map (·.1)).Nodup
          rw [List.map_append]
          exact List.nodup_append.mpr ⟨j.mnd, by simp, fun a ha b hb z => hxm (by
            have : b = x := by simpa using hb
            rw [← this, ← z]
            exact ha)⟩
    · rw [Int.toNat_natCast, hcur] at h
      cases h
      exact ⟨by omega, x1, hxm⟩
end Toy

set_option Elab.async false
set_option linter.all false
set_option maxRecDepth 100000
set_option maxHeartbeats 4000000
namespace Toy
open PySem L2
theorem idxs_asc (f : Option (List Int) → Bool) (rows : Rws) : (idxs f rows).Pairwise (· < ·) := by
  have key : ∀ n, (idxs f (rows.take n)).Pairwise (· < ·) := by
    intro n
    induction n with
    | zero => simp [idxs]
    | succ n ih =>
      by_cases h : n < rows.length
      · rw [take_snoc (List.getElem?_eq_getElem h), idxs_snoc]
        refine List.pairwise_append.mpr ⟨ih, by split <;> simp, fun a ha b hb => ?_⟩
        obtain ⟨p, row, rfl, hp, _⟩ := idxs_mem.mp ha
        have hpl := (List.getElem?_eq_some_iff.mp hp).1
        split at hb
        · have := List.mem_singleton.mp hb
          omega
        · cases hb
      · rw [List.take_of_length_le (by omega)]
        rw [List.take_of_length_le (by omega)] at ih
        exact ih
  have := key rows.length
  rwa [List.take_length] at this
theorem asc_nodup {xs : List Int} (h : xs.Pairwise (· < ·)) : xs.Nodup := h.imp fun hab z => by omega
theorem sorted_eq : ∀ {xs ys : List Int}, xs.Perm ys → xs.Pairwise (· ≤ ·) → ys.Pairwise (· < ·) → xs = ys
  | [], ys, h, _, _ => h.nil_eq
  | x :: xs, [], h, _, _ => absurd h.length_eq (by simp)
  | x :: xs, y :: ys, h, hx, hy => by
    obtain ⟨hx1, hx2⟩ := List.pairwise_cons.mp hx
    obtain ⟨hy1, hy2⟩ := List.pairwise_cons.mp hy
    have e : x = y := by
      rcases List.mem_cons.mp (h.mem_iff.mp List.mem_cons_self) with e | e
      · exact e
      · have h1 := hy1 x e
        rcases List.mem_cons.mp (h.mem_iff.mpr (List.mem_cons_self (a := y) (l := ys))) with e2 | e2
        · exact e2.symm
        · have := hx1 y e2
          omega
    subst e
    rw [sorted_eq h.cons_inv hx2 hy2]
theorem stepP_no {os : List (List Int)} {rows : Rws} {as : List Int} {st : List (Int × Int × Bool) × Rws} {c : Int} (h : hasC (rows.getD c.toNat none) = false) : stepP os rows as st c = st := by
  unfold stepP
  split
  · rfl
  · split
    · rename_i e
      rw [e] at h
      cases h
    · rfl
theorem next_all (os : List (List Int)) (rows : Rws) (as : List Int) : nextM os rows as = (idxs Option.isSome rows).foldl (stepP os rows as) ([], rows) := by
  unfold nextM idxs
  rw [List.foldl_map, List.foldl_map]
  have e1 : rows.zipIdx.filter (fun q => hasC q.1) = (rows.zipIdx.filter fun q => q.1.isSome).filter fun q => hasC q.1 := by
    rw [List.filter_filter]
    refine List.filter_congr fun q _ => ?_
    cases h : q.1 with
    | none => rfl
    | some l => simp
  rw [e1]
  have mem : ∀ q ∈ rows.zipIdx.filter (fun q => q.1.isSome), rows.getD ((q.2 : Int)).toNat none = q.1 := fun q hq => by
    have h1 := (List.mem_filter.mp hq).1
    have h2 : rows[q.2]? = some q.1 := by simpa [List.mem_zipIdx_iff_getElem?] using h1
    rw [Int.toNat_natCast, List.getD_eq_getElem?_getD, h2]
    rfl
  generalize rows.zipIdx.filter (fun q => q.1.isSome) = L at mem
  generalize (([], rows) : List (Int × Int × Bool) × Rws) = st
  induction L generalizing st with
  | nil => rfl
  | cons q r ih =>
    rw [List.filter_cons]
    have ih := fun st => ih (fun q' hq' => mem q' (List.mem_cons_of_mem _ hq')) st
    by_cases h : hasC q.1 = true
    · rw [if_pos h, List.foldl_cons, List.foldl_cons]
      exact ih _
    · rw [if_neg h, List.foldl_cons, stepP_no (by rw [mem q List.mem_cons_self]; simpa using h)]
      exact ih _
theorem Jn.start {os : List (List Int)} {rows : Rws} (h : WInv os rows) : Jn os rows (idxs Option.isSome rows) ([], rows) ⟨[], rows, []⟩ := by
  refine ⟨rfl, rfl, h, asc_nodup (idxs_asc _ _), fun c hc => ?_, fun q hq => (by cases hq), List.nodup_nil⟩
  obtain ⟨p, row, rfl, hp, hs⟩ := idxs_mem.mp hc
  obtain ⟨l, rfl⟩ := Option.isSome_iff_exists.mp hs
  exact ⟨p, l, rfl, hp, hp, hp⟩
theorem Jn.at {os : List (List Int)} {rows : Rws} {as : List Int} (g : GoodO os) (h : WInv os rows) : ∀ i, i ≤ (idxs Option.isSome rows).length →
    Jn os rows ((idxs Option.isSome rows).drop i) (((idxs Option.isSome rows).take i).foldl (stepP os rows as) ([], rows)) (((idxs Option.isSome rows).take i).foldl (stepL os as) ⟨[], rows, []⟩)
  | 0, _ => Jn.start h
  | i + 1, hi => by
    have ih := Jn.at (as := as) g h i (by omega)
    rw [List.drop_eq_getElem_cons (by omega)] at ih
    have := (ih.step (as := as) g).1
    have e : (idxs Option.isSome rows)[i]? = some ((idxs Option.isSome rows)[i]'(by omega)) := List.getElem?_eq_getElem _
    rw [take_snoc e, List.foldl_append, List.foldl_append]
    exact this
theorem next_law {os : List (List Int)} {rows : Rws} {as : List Int} (g : GoodO os) (h : WInv os rows) : WInv os (nextM os rows as).2 ∧ ((idxs Option.isSome rows).foldl (stepL os as) ⟨[], rows, []⟩).turn = (nextM os rows as).1 ∧
    appM ((idxs Option.isSome rows).foldl (stepL os as) ⟨[], rows, []⟩).cur ((idxs Option.isSome rows).foldl (stepL os as) ⟨[], rows, []⟩).more = (nextM os rows as).2 := by
  have j := Jn.at (as := as) g h _ (Nat.le_refl _)
  rw [List.take_length, ← next_all] at j
  exact ⟨j.inv, j.calls.symm, j.app.symm⟩
structure DR (H : Hp) (kvs : List (Key × V)) (cur : Rws) : Prop where
  nd : (kvs.map (·.1)).Nodup
  key : ∀ k ∈ kvs.map (·.1), ∃ p : Nat, k = .inl (p : Int) ∧ p < cur.length
  no : ∀ p : Nat, cur[p]? = some none → valV kvs (.inl (p : Int)) = none
  yes : ∀ (p : Nat) (l : List Int), cur[p]? = some (some l) → ∃ r, valV kvs (.inl (p : Int)) = some (.ref r) ∧ H r = some (.lst (l.map V.int))
theorem DR.mono {H H' : Hp} {kvs : List (Key × V)} {cur : Rws} (h : DR H kvs cur) (s : KL H H') : DR H' kvs cur :=
  ⟨h.nd, h.key, h.no, fun p l hl => let ⟨r, a, b⟩ := h.yes p l hl; ⟨r, a, s _ _ b⟩⟩
theorem keys_put (kvs : List (Key × V)) (k : Key) (v : V) : (putK kvs k v).map (·.1) = if (valV kvs k).isSome = true then kvs.map (·.1) else kvs.map (·.1) ++ [k] := by
  by_cases h : (valV kvs k).isSome = true
  · rw [if_pos h]
    unfold putK
    rw [valV_any, if_pos h, List.map_map]
    refine List.map_congr_left fun q _ => ?_
    show (if q.1 = k then (q.1, v) else q).1 = q.1
    split <;> rfl
  · have h0 : valV kvs k = none := by
      cases e : valV kvs k with
      | none => rfl
      | some x => exact absurd (by rw [e]; rfl) h
    rw [if_neg h, putK_new v h0, List.map_append]
    rfl
theorem DR.put {H : Hp} {kvs : List (Key × V)} {cur : Rws} {p : Nat} {r : Addr} {l : List Int} (h : DR H kvs cur) (hp : p < cur.length) (hr : H r = some (.lst (l.map V.int))) : DR H (putK kvs (.inl (p : Int)) (.ref r)) (cur.set p (some l)) := by
  have inj : ∀ {a b : Nat}, (Sum.inl (a : Int) : Key) = .inl (b : Int) → a = b := fun {a b} e => by
    injection e with e
    omega
  refine ⟨?_, fun k hk => ?_, fun q hq => ?_, fun q m hq => ?_⟩
  · rw [keys_put]
    split
    · exact h.nd
    · rename_i hs
      have h0 : valV kvs (.inl (p : Int)) = none := by
        cases e : valV kvs (.inl (p : Int)) with
        | none => rfl
        | some x => exact absurd (by rw [e]; rfl) hs
      exact List.nodup_append.mpr ⟨h.nd, by simp, fun a ha b hb z => valV_not h0 (by rw [← List.mem_singleton.mp hb, ← z]; exact ha)⟩
  · rw [keys_put] at hk
    rw [List.length_set]
    split at hk
    · exact h.key k hk
    · rcases List.mem_append.mp hk with hk | hk
      · exact h.key k hk
      · exact ⟨p, List.mem_singleton.mp hk, hp⟩
  · rw [valV_put]
    rcases set_get hq with ⟨_, e⟩ | ⟨n, hq⟩
    · cases e
    · rw [if_neg (fun z => n (inj z))]
      exact h.no q hq
  · rw [valV_put]
    rcases set_get hq with ⟨rfl, e⟩ | ⟨n, hq⟩
    · cases e
      exact ⟨r, by rw [if_pos rfl], hr⟩
    · rw [if_neg (fun z => n (inj z))]
      exact h.yes q m hq
def keyI : Key → Int
  | .inl i => i
  | .inr _ => 0
theorem DR.ints {H : Hp} {kvs : List (Key × V)} {cur : Rws} (h : DR H kvs cur) : (kvs.map fun q => kV q.1) = ((kvs.map fun q => keyI q.1).map V.int) ∧ (kvs.map fun q => keyI q.1).Perm (idxs Option.isSome cur) := by
  have ek : ∀ q ∈ kvs, ∃ p : Nat, q.1 = .inl (p : Int) ∧ p < cur.length := fun q hq => h.key q.1 (List.mem_map.mpr ⟨q, hq, rfl⟩)
  refine ⟨?_, ?_⟩
  · rw [List.map_map]
    refine List.map_congr_left fun q hq => ?_
    obtain ⟨p, e, _⟩ := ek q hq
    show kV q.1 = V.int (keyI q.1)
    rw [e]
    rfl
  · have hnd : (kvs.map fun q => keyI q.1).Nodup := by
      have e : (kvs.map fun q => keyI q.1) = (kvs.map (·.1)).map keyI := by rw [List.map_map]; rfl
      rw [e]
      refine List.pairwise_map.mpr ((List.Pairwise.and_mem.mp h.nd).imp ?_)
      rintro a b ⟨ha, hb, hab⟩ z
      obtain ⟨p, rfl, _⟩ := h.key a ha
      obtain ⟨q, rfl, _⟩ := h.key b hb
      exact hab (congrArg Sum.inl z)
    refine (List.perm_ext_iff_of_nodup hnd (asc_nodup (idxs_asc _ _))).mpr fun x => ?_
    constructor
    · intro hx
      obtain ⟨q, hq, rfl⟩ := List.mem_map.mp hx
      obtain ⟨p, e, hp⟩ := ek q hq
      rw [e]
      show (p : Int) ∈ _
      refine idxs_mem.mpr ⟨p, cur[p], rfl, List.getElem?_eq_getElem hp, ?_⟩
      cases hc : cur[p] with
      | some l => rfl
      | none =>
        have hn := h.no p (by rw [List.getElem?_eq_getElem hp, hc])
        exact absurd (List.mem_map.mpr ⟨q, hq, e⟩) (valV_not hn)
    · intro hx
      obtain ⟨p, row, rfl, hp, hs⟩ := idxs_mem.mp hx
      obtain ⟨l, rfl⟩ := Option.isSome_iff_exists.mp hs
      obtain ⟨r, hv, _⟩ := h.yes p l hp
      obtain ⟨q, hq, e⟩ := List.mem_map.mp (valV_in hv)
      exact List.mem_map.mpr ⟨q, hq, by rw [e]; rfl⟩
theorem DR.len {H : Hp} {kvs : List (Key × V)} {cur : Rws} (h : DR H kvs cur) : kvs.length ≤ cur.length := by
  have := h.ints.2.length_eq
  rw [List.length_map] at this
  rw [this]
  exact idxs_len _ _
structure MR (H : Hp) (kvs : List (Key × V)) (more : List (Int × List Int)) : Prop where
  len : kvs.length = more.length
  at' : ∀ (i : Nat) (q : Key × V) (m : Int × List Int), kvs[i]? = some q → more[i]? = some m → q.1 = .inl m.1 ∧ ∃ r, q.2 = .ref r ∧ H r = some (.lst (m.2.map V.int))
theorem MR.mono {H H' : Hp} {kvs : List (Key × V)} {more : List (Int × List Int)} (h : MR H kvs more) (s : KL H H') : MR H' kvs more :=
  ⟨h.len, fun i q m a b => let ⟨e, r, f, g⟩ := h.at' i q m a b; ⟨e, r, f, s _ _ g⟩⟩
theorem MR.keys {H : Hp} {kvs : List (Key × V)} {more : List (Int × List Int)} (h : MR H kvs more) : kvs.map (·.1) = more.map fun m => (.inl m.1 : Key) := by
  refine List.ext_getElem? fun i => ?_
  rw [List.getElem?_map, List.getElem?_map]
  by_cases hi : i < kvs.length
  · rw [List.getElem?_eq_getElem hi, List.getElem?_eq_getElem (by rw [← h.len]; exact hi)]
    exact congrArg some (h.at' i _ _ (List.getElem?_eq_getElem hi) (List.getElem?_eq_getElem (by rw [← h.len]; exact hi))).1
  · rw [List.getElem?_eq_none (by omega), List.getElem?_eq_none (by rw [← h.len]; omega)]
    rfl
theorem MR.put {H : Hp} {kvs : List (Key × V)} {more : List (Int × List Int)} {x : Int} {l : List Int} {r : Addr} (h : MR H kvs more) (hx : x ∉ more.map (·.1)) (hr : H r = some (.lst (l.map V.int))) : MR H (putK kvs (.inl x) (.ref r)) (more ++ [(x, l)]) := by
  have h0 : valV kvs (.inl x) = none := by
    cases e : valV kvs (.inl x) with
    | none => rfl
    | some v =>
      have hm := valV_in e
      rw [h.keys] at hm
      obtain ⟨m, hm1, hm2⟩ := List.mem_map.mp hm
      injection hm2 with hm2
      exact absurd (List.mem_map.mpr ⟨m, hm1, hm2⟩) hx
  rw [putK_new _ h0]
  refine ⟨by rw [List.length_append, List.length_append, h.len]; rfl, fun i q m hq hm => ?_⟩
  by_cases hi : i < kvs.length
  · rw [List.getElem?_append_left hi] at hq
    rw [List.getElem?_append_left (by rw [← h.len]; exact hi)] at hm
    exact h.at' i q m hq hm
  · rw [List.getElem?_append_right (by omega)] at hq
    rw [List.getElem?_append_right (by rw [← h.len]; omega), ← h.len] at hm
    have e0 : i - kvs.length = 0 := by
      have := (List.getElem?_eq_some_iff.mp hq).1
      simp at this
      omega
    rw [e0] at hq hm
    have e1 : ((.inl x, .ref r) : Key × V) = q := by simpa using hq
    have e2 : (x, l) = m := by simpa using hm
    subst e1 e2
    exact ⟨rfl, r, rfl, hr⟩
theorem val_at : ∀ {kvs : List (Key × V)} {i : Nat} {q : Key × V}, (kvs.map (·.1)).Nodup → kvs[i]? = some q → valV kvs q.1 = some q.2
  | [], _, _, _, h => by simp at h
  | p :: r, 0, q, _, h => by
    have e : p = q := by simpa using h
    subst e
    exact valV_pos rfl
  | p :: r, i + 1, q, nd, h => by
    rw [List.map_cons] at nd
    obtain ⟨h1, h2⟩ := List.nodup_cons.mp nd
    have h : r[i]? = some q := by simpa using h
    rw [valV_neg (fun e => h1 (by rw [e]; exact List.mem_map.mpr ⟨q, List.mem_of_getElem? h, rfl⟩))]
    exact val_at h2 h
end Toy

set_option Elab.async false
set_option linter.all false
set_option maxRecDepth 100000
set_option maxHeartbeats 4000000
namespace Toy
open PySem L2
theorem KL.upd {H H' : Hp} {a : Addr} {o : HO} (k : KL H H') (h : H a = none) : KL H (L2.upd H' a o) := fun b xs e => by
  rw [upd_ne (ne_of_none e h)]
  exact k b xs e
theorem KL.dK {H : Hp} {a : Addr} {kvs : List (Key × V)} {o : HO} (h : H a = some (.dK kvs)) : KL H (L2.upd H a o) := fun b xs e => by
  rw [upd_ne (fun z => by rw [z, h] at e; cases e)]
  exact e
theorem KL.trans {H H1 H2 : Hp} (a : KL H H1) (b : KL H1 H2) : KL H H2 := fun c xs e => b c xs (a c xs e)
structure ZZ (k0 : List (Key × V)) (d sl tt mo : Addr) (H : Hp) (ks : List Int) (Hn : Hp) (cs : List Addr) (kv mv : List (Key × V)) (lw : LSt) : Prop where
  but : But d H Hn
  hsl : Hn sl = some (.lst (ks.map V.int))
  htt : Hn tt = some (.lst (cs.map V.ref))
  ntc : tt ∉ cs
  hC : CL Hn cs lw.turn
  hd : Hn d = some (.dK kv)
  hD : DR Hn kv lw.cur
  hmo : Hn mo = some (.dK mv)
  hM : MR Hn mv lw.more
  nk : ∀ q ∈ kv, q.2 ≠ .ref tt
  nm : ∀ q ∈ mv, q.2 ≠ .ref tt
  ok : ∀ q ∈ kv, (∃ q0 ∈ k0, q0.2 = q.2) ∨ ∃ r, q.2 = .ref r ∧ H r = none
  om : ∀ q ∈ mv, ∃ r, q.2 = .ref r ∧ H r = none
theorem But.free {d : Addr} {H H' : Hp} {o : HO} (b : But d H H') (hd : H' d = some o) {r : Addr} (h : H' r = none) : H r = none := by
  cases q : H r with
  | none => rfl
  | some u =>
    by_cases e : r = d
    · rw [e, hd] at h
      cases h
    · rw [b r u e q] at h
      cases h
theorem put_mem {kvs : List (Key × V)} {k : Key} {v : V} {q : Key × V} (h : q ∈ putK kvs k v) : q ∈ kvs ∨ q.2 = v := by
  unfold putK at h
  split at h
  · obtain ⟨q', hq', rfl⟩ := List.mem_map.mp h
    split
    · exact .inr rfl
    · exact .inl hq'
  · rcases List.mem_append.mp h with h | h
    · exact .inl h
    · rw [List.mem_singleton.mp h]
      exact .inr rfl
theorem val_mem {kvs : List (Key × V)} {k : Key} {v : V} (h : valV kvs k = some v) : ∃ q ∈ kvs, q.2 = v := by
  unfold valV at h
  obtain ⟨q, hq, e⟩ := Option.map_eq_some_iff.mp h
  exact ⟨q, List.mem_of_find?_eq_some hq, e⟩
theorem DR.vals {H : Hp} {kvs : List (Key × V)} {cur : Rws} (h : DR H kvs cur) {q : Key × V} (hq : q ∈ kvs) : ∃ r l, q.2 = .ref r ∧ H r = some (.lst l) := by
  obtain ⟨i, hi⟩ := List.getElem?_of_mem hq
  have hv := val_at h.nd hi
  obtain ⟨p, e, hp⟩ := h.key q.1 (List.mem_map.mpr ⟨q, hq, rfl⟩)
  rw [e] at hv
  cases hc : cur[p] with
  | none =>
    have := h.no p (by rw [List.getElem?_eq_getElem hp, hc])
    rw [this] at hv
    cases hv
  | some l =>
    obtain ⟨r, h1, h2⟩ := h.yes p l (by rw [List.getElem?_eq_getElem hp, hc])
    rw [h1] at hv
    injection hv with hv
    exact ⟨r, _, hv.symm, h2⟩
section
variable {k0 : List (Key × V)} {d sl tt mo : Addr} {H Hn : Hp} {ks : List Int} {cs : List Addr} {kv mv : List (Key × V)} {lw : LSt}
theorem CL.but {H H' : Hp} {cs : List Addr} {calls : List (Int × Int × Bool)} (h : CL H cs calls) (k : ∀ b xs, H b = some (.tup xs) → H' b = some (.tup xs)) : CL H' cs calls := ⟨h.len, fun p t c a b => k _ _ (h.at' p t c a b)⟩
theorem ZZ.same {Hn' : Hp} (z : ZZ k0 d sl tt mo H ks Hn cs kv mv lw) (s : Same Hn Hn') : ZZ k0 d sl tt mo H ks Hn' cs kv mv lw :=
  ⟨z.but.trans (But.of s), s _ _ z.hsl, s _ _ z.htt, z.ntc, z.hC.mono s, s _ _ z.hd, z.hD.mono (KL.of s), s _ _ z.hmo, z.hM.mono (KL.of s), z.nk, z.nm, z.ok, z.om⟩
theorem ZZ.putD (z : ZZ k0 d sl tt mo H ks Hn cs kv mv lw) (ndm : d ≠ mo) {p : Nat} {r : Addr} {l : List Int} (hp : p < lw.cur.length) (hr : Hn r = some (.lst (l.map V.int))) (hrt : r ≠ tt) (hrH : H r = none) :
    ZZ k0 d sl tt mo H ks (L2.upd Hn d (.dK (putK kv (.inl (p : Int)) (.ref r)))) cs (putK kv (.inl (p : Int)) (.ref r)) mv ⟨lw.turn, lw.cur.set p (some l), lw.more⟩ := by
  have kl : KL Hn (L2.upd Hn d (.dK (putK kv (.inl (p : Int)) (.ref r)))) := KL.dK z.hd
  refine ⟨z.but.trans But.upd, kl _ _ z.hsl, kl _ _ z.htt, z.ntc, z.hC.but fun b xs e => ?_, upd_same, (z.hD.put hp hr).mono kl, ?_, z.hM.mono kl, fun q hq => ?_, z.nm, fun q hq => ?_, z.om⟩
  · rw [upd_ne (fun q => by rw [q, z.hd] at e; cases e)]
    exact e
  · rw [upd_ne (Ne.symm ndm)]
    exact z.hmo
  · rcases put_mem hq with h | h
    · exact z.nk q h
    · rw [h]
      exact fun e => hrt (by injection e)
  · rcases put_mem hq with h | h
    · exact z.ok q h
    · exact .inr ⟨r, h, hrH⟩
theorem ZZ.putM (z : ZZ k0 d sl tt mo H ks Hn cs kv mv lw) (ndm : d ≠ mo) (hmoH : H mo = none) {x : Int} {r : Addr} {l : List Int} (hx : x ∉ lw.more.map (·.1)) (hr : Hn r = some (.lst (l.map V.int))) (hrt : r ≠ tt) (hrH : H r = none) :
    ZZ k0 d sl tt mo H ks (L2.upd Hn mo (.dK (putK mv (.inl x) (.ref r)))) cs kv (putK mv (.inl x) (.ref r)) ⟨lw.turn, lw.cur, lw.more ++ [(x, l)]⟩ := by
  have kl : KL Hn (L2.upd Hn mo (.dK (putK mv (.inl x) (.ref r)))) := KL.dK z.hmo
  refine ⟨fun b u n e => ?_, kl _ _ z.hsl, kl _ _ z.htt, z.ntc, z.hC.but fun b xs e => ?_, ?_, z.hD.mono kl, upd_same, (z.hM.put hx hr).mono kl, z.nk, fun q hq => ?_, z.ok, fun q hq => ?_⟩
  · rw [upd_ne (ne_of_none e hmoH)]
    exact z.but b u n e
  · rw [upd_ne (fun q => by rw [q, z.hmo] at e; cases e)]
    exact e
  · rw [upd_ne ndm]
    exact z.hd
  · rcases put_mem hq with h | h
    · exact z.nm q h
    · rw [h]
      exact fun e => hrt (by injection e)
  · rcases put_mem hq with h | h
    · exact z.om q h
    · exact ⟨r, h, hrH⟩
theorem ZZ.app (z : ZZ k0 d sl tt mo H ks Hn cs kv mv lw) (httH : H tt = none) (nst : sl ≠ tt) {t : Addr} {c x : Int} {b : Bool} (ht : Hn t = none) :
    ZZ k0 d sl tt mo H ks (L2.upd (L2.upd Hn t (.tup [.int c, .int x, .bl b])) tt (.lst ((cs ++ [t]).map V.ref))) (cs ++ [t]) kv mv ⟨lw.turn ++ [(c, x, b)], lw.cur, lw.more⟩ := by
  have m : Same Hn (L2.upd Hn t (.tup [.int c, .int x, .bl b])) := Same.new ht
  have z1 := z.same m
  have nt : tt ≠ t := ne_of_none z.htt ht
  have nct : tt ∉ cs ++ [t] := fun hm => by
    rcases List.mem_append.mp hm with h1 | h1
    · exact z.ntc h1
    · exact nt (List.mem_singleton.mp h1)
  have ht1 : (L2.upd Hn t (.tup [.int c, .int x, .bl b])) t = some (.tup [.int c, .int x, .bl b]) := upd_same
  generalize L2.upd Hn t (.tup [.int c, .int x, .bl b]) = H1 at m z1 ht1
  have nd : d ≠ tt := fun q => by
    have := z1.hd
    rw [q, z1.htt] at this
    cases this
  have nm : mo ≠ tt := fun q => by
    have := z1.hmo
    rw [q, z1.htt] at this
    cases this
  refine ⟨fun b u n e => ?_, ?_, upd_same, nct, (z1.hC.snoc (c := (c, x, b)) ht1).upd nct, ?_, ⟨z1.hD.nd, z1.hD.key, z1.hD.no, fun p l hl => ?_⟩, ?_, ⟨z1.hM.len, fun i q m' hq hm => ?_⟩, z.nk, z.nm, z.ok, z.om⟩
  · rw [upd_ne (ne_of_none e httH)]
    exact z1.but b u n e
  · rw [upd_ne nst]
    exact z1.hsl
  · rw [upd_ne nd]
    exact z1.hd
  · obtain ⟨r, e1, e2⟩ := z1.hD.yes p l hl
    exact ⟨r, e1, by rw [upd_ne (fun w => by obtain ⟨q, hq, e3⟩ := val_mem e1; exact z.nk q hq (by rw [e3, w]))]; exact e2⟩
  · rw [upd_ne nm]
    exact z1.hmo
  · obtain ⟨e1, r, e2, e3⟩ := z1.hM.at' i q m' hq hm
    exact ⟨e1, r, e2, by rw [upd_ne (fun w => z.nm q (List.mem_of_getElem? hq) (by rw [e2, w]))]; exact e3⟩
end
section
variable {P : Program} {w : World} {K : PySem.W.Frag} {mg : Str → Option Value} {base : Heap} {A : Adr}
end
end Toy

set_option Elab.async false
set_option linter.all false
set_option maxRecDepth 100000
set_option maxHeartbeats 4000000
namespace Toy
open PySem L2
section
variable {P : Program} {w : World} {K : PySem.W.Frag} {mg : Str → Option Value} {base : Heap} {A : Adr}
end
end Toy

set_option Elab.async false
set_option linter.all false
set_option maxRecDepth 100000
set_option maxHeartbeats 4000000
namespace Toy
open PySem L2
def KT (K : PySem.W.Frag) (H H' : Hp) : Prop := (∀ a xs, SqL K H a xs → SqL K H' a xs) ∧ ∀ a xs, SqT K H a xs → SqT K H' a xs
theorem KT.of {K : PySem.W.Frag} {H H' : Hp} (s : Same H H') : KT K H H' := ⟨fun a xs h => s.seq h, fun a xs h => by
  rcases h with (h | ⟨o, h⟩) | h
  · exact .inl (.inl (s _ _ h))
  · exact .inl (.inr ⟨o, s _ _ h⟩)
  · exact .inr h⟩
theorem KT.but {K : PySem.W.Frag} {H H' : Hp} {x C dx : Addr} {fs : List (Str × V)} (hx : H x = some (.ins C dx fs)) (b : But x H H') : KT K H H' := by
  refine ⟨fun a xs h => ?_, fun a xs h => ?_⟩
  · rcases h with (h | ⟨o, h⟩) | h
    · exact .inl (.inl (b _ _ (fun z => by rw [z, hx] at h; cases h) h))
    · exact .inl (.inr ⟨o, b _ _ (fun z => by rw [z, hx] at h; cases h) h⟩)
    · exact .inr h
  · rcases h with (h | ⟨o, h⟩) | h
    · exact .inl (.inl (b _ _ (fun z => by rw [z, hx] at h; cases h) h))
    · exact .inl (.inr ⟨o, b _ _ (fun z => by rw [z, hx] at h; cases h) h⟩)
    · exact .inr h
mutual
theorem Dp.kt {K : PySem.W.Frag} {H H' : Hp} (k : KT K H H') : ∀ {v : V} {d : PyData}, Dp K H v d → Dp K H' v d
  | _, _, .non => .non
  | _, _, .bl b => .bl b
  | _, _, .int i => .int i
  | _, _, .str x => .str x
  | _, _, .lst h r => .lst (k.1 _ _ h) (DpAll.kt k r)
  | _, _, .tup h r => .tup (k.2 _ _ h) (DpAll.kt k r)
theorem DpAll.kt {K : PySem.W.Frag} {H H' : Hp} (k : KT K H H') : ∀ {vs : List V} {ds : List PyData}, DpAll K H vs ds → DpAll K H' vs ds
  | _, _, .nil => .nil
  | _, _, .cons h r => .cons (Dp.kt k h) (DpAll.kt k r)
end
def callD (c : Int × Int × Bool) : PyData := .tuple [.int c.1, .int c.2.1, .bool c.2.2]
theorem dpAll_calls {K : PySem.W.Frag} {H : Hp} : ∀ {cs : List Addr} {calls : List (Int × Int × Bool)}, CL H cs calls → DpAll K H (cs.map V.ref) (calls.map callD)
  | [], [], _ => .nil
  | [], _ :: _, h => absurd h.len (by simp)
  | _ :: _, [], h => absurd h.len (by simp)
  | t :: cs, c :: calls, h => .cons (.tup (SqT.of (h.at' 0 t c rfl rfl)) (.cons (.int _) (.cons (.int _) (.cons (.bl _) .nil)))) (dpAll_calls ⟨by have := h.len; simpa using this, fun p t c hp hc => h.at' (p + 1) t c hp hc⟩)
theorem dp_calls {K : PySem.W.Frag} {H : Hp} {a : Addr} {cs : List Addr} {calls : List (Int × Int × Bool)} (ha : H a = some (.lst (cs.map V.ref))) (h : CL H cs calls) : Dp K H (.ref a) (.list (calls.map callD)) := .lst (SqL.of ha) (dpAll_calls h)
theorem can_calls : ∀ cs : List (Int × Int × Bool), PyData.canLayAll0 (cs.map callD) = true
  | [] => by simp [PyData.canLayAll0]
  | n :: r => by
    have ih := can_calls r
    simp [PyData.canLayAll0, PyData.canLay0, callD, ih]
theorem dep_calls : ∀ cs : List (Int × Int × Bool), PyData.depthAll (cs.map callD) ≤ 5
  | [] => by simp [PyData.depthAll]
  | n :: r => by
    have ih := dep_calls r
    simp only [List.map_cons, PyData.depthAll, PyData.depth, callD] at ih ⊢
    omega
theorem shaped_calls (cs : List (Int × Int × Bool)) : SeqAt.shaped (.list (cs.map callD)) = true := by
  unfold SeqAt.shaped
  rw [Bool.and_eq_true]
  refine ⟨?_, decide_eq_true ?_⟩
  · simpa only [PyData.canLay0] using can_calls cs
  · have := dep_calls cs
    simp only [PyData.depth]
    omega
theorem dpAll_rows {K : PySem.W.Frag} {H : Hp} : ∀ {vs : List V} {os : List (List Int)}, OL H vs os → DpAll K H vs (os.map fun l => .list (l.map PyData.int))
  | [], [], _ => .nil
  | [], _ :: _, h => absurd h.len (by simp)
  | _ :: _, [], h => absurd h.len (by simp)
  | v :: vs, l :: os, h => by
    obtain ⟨r, e, q⟩ := h.at' 0 v (some l) rfl rfl
    subst e
    exact .cons (dp_ints (SqL.of q)) (dpAll_rows ⟨by have := h.len; simpa using this, fun p v row hp hc => h.at' (p + 1) v row hp hc⟩)
theorem dp_rows {K : PySem.W.Frag} {H : Hp} {a : Addr} {vs : List V} {os : List (List Int)} (ha : H a = some (.lst vs)) (h : OL H vs os) : Dp K H (.ref a) (.list (os.map fun l => .list (l.map PyData.int))) := .lst (SqL.of ha) (dpAll_rows h)
theorem Ph.but {C : Addr} {H H' : Hp} {x y : Addr} {os os' : List (List Int)} {rows rows' : Rws} {t t' : Int} (h : Ph C H y os rows t) (hx : Ph C H x os' rows' t') (b : But x H H') (n : y ≠ x) : Ph C H' y os rows t := by
  obtain ⟨dx, o, rr, xs, ys, p⟩ := h
  obtain ⟨_, _, _, _, _, q⟩ := hx
  have kl := KL.but q.hx b
  exact ⟨dx, o, rr, xs, ys, b _ _ n p.hx, kl _ _ p.ho, p.hO.kl kl, kl _ _ p.hr, p.hR.kl kl⟩
theorem Ph.kt {K : PySem.W.Frag} {C : Addr} {H H' : Hp} {x : Addr} {os : List (List Int)} {rows : Rws} {t : Int} (h : Ph C H x os rows t) (b : But x H H') : KT K H H' := by
  obtain ⟨_, _, _, _, _, q⟩ := h
  exact KT.but q.hx b
theorem mk_same {C x dx : Addr} {H : Hp} (hx : H x = none) (hdx : H dx = none) : Same H (L2.upd (L2.upd H dx (.own x)) x (.ins C dx [])) := (Same.new hdx).upd hx
theorem mk_keep {x : Addr} {H G H' : Hp} (s : Same H G) (hx : H x = none) (b : But x G H') : Same H H' := fun c u e => b c u (ne_of_none e hx) (s c u e)
def os4 : List (List Int) := [[1, 2], [3], [], []]
def r40 : Rws := [some [1, 2], none, none, none]
theorem f4 : firstM os4 = r40 := by decide
end Toy

set_option Elab.async false
set_option linter.all false
set_option maxRecDepth 100000
set_option maxHeartbeats 4000000
namespace Toy
open PySem L2
abbrev Call := Int × Int × Bool
structure Enc {α : Type} [DecidableEq α] (f : α → PyData) (n : Nat) : Prop where
  eq : ∀ x y, PyData.eqv (f x) (f y) = decide (x = y)
  can : ∀ x, PyData.canLay0 (f x) = true
  dep : ∀ x, PyData.depth (f x) ≤ n
theorem Enc.shaped {α : Type} [DecidableEq α] {f : α → PyData} {n : Nat} (h : Enc f n) (hn : n ≤ 64) (x : α) : SeqAt.shaped (f x) = true := by
  unfold SeqAt.shaped
  rw [h.can x, Bool.true_and]
  exact decide_eq_true (Nat.le_trans (h.dep x) hn)
theorem Enc.int : Enc PyData.int 0 := ⟨fun x y => by simp only [PyData.eqv]; exact Bool.eq_iff_iff.mpr (by simp), fun x => by simp only [PyData.canLay0], fun x => by simp only [PyData.depth]; exact Nat.le_refl _⟩
theorem enc_all {α : Type} [DecidableEq α] {f : α → PyData} (h : ∀ x y, PyData.eqv (f x) (f y) = decide (x = y)) : ∀ xs ys : List α, PyData.eqvAll (xs.map f) (ys.map f) = decide (xs = ys)
  | [], [] => by simp [PyData.eqvAll]
  | [], y :: ys => by simp [PyData.eqvAll]
  | x :: xs, [] => by simp [PyData.eqvAll]
  | x :: xs, y :: ys => by
    rw [List.map_cons, List.map_cons]
    simp only [PyData.eqvAll, h, enc_all h xs ys]
    exact Bool.eq_iff_iff.mpr (by simp)
theorem can_all {α : Type} {f : α → PyData} (h : ∀ x, PyData.canLay0 (f x) = true) : ∀ xs : List α, PyData.canLayAll0 (xs.map f) = true
  | [] => by simp [PyData.canLayAll0]
  | x :: xs => by
    rw [List.map_cons]
    simp only [PyData.canLayAll0, h, can_all h xs, Bool.and_self]
theorem dep_all {α : Type} {f : α → PyData} {n : Nat} (h : ∀ x, PyData.depth (f x) ≤ n) : ∀ xs : List α, PyData.depthAll (xs.map f) ≤ n
  | [] => by simp [PyData.depthAll]
  | x :: xs => by
    rw [List.map_cons]
    simp only [PyData.depthAll]
    exact Nat.max_le.mpr ⟨h x, dep_all h xs⟩
theorem Enc.list {α : Type} [DecidableEq α] {f : α → PyData} {n : Nat} (h : Enc f n) : Enc (fun xs : List α => PyData.list (xs.map f)) (n + 1) :=
  ⟨fun x y => by simp only [PyData.eqv]; exact enc_all h.eq x y, fun x => by simp only [PyData.canLay0]; exact can_all h.can x, fun x => by simp only [PyData.depth]; exact Nat.succ_le_succ (dep_all h.dep x)⟩
theorem Enc.call : Enc callD 1 := by
  refine ⟨fun x y => ?_, fun x => by simp [callD, PyData.canLay0, PyData.canLayAll0], fun x => by simp [callD, PyData.depth, PyData.depthAll]⟩
  obtain ⟨a, b, c⟩ := x
  obtain ⟨a', b', c'⟩ := y
  simp only [callD, PyData.eqv, PyData.eqvAll]
  exact Bool.eq_iff_iff.mpr (by simp)
abbrev rowsD (os : List (List Int)) : PyData := .list (os.map fun l => .list (l.map PyData.int))
abbrev roundsD (css : List (List Call)) : PyData := .list (css.map fun cs => .list (cs.map callD))
theorem Enc.ints : Enc (fun l : List Int => PyData.list (l.map PyData.int)) 1 := Enc.int.list
theorem Enc.rows : Enc rowsD 2 := Enc.ints.list
theorem Enc.calls : Enc (fun cs : List Call => PyData.list (cs.map callD)) 2 := Enc.call.list
theorem Enc.rounds : Enc roundsD 3 := Enc.calls.list
theorem WC.congr {os : List (List Int)} {rows : Rws} {C C' : Int → Prop} (h : ∀ y, C y ↔ C' y) (w : WC os rows C) : WC os rows C' := by
  have e : C = C' := funext fun y => propext (h y)
  rw [← e]
  exact w
structure Wk (os : List (List Int)) (as : List Int) (rows : Rws) (Cl : List Int) : Prop where
  len : rows.length = os.length
  wc : WC os rows (fun y => y = 0 ∨ y ∈ Cl)
  nd : Cl.Nodup
  rng : ∀ x ∈ Cl, 0 < x ∧ x < os.length
  cov : ∀ (q : Nat) (r : List Int), os[q]? = some r → ((q : Int) = 0 ∨ (q : Int) ∈ Cl) → ∀ y ∈ r, y ∈ Cl ∨ ∃ (p : Nat) (l : List Int), rows[p]? = some (some l) ∧ y ∈ l
  na : ∀ (p : Nat) (l : List Int), rows[p]? = some (some l) → (p : Int) ∉ as
theorem Wk.inv {os : List (List Int)} {as Cl : List Int} {rows : Rws} (w : Wk os as rows Cl) : WInv os rows := ⟨w.len, _, w.wc⟩
theorem first_only {os : List (List Int)} {p : Nat} {l : List Int} (hl : (firstM os)[p]? = some (some l)) : p = 0 ∧ l = ch os 0 := by
  cases p with
  | zero =>
    have : some (ch os 0) = some l := by simpa [firstM] using hl
    cases this
    exact ⟨rfl, rfl⟩
  | succ p =>
    have : (List.replicate (os.length - 1) (none : Option (List Int)))[p]? = some (some l) := by simpa [firstM] using hl
    have := List.eq_of_mem_replicate (List.mem_of_getElem? this)
    cases this
theorem Wk.first {os : List (List Int)} {as : List Int} (g : GoodO os) (hA : ∀ a ∈ as, 0 < a) : Wk os as (firstM os) [] := by
  have n1 := g.n1
  have h0 := ch_get (os := os) (x := 0) (by omega) (by omega)
  obtain ⟨c1, c2⟩ := g.row h0
  refine ⟨by simp [firstM]; omega, ⟨.inl rfl, fun p l hl => ?_, fun p l hl => ?_, fun p q l m hpq hl hm => ?_, fun y hy => ?_⟩, List.nodup_nil, by simp, fun q r hq hC y hy => ?_, fun p l hl => ?_⟩
  · rw [(first_only hl).1]
    exact .inl rfl
  · obtain ⟨rfl, rfl⟩ := first_only hl
    refine ⟨c1, fun x hx => ?_⟩
    have := c2 x hx
    refine ⟨this.1, this.2, fun z => ?_, 0, ch os 0, h0, hx, .inl rfl⟩
    rcases z with z | z
    · omega
    · cases z
  · exact absurd ((first_only hl).1.trans (first_only hm).1.symm) hpq
  · rcases hy with hy | hy
    · exact .inl hy
    · cases hy
  · rcases hC with e | e
    · have e : q = 0 := by omega
      subst e
      have e : r = ch os 0 := by
        rw [show (0 : Int).toNat = 0 from rfl, hq] at h0
        exact Option.some.inj h0
      subst e
      exact .inr ⟨0, ch os 0, rfl, hy⟩
    · cases e
  · rw [(first_only hl).1]
    intro z
    have := hA _ z
    omega
theorem Wk.call {os : List (List Int)} {as Cl : List Int} {rows : Rws} (g : GoodO os) (w : Wk os as rows Cl) {c : Nat} {x : Int} {rest : List Int} (hc : rows[c]? = some (some (x :: rest))) :
    x ∉ Cl ∧ (∀ l, rows[x.toNat]? ≠ some (some l)) ∧ (x ∈ as → Wk os as (rows.set c (some (ch os x ++ rest))) (Cl ++ [x])) ∧ (x ∉ as → Wk os as ((rows.set c (some rest)).set x.toNat (some (ch os x))) (Cl ++ [x])) := by
  obtain ⟨wA, wB, _, noX⟩ := w.wc.call g hc
  obtain ⟨x0, x1, xC, _⟩ := (w.wc.row c _ hc).2 x List.mem_cons_self
  have hch := ch_get (os := os) (x := x) (by omega) x1
  have hcl := (List.getElem?_eq_some_iff.mp hc).1
  have ex : ((x.toNat : Nat) : Int) = x := by omega
  have hxl : x.toNat < rows.length := by rw [w.len]; omega
  have ncx : c ≠ x.toNat := fun z => noX _ (by rw [← z]; exact hc)
  have cong : ∀ y, ((y = 0 ∨ y ∈ Cl) ∨ y = x) ↔ (y = 0 ∨ y ∈ Cl ++ [x]) := fun y => by
    rw [List.mem_append, List.mem_singleton, or_assoc]
  have nd : (Cl ++ [x]).Nodup := List.nodup_append.mpr ⟨w.nd, by simp, fun a ha b hb z => xC (.inr (by rw [← List.mem_singleton.mp hb, ← z]; exact ha))⟩
  have rng : ∀ y ∈ Cl ++ [x], 0 < y ∧ y < os.length := fun y hy => by
    rcases List.mem_append.mp hy with h | h
    · exact w.rng y h
    · rw [List.mem_singleton.mp h]
      exact ⟨x0, x1⟩
  refine ⟨fun z => xC (.inr z), noX, fun ha => ⟨by rw [List.length_set, w.len], wA.congr cong, nd, rng, fun q r hq hC y hy => ?_, fun p l hl => ?_⟩, fun ha => ⟨by rw [List.length_set, List.length_set, w.len], wB.congr cong, nd, rng, fun q r hq hC y hy => ?_, fun p l hl => ?_⟩⟩
  · by_cases e : (q : Int) = x
    · have e : q = x.toNat := by omega
      subst e
      rw [hch] at hq
      cases hq
      exact .inr ⟨c, _, List.getElem?_set_self hcl, List.mem_append_left _ hy⟩
    · have hC' : (q : Int) = 0 ∨ (q : Int) ∈ Cl := by
        rcases hC with h | h
        · exact .inl h
        · rcases List.mem_append.mp h with h | h
          · exact .inr h
          · exact absurd (List.mem_singleton.mp h) e
      rcases w.cov q r hq hC' y hy with h | ⟨p, l, hp, hl⟩
      · exact .inl (List.mem_append_left _ h)
      · by_cases ep : p = c
        · subst ep
          rw [hc] at hp
          cases hp
          rcases List.mem_cons.mp hl with h | h
          · exact .inl (List.mem_append_right _ (List.mem_singleton.mpr h))
          · exact .inr ⟨p, _, List.getElem?_set_self hcl, List.mem_append_right _ h⟩
        · exact .inr ⟨p, l, by rw [List.getElem?_set_ne (Ne.symm ep)]; exact hp, hl⟩
  · rcases set_get hl with ⟨rfl, _⟩ | ⟨_, hl⟩
    · exact w.na p _ hc
    · exact w.na p l hl
  · by_cases e : (q : Int) = x
    · have e : q = x.toNat := by omega
      subst e
      rw [hch] at hq
      cases hq
      exact .inr ⟨x.toNat, _, List.getElem?_set_self (by rw [List.length_set]; exact hxl), hy⟩
    · have hC' : (q : Int) = 0 ∨ (q : Int) ∈ Cl := by
        rcases hC with h | h
        · exact .inl h
        · rcases List.mem_append.mp h with h | h
          · exact .inr h
          · exact absurd (List.mem_singleton.mp h) e
      rcases w.cov q r hq hC' y hy with h | ⟨p, l, hp, hl⟩
      · exact .inl (List.mem_append_left _ h)
      · have npx : p ≠ x.toNat := fun z => noX _ (by rw [← z]; exact hp)
        by_cases ep : p = c
        · subst ep
          rw [hc] at hp
          cases hp
          rcases List.mem_cons.mp hl with h | h
          · exact .inl (List.mem_append_right _ (List.mem_singleton.mpr h))
          · exact .inr ⟨p, _, by rw [List.getElem?_set_ne (Ne.symm ncx), List.getElem?_set_self hcl], h⟩
        · exact .inr ⟨p, l, by rw [List.getElem?_set_ne (Ne.symm npx), List.getElem?_set_ne (Ne.symm ep)]; exact hp, hl⟩
  · rcases set_get hl with ⟨rfl, _⟩ | ⟨_, hl⟩
    · rw [ex]
      exact ha
    · rcases set_get hl with ⟨rfl, _⟩ | ⟨_, hl⟩
      · exact w.na p _ hc
      · exact w.na p l hl
theorem fold_wk {os : List (List Int)} {as : List Int} {rows0 : Rws} (g : GoodO os) : ∀ (cs : List Int) (st : List Call × Rws) (Cl : List Int), Wk os as st.2 Cl → cs.Nodup → (∀ c ∈ cs, ∃ (p : Nat) (x : Int) (rest : List Int), c = p ∧ rows0[p]? = some (some (x :: rest)) ∧ st.2[p]? = some (some (x :: rest))) →
    ∃ new : List Call, (cs.foldl (stepP os rows0 as) st).1 = st.1 ++ new ∧ new.map (·.1) = cs ∧ (∀ q ∈ new, q.2.2 = decide (q.2.1 ∉ as)) ∧ Wk os as (cs.foldl (stepP os rows0 as) st).2 (Cl ++ new.map (·.2.1))
  | [], st, Cl, w, _, _ => ⟨[], by simp, rfl, by simp, by simpa using w⟩
  | c :: r, st, Cl, w, hn, hc => by
    obtain ⟨hcr, hnr⟩ := List.nodup_cons.mp hn
    obtain ⟨p, x, rest, rfl, h0, h2⟩ := hc _ List.mem_cons_self
    have hna := w.na p _ h2
    obtain ⟨xC, noX, wA, wB⟩ := w.call g h2
    have hgd : rows0.getD ((p : Int)).toNat none = some (x :: rest) := by
      rw [Int.toNat_natCast, List.getD_eq_getElem?_getD, h0]
      rfl
    rw [List.foldl_cons]
    by_cases ha : x ∈ as
    · have e : stepP os rows0 as st p = (st.1 ++ [((p : Int), x, false)], st.2.set p (some (ch os x ++ rest))) := by
        unfold stepP
        rw [if_neg hna, hgd]
        simp only [if_pos ha, Int.toNat_natCast]
      rw [e]
      obtain ⟨new, e1, e2, e3, e4⟩ := fold_wk g r (st.1 ++ [((p : Int), x, false)], st.2.set p (some (ch os x ++ rest))) (Cl ++ [x]) (wA ha) hnr fun c hcm => by
        obtain ⟨p', x', rest', rfl, h0', h2'⟩ := hc c (List.mem_cons_of_mem _ hcm)
        refine ⟨p', x', rest', rfl, h0', ?_⟩
        show (st.2.set p _)[p']? = _
        rw [List.getElem?_set_ne (fun z => hcr (by rw [z]; exact hcm))]
        exact h2'
      refine ⟨((p : Int), x, false) :: new, ?_, ?_, fun q hq => ?_, ?_⟩
      · rw [e1]
        simp
      · rw [List.map_cons, e2]
      · rcases List.mem_cons.mp hq with h | h
        · rw [h]
          exact (decide_eq_false (fun z => z ha)).symm
        · exact e3 q h
      · simpa using e4
    · have e : stepP os rows0 as st p = (st.1 ++ [((p : Int), x, true)], (st.2.set p (some rest)).set x.toNat (some (ch os x))) := by
        unfold stepP
        rw [if_neg hna, hgd]
        simp only [if_neg ha, Int.toNat_natCast]
      rw [e]
      obtain ⟨new, e1, e2, e3, e4⟩ := fold_wk g r (st.1 ++ [((p : Int), x, true)], (st.2.set p (some rest)).set x.toNat (some (ch os x))) (Cl ++ [x]) (wB ha) hnr fun c hcm => by
        obtain ⟨p', x', rest', rfl, h0', h2'⟩ := hc c (List.mem_cons_of_mem _ hcm)
        refine ⟨p', x', rest', rfl, h0', ?_⟩
        show ((st.2.set p _).set x.toNat _)[p']? = _
        rw [List.getElem?_set_ne (fun z => noX _ (by rw [z]; exact h2')), List.getElem?_set_ne (fun z => hcr (by rw [z]; exact hcm))]
        exact h2'
      refine ⟨((p : Int), x, true) :: new, ?_, ?_, fun q hq => ?_, ?_⟩
      · rw [e1]
        simp
      · rw [List.map_cons, e2]
      · rcases List.mem_cons.mp hq with h | h
        · rw [h]
          exact (decide_eq_true ha).symm
        · exact e3 q h
      · simpa using e4
theorem hasC_cons {row : Option (List Int)} (h : hasC row = true) : ∃ y rest, row = some (y :: rest) := by
  cases row with
  | none => cases h
  | some l =>
    cases l with
    | nil => cases h
    | cons y l => exact ⟨y, l, rfl⟩
theorem next_wk {os : List (List Int)} {as Cl : List Int} {rows : Rws} (g : GoodO os) (w : Wk os as rows Cl) :
    (nextM os rows as).1.map (·.1) = idxs hasC rows ∧ (∀ q ∈ (nextM os rows as).1, q.2.2 = decide (q.2.1 ∉ as)) ∧ Wk os as (nextM os rows as).2 (Cl ++ (nextM os rows as).1.map (·.2.1)) := by
  obtain ⟨new, e1, e2, e3, e4⟩ := fold_wk (rows0 := rows) g (idxs hasC rows) ([], rows) Cl w (asc_nodup (idxs_asc _ _)) fun c hc => by
    obtain ⟨p, row, rfl, h1, h2⟩ := idxs_mem.mp hc
    obtain ⟨y, rest, rfl⟩ := hasC_cons h2
    exact ⟨p, y, rest, rfl, h1, h1⟩
  rw [List.nil_append] at e1
  have e1 : (nextM os rows as).1 = new := e1
  rw [e1]
  exact ⟨e2, e3, e4⟩
theorem Wk.most {os : List (List Int)} {as Cl : List Int} {rows : Rws} (g : GoodO os) (w : Wk os as rows Cl) : Cl.length + 1 ≤ os.length := by
  have n1 := g.n1
  have := nodup_len (l := 0 :: Cl) (n := os.length) (List.nodup_cons.mpr ⟨fun h => by have := w.rng 0 h; omega, w.nd⟩) fun x hx => by
    rcases List.mem_cons.mp hx with h | h
    · omega
    · have := w.rng x h
      omega
  simpa using this
def walkM (os : List (List Int)) (as : List Int) : Nat → Rws → List (List Call)
  | 0, _ => []
  | f + 1, rows => if (idxs hasC rows).isEmpty then [] else (nextM os rows as).1 :: walkM os as f (nextM os rows as).2
def wlk (os : List (List Int)) (as : List Int) : List (List Call) := walkM os as 64 (firstM os)
def calledOf (css : List (List Call)) : List Int := css.flatten.map (·.2.1)
structure WAt (os : List (List Int)) (as : List Int) (pre : List (List Call)) (rows : Rws) : Prop where
  wk : Wk os as rows (calledOf pre)
  more : pre.length ≤ (calledOf pre).length
  ex : ∃ f, os.length ≤ f + (calledOf pre).length ∧ pre ++ walkM os as f rows = wlk os as
theorem WAt.first {os : List (List Int)} {as : List Int} (g : GoodO os) (hA : ∀ a ∈ as, 0 < a) : WAt os as [] (firstM os) :=
  ⟨Wk.first g hA, Nat.le_refl _, 64, by have := g.n40; omega, rfl⟩
theorem calledOf_snoc (pre : List (List Call)) (cs : List Call) : calledOf (pre ++ [cs]) = calledOf pre ++ cs.map (·.2.1) := by
  unfold calledOf
  rw [List.flatten_append, List.map_append]
  simp
theorem WAt.last {os : List (List Int)} {as : List Int} {pre : List (List Call)} {rows : Rws} (h : WAt os as pre rows) (he : idxs hasC rows = []) : pre = wlk os as := by
  obtain ⟨f, _, e⟩ := h.ex
  have : walkM os as f rows = [] := by
    cases f with
    | zero => rfl
    | succ f =>
      unfold walkM
      rw [he]
      rfl
  rw [this, List.append_nil] at e
  exact e
theorem WAt.step {os : List (List Int)} {as : List Int} {pre : List (List Call)} {rows : Rws} (g : GoodO os) (h : WAt os as pre rows) (he : idxs hasC rows ≠ []) : WAt os as (pre ++ [(nextM os rows as).1]) (nextM os rows as).2 ∧ (wlk os as)[pre.length]? = some (nextM os rows as).1 ∧ (calledOf pre).length < (calledOf (pre ++ [(nextM os rows as).1])).length := by
  obtain ⟨f, hf, e⟩ := h.ex
  obtain ⟨e1, e2, w⟩ := next_wk g h.wk
  have hm := h.wk.most g
  have hne : 1 ≤ (nextM os rows as).1.length := by
    have : (nextM os rows as).1.length = (idxs hasC rows).length := by rw [← e1, List.length_map]
    rw [this]
    exact List.length_pos_iff.mpr he
  have hlen : (calledOf (pre ++ [(nextM os rows as).1])).length = (calledOf pre).length + (nextM os rows as).1.length := by
    rw [calledOf_snoc, List.length_append, List.length_map]
  have hmore := h.more
  cases f with
  | zero => omega
  | succ f =>
    have ew : walkM os as (f + 1) rows = (nextM os rows as).1 :: walkM os as f (nextM os rows as).2 := by
      rw [walkM, if_neg (by rw [List.isEmpty_iff]; exact he)]
    rw [ew] at e
    refine ⟨⟨by rw [calledOf_snoc]; exact w, ?_, f, by omega, by rw [← e]; simp⟩, ?_, by omega⟩
    · rw [hlen, List.length_append]
      show pre.length + 1 ≤ _
      omega
    · rw [← e, List.getElem?_append_right (Nat.le_refl _), Nat.sub_self]
      rfl
theorem WAt.len {os : List (List Int)} {as : List Int} {pre : List (List Call)} {rows : Rws} (g : GoodO os) (h : WAt os as pre rows) : pre.length + 1 ≤ os.length := by
  have := h.wk.most g
  have := h.more
  omega
theorem WAt.at {os : List (List Int)} {as : List Int} (g : GoodO os) (hA : ∀ a ∈ as, 0 < a) : ∀ i, i ≤ (wlk os as).length → ∃ rows, WAt os as ((wlk os as).take i) rows ∧ (i < (wlk os as).length → idxs hasC rows ≠ [] ∧ (wlk os as)[i]? = some (nextM os rows as).1) ∧ (i = (wlk os as).length → idxs hasC rows = []) := by
  intro i
  induction i with
  | zero =>
    intro hi
    refine ⟨firstM os, WAt.first g hA, fun h => ?_, fun h => ?_⟩
    · have hne : idxs hasC (firstM os) ≠ [] := fun z => by
        have := (WAt.first g hA).last z
        rw [← this] at h
        cases h
      exact ⟨hne, ((WAt.first g hA).step g hne).2.1⟩
    · cases hq : idxs hasC (firstM os) with
      | nil => rfl
      | cons y ys =>
        have := ((WAt.first g hA).step g (by rw [hq]; simp)).2.1
        have := (List.getElem?_eq_some_iff.mp this).1
        have h : (wlk os as).length = 0 := h.symm
        rw [h] at this
        cases this
  | succ i ih =>
    intro hi
    obtain ⟨rows, w, h1, _⟩ := ih (by omega)
    obtain ⟨hne, hat⟩ := h1 (by omega)
    have w' := (w.step g hne).1
    have et : (wlk os as).take (i + 1) = (wlk os as).take i ++ [(nextM os rows as).1] := take_snoc hat
    rw [← et] at w'
    have hlt : ((wlk os as).take (i + 1)).length = i + 1 := by
      rw [List.length_take]
      omega
    refine ⟨_, w', fun h => ?_, fun h => ?_⟩
    · have hne : idxs hasC (nextM os rows as).2 ≠ [] := fun z => by
        have := w'.last z
        have := congrArg List.length this
        omega
      have := (w'.step g hne).2.1
      rw [hlt] at this
      exact ⟨hne, this⟩
    · cases hq : idxs hasC (nextM os rows as).2 with
      | nil => rfl
      | cons y ys =>
        have := (w'.step g (by rw [hq]; simp)).2.1
        have := (List.getElem?_eq_some_iff.mp this).1
        omega
theorem wlk_len {os : List (List Int)} {as : List Int} (g : GoodO os) (hA : ∀ a ∈ as, 0 < a) : (wlk os as).length + 1 ≤ os.length := by
  obtain ⟨rows, w, _, _⟩ := WAt.at g hA (wlk os as).length (Nat.le_refl _)
  have := w.len g
  rwa [List.take_length] at this
theorem wlk_all {os : List (List Int)} {as : List Int} (g : GoodO os) (hA : ∀ a ∈ as, 0 < a) : (calledOf (wlk os as)).Nodup ∧ ∀ x, x ∈ calledOf (wlk os as) ↔ 0 < x ∧ x < os.length := by
  obtain ⟨rows, w, _, he⟩ := WAt.at g hA (wlk os as).length (Nat.le_refl _)
  rw [List.take_length] at w
  have he := he rfl
  refine ⟨w.wk.nd, fun x => ⟨w.wk.rng x, fun hx => ?_⟩⟩
  have := g.reach (fun y => y = 0 ∨ y ∈ calledOf (wlk os as)) (.inl rfl) (fun p row hp hS y hy => by
    rcases w.wk.cov p row hp hS y hy with h | ⟨q, l, hq, hl⟩
    · exact .inr h
    · have : (q : Int) ∈ idxs hasC rows := idxs_mem.mpr ⟨q, _, rfl, hq, by cases l with | nil => cases hl | cons _ _ => rfl⟩
      rw [he] at this
      cases this) x (by omega) hx.2
  rcases this with h | h
  · omega
  · exact h
end Toy

set_option Elab.async false
set_option linter.all false
set_option maxRecDepth 100000
set_option maxHeartbeats 4000000
namespace Toy
open PySem L2
structure RS (H0 H : Hp) (ts : List Addr) (css : List (List Call)) : Prop where
  len : ts.length = css.length
  at' : ∀ (i : Nat) (t : Addr) (cs : List Call), ts[i]? = some t → css[i]? = some cs → H0 t = none ∧ ∃ us : List Addr, H t = some (.lst (us.map V.ref)) ∧ CL H us cs
theorem RS.mono {H0 H H' : Hp} {ts : List Addr} {css : List (List Call)} (h : RS H0 H ts css) (s : Same H H') : RS H0 H' ts css :=
  ⟨h.len, fun i t cs a b => let ⟨e, us, p, q⟩ := h.at' i t cs a b; ⟨e, us, s _ _ p, q.mono s⟩⟩
theorem RS.nil {H0 H : Hp} : RS H0 H [] [] := ⟨rfl, fun i t cs h _ => by simp at h⟩
theorem RS.snoc {H0 H : Hp} {ts : List Addr} {css : List (List Call)} {t : Addr} {cs : List Call} {us : List Addr} (h : RS H0 H ts css) (h0 : H0 t = none) (ht : H t = some (.lst (us.map V.ref))) (hC : CL H us cs) : RS H0 H (ts ++ [t]) (css ++ [cs]) := by
  refine ⟨by rw [List.length_append, List.length_append, h.len]; rfl, fun i x r hp hr => ?_⟩
  by_cases hpi : i < ts.length
  · rw [List.getElem?_append_left hpi] at hp
    rw [List.getElem?_append_left (by rw [← h.len]; exact hpi)] at hr
    exact h.at' i x r hp hr
  · rw [List.getElem?_append_right (by omega)] at hp
    rw [List.getElem?_append_right (by rw [← h.len]; omega), ← h.len] at hr
    have e0 : i - ts.length = 0 := by
      have := (List.getElem?_eq_some_iff.mp hp).1
      simp at this
      omega
    rw [e0] at hp hr
    have e1 : t = x := by simpa using hp
    have e2 : cs = r := by simpa using hr
    subst e1 e2
    exact ⟨h0, us, ht, hC⟩
theorem CL.updL {H : Hp} {cs : List Addr} {calls : List Call} {a : Addr} {xs : List V} {o : HO} (h : CL H cs calls) (ha : H a = some (.lst xs)) : CL (L2.upd H a o) cs calls :=
  ⟨h.len, fun p t c hp hc => by rw [upd_ne (fun z => by have := h.at' p t c hp hc; rw [z, ha] at this; cases this)]; exact h.at' p t c hp hc⟩
theorem RS.updL {H0 H : Hp} {ts : List Addr} {css : List (List Call)} {a : Addr} {xs : List V} {o : HO} (h : RS H0 H ts css) (ha : H a = some (.lst xs)) (n : a ∉ ts) : RS H0 (L2.upd H a o) ts css :=
  ⟨h.len, fun i t cs hp hc => by
    obtain ⟨e, us, p, q⟩ := h.at' i t cs hp hc
    exact ⟨e, us, by rw [upd_ne (fun z => n (by rw [← z]; exact List.mem_of_getElem? hp))]; exact p, q.updL ha⟩⟩
theorem RS.notin {H0 H : Hp} {ts : List Addr} {css : List (List Call)} {a : Addr} (h : RS H0 H ts css) (ha : H a = none) : a ∉ ts := fun h1 => by
  obtain ⟨p, hp⟩ := List.getElem?_of_mem h1
  have hl := (List.getElem?_eq_some_iff.mp hp).1
  obtain ⟨_, us, q, _⟩ := h.at' p a _ hp (List.getElem?_eq_getElem (by rw [← h.len]; exact hl))
  rw [ha] at q
  cases q
theorem RS.dpAll {K : PySem.W.Frag} {H0 H : Hp} : ∀ {ts : List Addr} {css : List (List Call)}, RS H0 H ts css → DpAll K H (ts.map V.ref) (css.map fun cs => .list (cs.map callD))
  | [], [], _ => .nil
  | [], _ :: _, h => absurd h.len (by simp)
  | _ :: _, [], h => absurd h.len (by simp)
  | t :: ts, cs :: css, h => by
    obtain ⟨_, us, p, q⟩ := h.at' 0 t cs rfl rfl
    exact .cons (dp_calls p q) (RS.dpAll ⟨by have := h.len; simpa using this, fun i t c hp hc => h.at' (i + 1) t c hp hc⟩)
theorem RS.dp {K : PySem.W.Frag} {H0 H : Hp} {a : Addr} {ts : List Addr} {css : List (List Call)} (h : RS H0 H ts css) (ha : H a = some (.lst (ts.map V.ref))) : Dp K H (.ref a) (roundsD css) := .lst (SqL.of ha) h.dpAll
section
variable {P : Program} {w : World} {K : PySem.W.Frag} {mg : Str → Option Value} {base : Heap} {A : Adr}
def spAll : Sp := fun vs H Q _ => ∃ (o ab : Addr) (xs : List V) (os : List (List Int)) (as : List Int), vs = [.ref o, .ref ab] ∧ H o = some (.lst xs) ∧ OL H xs os ∧ GoodO os ∧ H ab = some (.lst (as.map V.int)) ∧ (∀ a ∈ as, 0 < a) ∧
  ∀ (r : Addr) (ts : List Addr) (H' : Hp), Same H H' → H r = none → H' r = some (.lst (ts.map V.ref)) → RS H H' ts (wlk os as) → r ∉ ts → Q (.ref r) H'
end
end Toy

set_option Elab.async false
set_option linter.all false
set_option maxRecDepth 100000
set_option maxHeartbeats 4000000
namespace Toy
open PySem L2
theorem DR.first {H : Hp} {os : List (List Int)} {r : Addr} (n1 : 1 ≤ os.length) (hr : H r = some (.lst ((ch os 0).map V.int))) : DR H (putK [] (.inl 0) (.ref r)) (firstM os) := by
  have d0 : DR H [] (List.replicate os.length none) := ⟨List.nodup_nil, fun k hk => by simp at hk, fun p _ => rfl, fun p l hl => by
    have := List.eq_of_mem_replicate (List.mem_of_getElem? hl)
    cases this⟩
  have := d0.put (p := 0) (l := ch os 0) (by rw [List.length_replicate]; omega) hr
  have e : (List.replicate os.length (none : Option (List Int))).set 0 (some (ch os 0)) = firstM os := by
    unfold firstM
    cases h : os.length with
    | zero => omega
    | succ m => rfl
  rw [e] at this
  exact this
theorem RS.keep {H0 H H' : Hp} {ts : List Addr} {css : List (List Call)} (h : RS H0 H ts css) (k1 : ∀ t ∈ ts, ∀ xs, H t = some (.lst xs) → H' t = some (.lst xs)) (k2 : ∀ b xs, H b = some (.tup xs) → H' b = some (.tup xs)) : RS H0 H' ts css :=
  ⟨h.len, fun i t cs a b => let ⟨e, us, p, q⟩ := h.at' i t cs a b; ⟨e, us, k1 t (List.mem_of_getElem? a) _ p, q.but k2⟩⟩
section
variable {P : Program} {w : World} {K : PySem.W.Frag} {mg : Str → Option Value} {base : Heap} {A : Adr}
theorem sc_law_walk : FnScope ["_law_orders_here", "_law_absent_here", "_law_rows", "_law_found", "_law_caller", "_law_person", "_law_turn", "_law_more"] ["_law_orders_here", "_law_absent_here"] (defScope s_law_walk) := ⟨rfl, rfl, rfl, by decide +kernel, rfl, by decide +kernel, by decide +kernel⟩
theorem ok_law_walk (T : Txt K mg A) : FnOk P w K mg base CX0 1 A.f_law_walk A.d_law_walk ["_law_orders_here", "_law_absent_here"] spAll := by
  refine T.f_law_walk.ok sc_law_walk (fun vs H Q E h => ?_) (fun cdv A' outer s H0 vs Q E hr h => ?_)
  · obtain ⟨o, ab, xs, os, as, rfl, _⟩ := h
    rfl
  · obtain ⟨o, ab, xs, os, as, rfl, ho0, hO0, g, hab0, hA, k⟩ := h
    have n40 := g.n40
    have n1 := g.n1
    refine ⟨_, (pss_cons (ps_par (i := 2) (j := 3) (by rfl) sc_law_walk.nd rfl rfl (by decide) rfl rfl (@pa_cons _ _ _ _ _ (pe_disp (pps_cons pe_int (pe_callTy (call_list_ofK K) (by rfl) T.n_list (by decide +kernel) (@pa_cons _ _ _ _ _ (pe_ix (ix_listK K) (pv 0) pe_int (fun _ _ => rfl)) pa_nil (by rfl))) pps_nil) rfl rfl (by simp) (by decide)) (@pa_cons _ _ _ _ _ (@pe_lst _ _ _ _ pa_nil) pa_nil (by rfl)) (by rfl)) (by rfl))
      (pss_one (ps_while PassesOwn.never (pt_val pe_bl) (pss_cons (ps_par (i := 6) (j := 7) (by rfl) sc_law_walk.nd rfl rfl (by decide) rfl rfl (@pa_cons _ _ _ _ _ (@pe_lst _ _ _ _ pa_nil) (@pa_cons _ _ _ _ _ pe_dnewK pa_nil (by rfl)) (by rfl)) (by rfl))
      (pss_cons (ps_for PassesOwn.never rfl (pi_listK K (pe_callB (cr_sortedK K) (by rfl) T.n_sorted (by decide +kernel) (@pa_cons _ _ _ _ _ (pe_callTy (call_listKK K rfl) (by rfl) T.n_list (by decide +kernel) (@pa_cons _ _ _ _ _ (pv 2) pa_nil (by rfl))) pa_nil (by rfl)))) (pg_name (i := 4) sc_law_walk.nd rfl (Or.inl rfl)) (pss_one (ps_if (pt_cmpR (op_neDK K hr.units) (pe_dget hr.unit1 (pv 2) (pv 4) (fun _ _ => rfl)) (@pe_lst _ _ _ _ pa_nil) (nomark _)) (pss_cons (ps_set (i := 5) sc_law_walk.nd rfl (Or.inl rfl) (pe_ix (ix_listK K) (pe_dget hr.unit1 (pv 2) (pv 4) (fun _ _ => rfl)) pe_int (fun _ _ => rfl)))
      (pss_cons (ps_expr (pe_bmK K PySem.F.plainAttrs_list PySem.F.slot_list_append PySem.F.type_list_append mt_append (pv 6) (@pa_cons _ _ _ _ _ (@pe_tup _ _ _ _ _ (@pa_cons _ _ _ _ _ (pv 4) (@pa_cons _ _ _ _ _ (pv 5) (@pa_cons _ _ _ _ _ (pe_cmpR (op_notIn_seqK K) (pv 5) (pv 1) (by with_unfolding_all rfl)) pa_nil (by rfl)) (by rfl)) (by rfl))) pa_nil (by rfl))))
      (pss_one (ps_if (pt_cmpR (op_in_seqK K) (pv 5) (pv 1) (by with_unfolding_all rfl)) (pss_one (ps_dput hr.unit1 (pv 2) (pv 4) (pe_op op_cat (pe_callTy (call_list_ofK K) (by rfl) T.n_list (by decide +kernel) (@pa_cons _ _ _ _ _ (pe_ix (ix_listK K) (pv 0) (pv 5) (fun _ _ => rfl)) pa_nil (by rfl))) (pe_slice (sl_listK K) (pe_dget hr.unit1 (pv 2) (pv 4) (fun _ _ => rfl)) (po_some pe_int) po_none)) rfl)) (pss_cons (ps_dput hr.unit1 (pv 2) (pv 4) (pe_slice (sl_listK K) (pe_dget hr.unit1 (pv 2) (pv 4) (fun _ _ => rfl)) (po_some pe_int) po_none) rfl)
      (pss_one (ps_dput hr.unit1 (pv 7) (pv 5) (pe_callTy (call_list_ofK K) (by rfl) T.n_list (by decide +kernel) (@pa_cons _ _ _ _ _ (pe_ix (ix_listK K) (pv 0) (pv 5) (fun _ _ => rfl)) pa_nil (by rfl))) rfl))))))) pss_nil)))
      (pss_cons (ps_if (pt_cmpR (op_eqDK K hr.units) (pv 6) (@pe_lst _ _ _ _ pa_nil) (nomark _)) (pss_one (ps_ret (pv 3))) pss_nil)
      (pss_cons (ps_expr (pe_bmK K PySem.F.plainAttrs_list PySem.F.slot_list_append PySem.F.type_list_append mt_append (pv 3) (@pa_cons _ _ _ _ _ (pv 6) pa_nil (by rfl))))
      (pss_one (ps_lock (ps_for PassesOwn.never rfl (pi_keys (pv 7)) (pg_name (i := 5) sc_law_walk.nd rfl (Or.inl rfl)) (pss_one (ps_dput hr.unit1 (pv 2) (pv 5) (pe_dget hr.unit1 (pv 7) (pv 5) (fun _ _ => rfl)) rfl)))))))))))), ?_⟩
    refine fun d hd0 => ?_
    have m1 : Same H0 (upd H0 d (.dK [])) := Same.new hd0
    have hd1 : (upd H0 d (.dK [])) d = some (.dK []) := upd_same
    generalize upd H0 d (.dK []) = H1 at m1 hd1
    have hch0 : os[0]? = some (ch os 0) := ch_get (os := os) (x := 0) (by omega) (by omega)
    obtain ⟨r0, hr0, hr0H⟩ := OL.at hO0 hch0
    refine ⟨_, rfl, o, _, _, _, rfl, rfl, SqL.of (m1 _ _ ho0), at_of (j := 0) rfl hr0, r0, _, rfl, .inl (SqL.of (m1 _ _ hr0H)), fun q1 hq1 => ?_⟩
    have m2 : Same H1 (upd H1 q1 (.lst ((ch os 0).map V.int))) := Same.new hq1
    have hq12 : (upd H1 q1 (.lst ((ch os 0).map V.int))) q1 = some (.lst ((ch os 0).map V.int)) := upd_same
    generalize upd H1 q1 (.lst ((ch os 0).map V.int)) = H2 at m2 hq12
    refine ⟨m2 _ _ hd1, [(.inl 0, .ref q1)], rfl, (by show 1 ≤ 15; decide), ?_⟩
    have s3 : Same H0 (upd H2 d (.dK (mergeK [] [(.inl 0, .ref q1)]))) := (m1.trans m2).upd hd0
    have hd3 : (upd H2 d (.dK (mergeK [] [(.inl 0, .ref q1)]))) d = some (.dK (putK [] (.inl 0) (.ref q1))) := upd_same
    have hq13 : (upd H2 d (.dK (mergeK [] [(.inl 0, .ref q1)]))) q1 = some (.lst ((ch os 0).map V.int)) := by
      rw [upd_ne (Ne.symm (ne_of_none hd1 hq1))]
      exact hq12
    generalize upd H2 d (.dK (mergeK [] [(.inl 0, .ref q1)])) = H3 at s3 hd3 hq13
    refine ⟨Nat.zero_le _, fun fb hfb0 => ⟨_, _, rfl, ?_⟩⟩
    have m4 : Same H3 (upd H3 fb (.lst [])) := Same.new hfb0
    have hfb4 : (upd H3 fb (.lst [])) fb = some (.lst []) := upd_same
    have ndf : d ≠ fb := ne_of_none hd3 hfb0
    have nqf : q1 ≠ fb := ne_of_none hq13 hfb0
    have hfbH0 : H0 fb = none := s3.free hfb0
    generalize upd H3 fb (.lst []) = H4 at m4 hfb4
    refine ⟨fun m σ H => ∃ (pre : List (List Call)) (rows : Rws) (kvs : List (Key × V)) (ts : List Addr) (x4 x5 x6 x7 : Option V), m = os.length - (calledOf pre).length ∧ σ = [some (.ref o), some (.ref ab), some (.ref d), some (.ref fb), x4, x5, x6, x7] ∧ Same H0 H ∧ H fb = some (.lst (ts.map V.ref)) ∧ RS H0 H ts pre ∧ fb ∉ ts ∧ H d = some (.dK kvs) ∧ DR H kvs rows ∧ WAt os as pre rows ∧ ∀ q ∈ kvs, q.2 ≠ .ref fb,
      ⟨_, [], firstM os, _, [], none, none, none, none, rfl, rfl, s3.trans m4, hfb4, RS.nil, by simp, m4 _ _ hd3, DR.first n1 (m4 _ _ hq13), WAt.first g hA, fun q hq => ?_⟩, ?_⟩
    · rcases put_mem hq with h | h
      · cases h
      · rw [h]
        exact fun z => nqf (by injection z)
    clear m4 hfb4 nqf hq13 hd3 s3 hq12 m2 hq1 hd1 m1 hfb0
    rintro m σ H ⟨pre, rows, kvs, ts, x4, x5, x6, x7, rfl, rfl, s0, hfb, hT, hfbt, hd, hDR, hWA, hkf⟩
    have hW := hWA.wk.inv
    have hrl := hW.len
    have hpl0 := hWA.len g
    have ho := s0 _ _ ho0
    have hO : OL H xs os := RL.mono hO0 s0
    have hab := s0 _ _ hab0
    refine ⟨true, rfl, iteT ⟨fun σ' H' => ∃ m', m' < os.length - (calledOf pre).length ∧ ∃ (pre : List (List Call)) (rows : Rws) (kvs : List (Key × V)) (ts : List Addr) (x4 x5 x6 x7 : Option V), m' = os.length - (calledOf pre).length ∧ σ' = [some (.ref o), some (.ref ab), some (.ref d), some (.ref fb), x4, x5, x6, x7] ∧ Same H0 H' ∧ H' fb = some (.lst (ts.map V.ref)) ∧ RS H0 H' ts pre ∧ fb ∉ ts ∧ H' d = some (.dK kvs) ∧ DR H' kvs rows ∧ WAt os as pre rows ∧ ∀ q ∈ kvs, q.2 ≠ .ref fb, fun _ _ h => h, ?_⟩⟩
    refine ⟨Nat.zero_le _, fun tt htt => fun mo hmo => ⟨_, _, rfl, ?_⟩⟩
    have m1 : Same H (upd H tt (.lst [])) := Same.new htt
    have hmoH : H mo = none := m1.free hmo
    have m2 : Same H (upd (upd H tt (.lst [])) mo (.dK [])) := m1.upd hmoH
    have htt2 : (upd (upd H tt (.lst [])) mo (.dK [])) tt = some (.lst []) := by rw [upd_ne (ne_of_none upd_same hmo), upd_same]
    have hmo2 : (upd (upd H tt (.lst [])) mo (.dK [])) mo = some (.dK []) := upd_same
    have ntm : tt ≠ mo := ne_of_none upd_same hmo
    have ndt : d ≠ tt := ne_of_none hd htt
    have ndm : d ≠ mo := ne_of_none hd hmoH
    generalize upd (upd H tt (.lst [])) mo (.dK []) = H2 at m2 htt2 hmo2
    refine ⟨_, rfl, d, kvs, rfl, m2 _ _ hd, Nat.lt_of_le_of_lt hDR.len (small1000 (by omega)), fun l1 hl1 => ?_⟩
    obtain ⟨ei, hpm⟩ := hDR.ints
    rw [ei]
    have m3 : Same H2 (upd H2 l1 (.lst ((kvs.map fun q => keyI q.1).map V.int))) := Same.new hl1
    have hkl : (kvs.map fun q => keyI q.1).length < 64 := by
      rw [List.length_map]
      have := hDR.len
      omega
    refine ⟨l1, _, rfl, SqL.of upd_same, hkl, fun ks sl hks hsrt hsl => ?_⟩
    have eks : ks = idxs Option.isSome rows := sorted_eq (hks.trans hpm) hsrt (idxs_asc _ _)
    subst eks
    have m4 : Same H2 (upd (upd H2 l1 (.lst ((kvs.map fun q => keyI q.1).map V.int))) sl (.lst ((idxs Option.isSome rows).map V.int))) := m3.upd (m3.free hsl)
    have hsl2 : H2 sl = none := m3.free hsl
    have hsl4 : (upd (upd H2 l1 (.lst ((kvs.map fun q => keyI q.1).map V.int))) sl (.lst ((idxs Option.isSome rows).map V.int))) sl = some (.lst ((idxs Option.isSome rows).map V.int)) := upd_same
    generalize upd (upd H2 l1 (.lst ((kvs.map fun q => keyI q.1).map V.int))) sl (.lst ((idxs Option.isSome rows).map V.int)) = H4 at m4 hsl4
    have s4 : Same H H4 := m2.trans m4
    have hslH : H sl = none := m2.free hsl2
    refine ⟨sl, rfl, ⟨_, SqL.of hsl4⟩, for_list (K := K) (a := sl) (xs := (idxs Option.isSome rows).map V.int)
      (fun i σ H5 => ∃ (x3 x4 : Option V) (cs : List Addr) (kv mv : List (Key × V)), σ = [some (.ref o), some (.ref ab), some (.ref d), some (.ref fb), x3, x4, some (.ref tt), some (.ref mo)] ∧ ZZ kvs d sl tt mo H (idxs Option.isSome rows) H5 cs kv mv (((idxs Option.isSome rows).take i).foldl (stepL os as) ⟨[], rows, []⟩))
      ⟨_, _, [], kvs, [], rfl, But.of s4, hsl4, m4 _ _ htt2, by simp, CL.nil, s4 _ _ hd, hDR.mono (KL.of s4), m4 _ _ hmo2, ⟨rfl, fun i q m h _ => by simp at h⟩, fun q hq e => ?_, by simp, fun q hq => .inl ⟨q, hq, rfl⟩, by simp⟩ (fun i σ H5 _ ⟨_, _, _, _, _, _, z⟩ => SqL.of z.hsl) ?_ ?_⟩
    · obtain ⟨r, l, e1, e2⟩ := hDR.vals hq
      rw [e1] at e
      injection e with e
      rw [e, htt] at e2
      cases e2
    · rintro i x σ H5 hi ⟨x3, x4, cs, kv, mv, rfl, z5⟩
      obtain ⟨c, hc, rfl⟩ := map_int_get hi
      have hil := (List.getElem?_eq_some_iff.mp hc).1
      have j := Jn.at (as := as) g hW i (Nat.le_of_lt hil)
      have edrop : (idxs Option.isSome rows).drop i = c :: (idxs Option.isSome rows).drop (i + 1) := by
        rw [List.drop_eq_getElem_cons hil, (List.getElem?_eq_some_iff.mp hc).2]
      rw [edrop] at j
      have hst : ((idxs Option.isSome rows).take (i + 1)).foldl (stepL os as) ⟨[], rows, []⟩ = stepL os as (((idxs Option.isSome rows).take i).foldl (stepL os as) ⟨[], rows, []⟩) c := by
        rw [take_snoc hc, List.foldl_append]
        rfl
      rw [hst]
      obtain ⟨p, l, rfl, hrp, hb2, hcur⟩ := j.still c List.mem_cons_self
      have hl40 := ((j.inv.rowsIn g).row p l hb2).1
      have jx := (j.step (as := as) g).2
      have hcurL : (((idxs Option.isSome rows).take i).foldl (stepL os as) ⟨[], rows, []⟩).cur.length = os.length := by
        have h1 := j.inv.len
        rw [j.app, appM_len] at h1
        exact h1
      have hcl : cs.length < 1000 := by
        rw [z5.hC.len, ← j.calls]
        have := (foldP_len (os := os) (rows := rows) (as := as) ((idxs Option.isSome rows).take i) ([], rows)).2
        rw [List.length_take] at this
        have h2 := idxs_len Option.isSome rows
        simp only [List.length_nil] at this
        omega
      have hmore : (((idxs Option.isSome rows).take i).foldl (stepL os as) ⟨[], rows, []⟩).more.length ≤ 40 := by
        have h1 := nodup_len (n := os.length) j.mnd fun x hx => by
          obtain ⟨q, hq, rfl⟩ := List.mem_map.mp hx
          obtain ⟨a, b, _⟩ := j.more q hq
          exact ⟨a, b⟩
        rw [List.length_map] at h1
        omega
      generalize ((idxs Option.isSome rows).take i).foldl (stepL os as) ⟨[], rows, []⟩ = lw at z5 hcur jx hcurL hmore
      clear j hst edrop hb2
      have klH : KL H H5 := fun b ys e => z5.but b _ (fun z => by rw [z, hd] at e; cases e) e
      have hpl : p < lw.cur.length := (List.getElem?_eq_some_iff.mp hcur).1
      have hgc : lw.cur.getD ((p : Int)).toNat none = some l := by
        rw [Int.toNat_natCast, List.getD_eq_getElem?_getD, hcur]
        rfl
      obtain ⟨r, hv, hr5⟩ := z5.hD.yes p l hcur
      have hnst : sl ≠ tt := fun z => by
        have e := m2.free hsl2
        rw [z] at hsl2
        rw [htt2] at hsl2
        cases hsl2
      have ha : ¬ (p : Int) ∈ as := hWA.wk.na p l hrp
      · skip
        refine ⟨_, rfl, _, rfl, d, _, rfl, (by rw [← hv]; exact DGet.k (k := .inl (p : Int)) z5.hd), Nat.zero_le _, fun e he => ?_⟩
        have m6 : Same H5 (upd H5 e (.lst [])) := Same.new he
        refine ⟨.list (l.map PyData.int), .list [], dp_ints (SqL.of (m6 _ _ hr5)), .lst (SqL.of upd_same) .nil, shaped_ints l, shaped_ints [], _, rfl, ?_⟩
        rw [eqv_nil]
        have z6 := z5.same m6
        have hr6 := m6 _ _ hr5
        generalize upd H5 e (.lst []) = H6 at m6 z6 hr6
        cases l with
        | nil =>
          have e : stepL os as lw p = lw := by
            unfold stepL
            rw [if_neg ha, hgc]
          rw [e]
          exact ⟨_, _, cs, kv, mv, rfl, z6⟩
        | cons x rest =>
          rw [decide_eq_false (by simp)]
          refine iteT ?_
          obtain ⟨x0, x1, xm⟩ := jx ha x rest (by rw [Int.toNat_natCast]; exact hcur)
          have kl6 : KL H H6 := klH.trans (KL.of m6)
          refine ⟨_, rfl, _, rfl, d, _, rfl, (by rw [← hv]; exact DGet.k (k := .inl (p : Int)) z6.hd), r, _, 0, .int x, rfl, rfl, SqL.of hr6, at_of (j := 0) rfl rfl, ?_⟩
          refine ⟨_, rfl, .inl ⟨rfl, _, SqL.of z6.htt⟩, ?_⟩
          refine ⟨_, rfl, _, rfl, _, rfl, _, rfl, ab, as.map V.int, rfl, .inl (SqL.of (kl6 _ _ hab)), rfl, flat_ints as, ?_⟩
          rw [if_pos rfl, inV_ints]
          refine ⟨(by show 3 ≤ sizeLine; decide), fun t ht => ⟨tt, _, _, rfl, rfl, (by rw [upd_ne (ne_of_none z6.htt ht)]; exact z6.htt), ?_, ?_⟩⟩
          · rw [List.length_map]
            exact small1000 (by omega)
          have z7 := z6.app (c := (p : Int)) (x := x) (b := !decide (x ∈ as)) htt hnst ht
          have hr7 : (upd (upd H6 t (.tup [.int (p : Int), .int x, .bl (!decide (x ∈ as))])) tt (.lst ((cs ++ [t]).map V.ref))) r = some (.lst ((x :: rest).map V.int)) := by
            have nrt : r ≠ tt := fun w => by
              obtain ⟨q, hq, e3⟩ := val_mem hv
              exact z6.nk q hq (by rw [e3, w])
            rw [upd_ne nrt, upd_ne (ne_of_none hr6 ht)]
            exact hr6
          rw [show cs.map V.ref ++ [V.ref t] = (cs ++ [t]).map V.ref by rw [List.map_append]; rfl]
          generalize upd (upd H6 t (.tup [.int (p : Int), .int x, .bl (!decide (x ∈ as))])) tt (.lst ((cs ++ [t]).map V.ref)) = H7 at z7 hr7
          have kl7 : KL H H7 := fun b ys e => z7.but b _ (fun z => by rw [z, hd] at e; cases e) e
          obtain ⟨r2, hr2, hr2H⟩ := OL.at hO (ch_get x0 x1)
          have hlch : (ch os x).length ≤ 40 := Nat.le_trans (nodup_len (n := os.length) (g.row (ch_get x0 x1)).1 fun y hy => by have := (g.row (ch_get x0 x1)).2 y hy; omega) n40
          have hkv : kv.length < sizeLine := Nat.lt_of_le_of_lt z7.hD.len (small1000 (by show lw.cur.length ≤ 1000; omega))
          refine ⟨_, rfl, _, rfl, ab, as.map V.int, rfl, .inl (SqL.of (kl7 _ _ hab)), rfl, flat_ints as, _, rfl, ?_⟩
          rw [if_neg (by simp), inV_ints]
          have cutr : cutV ((x :: rest).map V.int) (some 1) none = rest.map V.int := by
            rw [cut_tail (by rw [List.length_map, List.length_cons]; omega)]
            rfl
          by_cases hx : x ∈ as
          · rw [decide_eq_true hx] at z7 ⊢
            refine iteT ?_
            refine ⟨_, rfl, _, rfl, o, _, x, _, rfl, rfl, SqL.of (kl7 _ _ ho), at_of (j := x.toNat) (by omega) hr2, r2, _, rfl, .inl (SqL.of (kl7 _ _ hr2H)), fun q1 hq1 => ?_⟩
            have m8 : Same H7 (upd H7 q1 (.lst ((ch os x).map V.int))) := Same.new hq1
            have z8 := z7.same m8
            have hq18 : (upd H7 q1 (.lst ((ch os x).map V.int))) q1 = some (.lst ((ch os x).map V.int)) := upd_same
            have hr8 := m8 _ _ hr7
            generalize upd H7 q1 (.lst ((ch os x).map V.int)) = H8 at m8 z8 hq18 hr8
            refine ⟨_, rfl, _, rfl, d, _, rfl, (by rw [← hv]; exact DGet.k (k := .inl (p : Int)) z8.hd), _, rfl, r, _, rfl, SqL.of hr8, fun q2 hq2 => ?_⟩
            rw [cutr]
            have m9 : Same H8 (upd H8 q2 (.lst (rest.map V.int))) := Same.new hq2
            have z9 := z8.same m9
            have hq29 : (upd H8 q2 (.lst (rest.map V.int))) q2 = some (.lst (rest.map V.int)) := upd_same
            have hq19 := m9 _ _ hq18
            generalize upd H8 q2 (.lst (rest.map V.int)) = H9 at m9 z9 hq29 hq19
            refine ⟨q1, q2, _, _, rfl, rfl, hq19, hq29, ?_, fun q3 hq3 => ?_⟩
            · rw [List.length_map, List.length_map]
              rw [List.length_cons] at hl40
              exact Nat.le_of_lt (small1000 (by omega))
            have m10 : Same H9 (upd H9 q3 (.lst ((ch os x).map V.int ++ rest.map V.int))) := Same.new hq3
            have z10 := z9.same m10
            have hq310 : (upd H9 q3 (.lst ((ch os x).map V.int ++ rest.map V.int))) q3 = some (.lst ((ch os x ++ rest).map V.int)) := by rw [upd_same, List.map_append]
            have nq3 : q3 ≠ tt := Ne.symm (ne_of_none z9.htt hq3)
            generalize upd H9 q3 (.lst ((ch os x).map V.int ++ rest.map V.int)) = H10 at m10 z10 hq310
            refine ⟨_, rfl, _, rfl, d, _, rfl, DPut.k (k := .inl (p : Int)) z10.hd hkv, ?_⟩
            have e : stepL os as lw p = ⟨lw.turn ++ [((p : Int), x, false)], lw.cur.set p (some (ch os x ++ rest)), lw.more⟩ := by
              unfold stepL
              rw [if_neg ha, hgc]
              simp only
              rw [if_pos hx, Int.toNat_natCast]
            rw [e]
            exact ⟨_, _, _, _, _, rfl, z10.putD ndm (l := ch os x ++ rest) hpl hq310 nq3 (z9.but.free z9.hd hq3)⟩
          · rw [decide_eq_false hx] at z7 ⊢
            refine iteF ?_
            refine ⟨_, rfl, _, rfl, d, _, rfl, (by rw [← hv]; exact DGet.k (k := .inl (p : Int)) z7.hd), _, rfl, r, _, rfl, SqL.of hr7, fun q2 hq2 => ?_⟩
            rw [cutr]
            have m8 : Same H7 (upd H7 q2 (.lst (rest.map V.int))) := Same.new hq2
            have z8 := z7.same m8
            have hq28 : (upd H7 q2 (.lst (rest.map V.int))) q2 = some (.lst (rest.map V.int)) := upd_same
            have nq2 : q2 ≠ tt := Ne.symm (ne_of_none z7.htt hq2)
            generalize upd H7 q2 (.lst (rest.map V.int)) = H8 at m8 z8 hq28
            refine ⟨_, rfl, _, rfl, d, _, rfl, DPut.k (k := .inl (p : Int)) z8.hd hkv, ?_⟩
            have z9 := z8.putD ndm (p := p) (l := rest) hpl hq28 nq2 (z7.but.free z7.hd hq2)
            generalize upd H8 d (.dK (putK kv (.inl (p : Int)) (.ref q2))) = H9 at z9
            have kl9 : KL H H9 := fun b ys e => z9.but b _ (fun z => by rw [z, hd] at e; cases e) e
            refine ⟨_, rfl, _, rfl, o, _, x, _, rfl, rfl, SqL.of (kl9 _ _ ho), at_of (j := x.toNat) (by omega) hr2, r2, _, rfl, .inl (SqL.of (kl9 _ _ hr2H)), fun q3 hq3 => ?_⟩
            have m10 : Same H9 (upd H9 q3 (.lst ((ch os x).map V.int))) := Same.new hq3
            have z10 := z9.same m10
            have hq310 : (upd H9 q3 (.lst ((ch os x).map V.int))) q3 = some (.lst ((ch os x).map V.int)) := upd_same
            have nq3 : q3 ≠ tt := Ne.symm (ne_of_none z9.htt hq3)
            generalize upd H9 q3 (.lst ((ch os x).map V.int)) = H10 at m10 z10 hq310
            have hmvl : mv.length < sizeLine := by
              have h1 : mv.length = lw.more.length := z10.hM.len
              rw [h1]
              exact small1000 (by omega)
            refine ⟨_, rfl, _, rfl, mo, _, rfl, DPut.k (k := .inl x) z10.hmo hmvl, ?_⟩
            have e : stepL os as lw p = ⟨lw.turn ++ [((p : Int), x, true)], lw.cur.set p (some rest), lw.more ++ [(x, ch os x)]⟩ := by
              unfold stepL
              rw [if_neg ha, hgc]
              simp only
              rw [if_neg hx, Int.toNat_natCast]
            rw [e]
            exact ⟨_, _, _, _, _, rfl, z10.putM ndm hmoH xm hq310 nq3 (z9.but.free z9.hd hq3)⟩
    · rintro σ H5 ⟨x3, x4, cs, kv, mv, rfl, z5⟩
      rw [List.length_map, List.take_length] at z5
      obtain ⟨_, hturn, happ⟩ := next_law (as := as) g hW
      have j := Jn.at (as := as) g hW _ (Nat.le_refl _)
      rw [List.take_length] at j
      have hmk := j.more
      have hmn := j.mnd
      have hcl : ((idxs Option.isSome rows).foldl (stepL os as) ⟨[], rows, []⟩).cur.length = os.length := by
        have h1 := j.inv.len
        rw [j.app, appM_len] at h1
        exact h1
      generalize (idxs Option.isSome rows).foldl (stepL os as) ⟨[], rows, []⟩ = lw at z5 hturn happ hmk hmn hcl
      have mnd : (mv.map (·.1)).Nodup := by
        rw [z5.hM.keys]
        have e : (lw.more.map fun m => (.inl m.1 : Key)) = (lw.more.map (·.1)).map Sum.inl := by rw [List.map_map]; rfl
        rw [e]
        exact List.pairwise_map.mpr (hmn.imp fun hab q => hab (by injection q))
      have nfd : fb ≠ d := Ne.symm ndf
      refine ⟨_, rfl, Nat.zero_le _, fun e he => ?_⟩
      have m6 : Same H5 (upd H5 e (.lst [])) := Same.new he
      refine ⟨_, _, dp_calls (m6 _ _ z5.htt) (z5.hC.mono m6), .lst (SqL.of upd_same) .nil, shaped_calls _, shaped_calls [], _, rfl, ?_⟩
      have z6 := z5.same m6
      generalize upd H5 e (.lst []) = H6 at m6 z6
      have hfb6 : H6 fb = some (.lst (ts.map V.ref)) := z6.but _ _ nfd hfb
      rw [show PyData.eqv (.list (lw.turn.map callD)) (.list []) = decide (lw.turn = []) from Enc.calls.eq lw.turn []]
      have hcalls : lw.turn = [] → idxs hasC rows = [] := fun ht0 => by
        have := (next_wk g hWA.wk).1
        rw [← hturn, ht0] at this
        exact this.symm
      by_cases ht0 : lw.turn = []
      · rw [decide_eq_true ht0]
        refine iteT ⟨_, rfl, ?_⟩
        have e := hWA.last (hcalls ht0)
        subst e
        exact k fb ts H6 (fun b u h => z6.but _ _ (ne_of_none h hd0) (s0 _ _ h)) hfbH0 hfb6 (hT.keep (fun t ht ys h => z6.but _ _ (fun z => by rw [z, hd] at h; cases h) h) fun b ys h => z6.but _ _ (fun z => by rw [z, hd] at h; cases h) h) hfbt
      · rw [decide_eq_false ht0]
        refine iteF ?_
        have hne : idxs hasC rows ≠ [] := fun z => by
          have := (next_wk g hWA.wk).1
          rw [z, ← hturn] at this
          exact ht0 (List.map_eq_nil_iff.mp this)
        obtain ⟨hWA', _, hlt⟩ := hWA.step g hne
        have hm := hWA'.wk.most g
        refine ⟨_, rfl, .inl ⟨rfl, _, SqL.of hfb6⟩, _, rfl, fb, _, _, rfl, rfl, hfb6, ?_, ?_⟩
        · rw [List.length_map, hT.len]
          exact small1000 (by omega)
        rw [show ts.map V.ref ++ [V.ref tt] = (ts ++ [tt]).map V.ref by rw [List.map_append]; rfl]
        have nft : tt ≠ fb := Ne.symm (ne_of_none hfb htt)
        have nfm : mo ≠ fb := Ne.symm (ne_of_none hfb hmoH)
        have keep7 : ∀ b u, b ≠ d → b ≠ fb → H b = some u → (upd H6 fb (.lst ((ts ++ [tt]).map V.ref))) b = some u := fun b u n1 n2 h => by
          rw [upd_ne n2]
          exact z6.but _ _ n1 h
        have hfb7 : (upd H6 fb (.lst ((ts ++ [tt]).map V.ref))) fb = some (.lst ((ts ++ [tt]).map V.ref)) := upd_same
        have hmo7 : (upd H6 fb (.lst ((ts ++ [tt]).map V.ref))) mo = some (.dK mv) := by
          rw [upd_ne nfm]
          exact z6.hmo
        have hd7 : (upd H6 fb (.lst ((ts ++ [tt]).map V.ref))) d = some (.dK kv) := by
          rw [upd_ne ndf]
          exact z6.hd
        have htt7 : (upd H6 fb (.lst ((ts ++ [tt]).map V.ref))) tt = some (.lst (cs.map V.ref)) := by
          rw [upd_ne nft]
          exact z6.htt
        have hC7 : CL (upd H6 fb (.lst ((ts ++ [tt]).map V.ref))) cs lw.turn := z6.hC.updL hfb6
        have hkv : ∀ q ∈ kv, q.2 ≠ .ref fb := fun q hq z => by
          rcases z6.ok q hq with ⟨q0, hq0, e0⟩ | ⟨r, e1, e2⟩
          · exact hkf q0 hq0 (by rw [e0]; exact z)
          · rw [z] at e1
            injection e1 with e1
            rw [← e1, hfb] at e2
            cases e2
        have hmv : ∀ q ∈ mv, q.2 ≠ .ref fb := fun q hq z => by
          obtain ⟨r, e1, e2⟩ := z6.om q hq
          rw [z] at e1
          injection e1 with e1
          rw [← e1, hfb] at e2
          cases e2
        have hD7 : DR (upd H6 fb (.lst ((ts ++ [tt]).map V.ref))) kv lw.cur := ⟨z6.hD.nd, z6.hD.key, z6.hD.no, fun p l hl => by
          obtain ⟨r, h1, h2⟩ := z6.hD.yes p l hl
          obtain ⟨q, hq, e1⟩ := val_mem h1
          exact ⟨r, h1, by rw [upd_ne (fun z => hkv q hq (by rw [e1, z]))]; exact h2⟩⟩
        have hM7 : MR (upd H6 fb (.lst ((ts ++ [tt]).map V.ref))) mv lw.more := ⟨z6.hM.len, fun i q m hq hm => by
          obtain ⟨h1, r, h2, h3⟩ := z6.hM.at' i q m hq hm
          exact ⟨h1, r, h2, by rw [upd_ne (fun z => hmv q (List.mem_of_getElem? hq) (by rw [h2, z]))]; exact h3⟩⟩
        have om := z6.om
        generalize upd H6 fb (.lst ((ts ++ [tt]).map V.ref)) = H7 at keep7 hfb7 hmo7 hd7 htt7 hC7 hD7 hM7
        clear z6 z5 m6 j hcalls
        refine ⟨mo, .dK mv, hmo7, trivial, fun od => ?_⟩
        have kl8 : KL H7 (upd H7 mo (.frz od (.dK mv))) := KL.dK hmo7
        refine ⟨_, rfl, mo, od, rfl, .inl ⟨mv, upd_same, for_it (J := Itk mo od mv) mv.length
          (fun i σ H8 => ∃ (x5 : Option V) (kv' : List (Key × V)), σ = [some (.ref o), some (.ref ab), some (.ref d), some (.ref fb), x3, x5, some (.ref tt), some (.ref mo)] ∧ H8 mo = some (.frz od (.dK mv)) ∧ (∀ b u, b ≠ d → b ≠ fb → H b = some u → H8 b = some u) ∧ H8 fb = some (.lst ((ts ++ [tt]).map V.ref)) ∧ H8 tt = some (.lst (cs.map V.ref)) ∧ CL H8 cs lw.turn ∧ H8 d = some (.dK kv') ∧ DR H8 kv' (appM lw.cur (lw.more.take i)) ∧ MR H8 mv lw.more ∧ ∀ q ∈ kv', q.2 ≠ .ref fb)
          ⟨_, kv, rfl, upd_same, fun b u n1 n2 e => (by rw [upd_ne (ne_of_none e hmoH)]; exact keep7 b u n1 n2 e), kl8 _ _ hfb7, kl8 _ _ htt7, hC7.but (fun b ys e => ?_), (by rw [upd_ne ndm]; exact hd7), hD7.mono kl8, hM7.mono kl8, hkv⟩
          (fun i σ H8 hi ⟨_, _, _, q, _⟩ => ⟨q, hi⟩) (fun σ H8 ⟨_, _, _, q, _⟩ => ⟨q, Nat.le_refl _⟩) ?_ ?_⟩⟩
        · rw [upd_ne (fun q => by rw [q, hmo7] at e; cases e)]
          exact e
        · rintro i x σ H8 H8' hi ⟨x5, kv', rfl, hmo8, b8, hfb8, htt8, hC8, hd8, hD8, hM8, hkv8⟩ ⟨rfl, kk, vv, hkvi, rfl⟩
          obtain ⟨m, hm⟩ : ∃ m, lw.more[i]? = some m := ⟨_, List.getElem?_eq_getElem (by rw [← hM8.len]; exact hi)⟩
          obtain ⟨ek, r, er, hr8⟩ := hM8.at' i _ m hkvi hm
          obtain ⟨q0, q1, _⟩ := hmk m (List.mem_of_getElem? hm)
          have ek : kk = .inl m.1 := ek
          have er : vv = .ref r := er
          subst ek er
          have em : ((m.1.toNat : Nat) : Int) = m.1 := by omega
          have hval := val_at mnd hkvi
          have hl' : (appM lw.cur (lw.more.take i)).length = os.length := by rw [appM_len, hcl]
          refine ⟨_, rfl, _, rfl, mo, _, rfl, (by rw [← hval]; exact .inl ⟨mv, .inl m.1, .inr ⟨od, hmo8⟩, rfl, rfl⟩), _, rfl, _, rfl, d, _, rfl, DPut.k (k := .inl m.1) hd8 (Nat.lt_of_le_of_lt hD8.len (small1000 (by omega))), ?_⟩
          have kl9 : KL H8' (upd H8' d (.dK (putK kv' (.inl m.1) (.ref r)))) := KL.dK hd8
          refine ⟨_, _, rfl, ?_, fun b u n1 n2 e => (by rw [upd_ne n1]; exact b8 b u n1 n2 e), kl9 _ _ hfb8, kl9 _ _ htt8, hC8.but (fun b ys e => ?_), upd_same, ?_, hM8.mono kl9, fun q hq => ?_⟩
          · rw [upd_ne (Ne.symm ndm)]
            exact hmo8
          · rw [upd_ne (fun q => by rw [q, hd8] at e; cases e)]
            exact e
          · rw [take_snoc hm, appM_snoc]
            have := (hD8.put (p := m.1.toNat) (by omega) hr8).mono kl9
            rw [em] at this
            exact this
          · rcases put_mem hq with h | h
            · exact hkv8 q h
            · rw [h]
              exact hmv _ (List.mem_of_getElem? hkvi)
        · rintro σ H8 ⟨x5, kv', rfl, hmo8, b8, hfb8, htt8, hC8, hd8, hD8, hM8, hkv8⟩
          refine ⟨hmo8, ?_⟩
          rw [hM8.len, List.take_length, happ] at hD8
          rw [hturn] at hC8
          have kl9 : KL H8 (upd H8 mo (.dK mv)) := fun b ys e => by
            rw [upd_ne (fun q => by rw [q, hmo8] at e; cases e)]
            exact e
          have kt9 : ∀ b ys, H8 b = some (.tup ys) → (upd H8 mo (.dK mv)) b = some (.tup ys) := fun b ys e => by
            rw [upd_ne (fun q => by rw [q, hmo8] at e; cases e)]
            exact e
          have k9 : ∀ b u, b ≠ d → b ≠ fb → H b = some u → (upd H8 mo (.dK mv)) b = some u := fun b u n1 n2 e => by
            rw [upd_ne (ne_of_none e hmoH)]
            exact b8 b u n1 n2 e
          have ntt : tt ∉ ts := hT.notin htt
          have nfts : fb ∉ ts ++ [tt] := fun z => by
            rcases List.mem_append.mp z with z | z
            · exact hfbt z
            · exact nft (List.mem_singleton.mp z).symm
          refine ⟨_, ?_, pre ++ [(nextM os rows as).1], _, kv', ts ++ [tt], _, _, _, _, rfl, rfl, fun b u e => k9 b u (ne_of_none e hd0) (ne_of_none e hfbH0) (s0 _ _ e), kl9 _ _ hfb8, ?_, nfts, ?_, hD8.mono kl9, hWA', hkv8⟩
          · omega
          · refine (hT.keep (fun t ht ys h => k9 _ _ (fun z => by rw [z, hd] at h; cases h) (fun z => hfbt (by rw [← z]; exact ht)) h) fun b ys h => k9 _ _ (fun z => by rw [z, hd] at h; cases h) (fun z => by rw [z, hfb] at h; cases h) h).snoc (s0.free htt) (kl9 _ _ htt8) (hC8.but kt9)
          · rw [upd_ne ndm]
            exact hd8
end
end Toy

set_option Elab.async false
set_option linter.all false
set_option maxRecDepth 100000
set_option maxHeartbeats 4000000
namespace Toy
open PySem L2
theorem cells_te {K : PySem.W.Frag} {σ : St} {H : Hp} {Q : VK} {i : Nat} {a : Addr} {ns : List Int} (hσ : σ[i]? = some (some (.ref a))) (hS : SqL K H a (ns.map V.int)) (hl : ns.length ≤ 63)
    (k : ∀ (cl : Addr) (cs : List Int) (H1 : Hp), Same H H1 → H cl = none → H1 cl = some (.lst (cs.map V.int)) → 0 < cs.length → cs.length ≤ 63 → Q (.ref cl) H1) :
    tIf (tTest (tOp (rNeD K) (tVar i) (tLst tNil))) (tSl (rSlL K) (tVar i) tNoPart (tPart (tC (.int 63)))) (tLst (tCons (tC (.int 5)) tNil)) σ H Q := by
  refine ⟨_, hσ, Nat.zero_le _, fun e he => ⟨.list (ns.map PyData.int), .list [], dp_ints ((Same.new he).seq hS), .lst (SqL.of upd_same) .nil, shaped_ints ns, shaped_ints [], _, rfl, ?_⟩⟩
  rw [eqv_nil]
  by_cases hn : ns = []
  · rw [decide_eq_true hn]
    refine iteF ?_
    refine ⟨(by show 1 ≤ sizeLine; decide), fun cl hcl => ?_⟩
    exact k cl [5] _ ((Same.new he).upd ((Same.new he).free hcl)) ((Same.new he).free hcl) upd_same (by decide) (by decide)
  · rw [decide_eq_false hn]
    refine iteT ?_
    refine ⟨_, hσ, _, rfl, a, ns.map V.int, rfl, (Same.new he).seq hS, fun cl hcl => ?_⟩
    rw [cut63 hl]
    exact k cl ns _ ((Same.new he).upd ((Same.new he).free hcl)) ((Same.new he).free hcl) upd_same (List.length_pos_iff.mpr hn) hl
theorem mod_at {cs : List Int} (h : 0 < cs.length) (z : Int) : 0 < (((cs.map V.int).length : Nat) : Int) ∧ ∃ c, atI (cs.map V.int) (z % (((cs.map V.int).length : Nat) : Int)) = some (.int c) := by
  have h0 : 0 < (((cs.map V.int).length : Nat) : Int) := by
    rw [List.length_map]
    omega
  have h1 : 0 ≤ z % (((cs.map V.int).length : Nat) : Int) := Int.emod_nonneg _ (by omega)
  have h2 : z % (((cs.map V.int).length : Nat) : Int) < (((cs.map V.int).length : Nat) : Int) := Int.emod_lt_of_pos _ h0
  obtain ⟨c, hc⟩ : ∃ c, cs[(z % (((cs.map V.int).length : Nat) : Int)).toNat]? = some c := ⟨_, List.getElem?_eq_getElem (by rw [List.length_map] at h1 h2 ⊢; omega)⟩
  exact ⟨h0, c, at_of (j := (z % (((cs.map V.int).length : Nat) : Int)).toNat) (by omega) (by rw [List.getElem?_map, hc]; rfl)⟩
section
variable {P : Program} {w : World} {K : PySem.W.Frag} {mg : Str → Option Value} {base : Heap} {A : Adr}
def spLabs (K : PySem.W.Frag) : Sp := fun vs H Q _ => ∃ (a : Addr) (ns : List Int) (by' n : Int), vs = [.ref a, .int by', .int n] ∧ SqL K H a (ns.map V.int) ∧ ns.length ≤ 63 ∧ 0 ≤ by' ∧ by' ≤ 10 ∧ 1 ≤ n ∧ n ≤ 40 ∧
  ∀ (b : Addr) (as : List Int) (H' : Hp), Same H H' → H b = none → H' b = some (.lst (as.map V.int)) → Abs as n → Q (.ref b) H'
theorem sc_law_absent : FnScope ["_law_script", "_law_by", "_law_people", "_law_cells", "_law_kind", "_law_at", "_law_whole", "_law_found", "_law_number_here"] ["_law_script", "_law_by", "_law_people"] (defScope s_law_absent) := ⟨rfl, rfl, rfl, by decide +kernel, rfl, by decide +kernel, by decide +kernel⟩
theorem ok_law_absent (T : Txt K mg A) : FnOk P w K mg base CX0 2 A.f_law_absent A.d_law_absent ["_law_script", "_law_by", "_law_people"] (spLabs K) := by
  have G_law_number := ok_law_number (P := P) (w := w) (base := base) T
  refine T.f_law_absent.ok sc_law_absent (fun vs H Q E h => ?_) (fun cdv A' outer s H vs Q E hr h => ?_)
  · obtain ⟨a, ns, by', n, rfl, _⟩ := h
    rfl
  · obtain ⟨a, ns, by', n, rfl, hS, hlen, hb0, hb1, hn0, hn1, k⟩ := h
    refine ⟨_, (pss_cons (ps_set (i := 3) sc_law_absent.nd rfl (Or.inl rfl) (pe_ifExp (pt_cmpR (op_neDK K hr.units) (pv 0) (@pe_lst _ _ _ _ pa_nil) (nomark _)) (pe_slice (sl_listK K) (pv 0) po_none (po_some pe_int)) (@pe_lst _ _ _ _ (@pa_cons _ _ _ _ _ pe_int pa_nil (by rfl)))))
      (pss_cons (ps_par (i := 6) (j := 7) (by rfl) sc_law_absent.nd rfl rfl (by decide) rfl rfl (@pa_cons _ _ _ _ _ (pe_op op_add (pe_callB (cr_sumK K rfl) (by rfl) T.n_sum (by decide +kernel) (@pa_cons _ _ _ _ _ (pv 3) pa_nil (by rfl))) (pv 1)) (@pa_cons _ _ _ _ _ (@pe_lst _ _ _ _ pa_nil) pa_nil (by rfl)) (by rfl)) (by rfl))
      (pss_cons (ps_set (i := 4) sc_law_absent.nd rfl (Or.inl rfl) (pe_op op_mod (pe_op op_fdiv (pe_call G_law_number (hr.mono (by decide)) (by rfl) T.m_law_number T.k_law_number T.b_law_number .nil pass0 (@pa_cons _ _ _ _ _ (pv 6) (@pa_cons _ _ _ _ _ (pe_op op_add (pv 1) pe_int) (@pa_cons _ _ _ _ _ pe_int pa_nil (by rfl)) (by rfl)) (by rfl))) pe_int) pe_int))
      (pss_cons (ps_for PassesOwn.never rfl (pi_range2 (by rfl) T.n_range (@pa_cons _ _ _ _ _ pe_int (@pa_cons _ _ _ _ _ (pv 2) pa_nil (by rfl)) (by rfl))) (pg_name (i := 5) sc_law_absent.nd rfl (Or.inl rfl)) (pss_cons (ps_set (i := 8) sc_law_absent.nd rfl (Or.inl rfl) (pe_op op_fdiv (pe_call G_law_number (hr.mono (by decide)) (by rfl) T.m_law_number T.k_law_number T.b_law_number .nil pass0 (@pa_cons _ _ _ _ _ (pe_op op_add (pe_ix (ix_listK K) (pv 3) (pe_op op_mod (pe_op op_add (pv 5) (pv 1)) (pe_callB (call_len_seqK K) (by rfl) T.n_len PySem.boot_len (@pa_cons _ _ _ _ _ (pv 3) pa_nil (by rfl)))) (fun _ _ => rfl)) (pe_op op_mulB pe_int (pv 5))) (@pa_cons _ _ _ _ _ (pe_op op_add (pv 5) (pv 1)) (@pa_cons _ _ _ _ _ (pv 6) pa_nil (by rfl)) (by rfl)) (by rfl))) pe_int))
      (pss_one (ps_if (pt_val (pe_ix (ix_tupK K) (@pe_tup _ _ _ _ _ (@pa_cons _ _ _ _ _ pe_bl (@pa_cons _ _ _ _ _ (pe_cmpR op_eq (pe_op op_mod (pv 8) pe_int) pe_int (nomark _)) (@pa_cons _ _ _ _ _ (pe_cmpR op_gt (pe_op op_mod (pv 8) pe_int) pe_int (nomark _)) (@pa_cons _ _ _ _ _ pe_bl pa_nil (by rfl)) (by rfl)) (by rfl)) (by rfl))) (pv 4) (fun _ _ => rfl))) (pss_one (ps_expr (pe_bmK K PySem.F.plainAttrs_list PySem.F.slot_list_append PySem.F.type_list_append mt_append (pv 7) (@pa_cons _ _ _ _ _ (pv 5) pa_nil (by rfl))))) pss_nil))))
      (pss_one (ps_ret (pv 7))))))), ?_⟩
    refine cells_te rfl hS hlen fun cl cs H1 s1 hcn hc1 hc0 hc63 => ?_
    refine ⟨_, rfl, cl, cs, rfl, SqL.of hc1, _, rfl, _, _, rfl, rfl, Nat.zero_le _, fun fb hfb0 => ⟨_, _, rfl, ?_⟩⟩
    have m2 : Same H1 (upd H1 fb (.lst [])) := Same.new hfb0
    have hfb2 : (upd H1 fb (.lst [])) fb = some (.lst ([].map V.int)) := upd_same
    have hfbH : H fb = none := s1.free hfb0
    have ncf : cl ≠ fb := ne_of_none hc1 hfb0
    generalize upd H1 fb (.lst []) = H2 at m2 hfb2
    have s2 := s1.trans m2
    refine ⟨_, rfl, _, rfl, _, _, rfl, rfl, _, _, _, rfl, by omega, by omega, fun r => ⟨_, _, rfl, rfl, ⟨by decide, by decide⟩, _, _, rfl, rfl, (by show (0 : Int) < 4; decide), ?_⟩⟩
    have hk4 : (r / 1800 % 4).toNat = 0 ∨ (r / 1800 % 4).toNat = 1 ∨ (r / 1800 % 4).toNat = 2 ∨ (r / 1800 % 4).toNat = 3 := by omega
    have hk0 : ((r / 1800 % 4).toNat : Int) = r / 1800 % 4 := by omega
    refine ⟨_, rfl, 1, n, rfl, ⟨by decide, by decide, by omega, by omega⟩, ?_⟩
    refine for_range (lo := 1) (n := (n - 1).toNat) (fun i σ H3 => ∃ (x5 x8 : Option V) (as : List Int), σ = [some (.ref a), some (.int by'), some (.int n), some (.ref cl), some (.int (r / 1800 % 4)), x5, some (.int (cs.sum + by')), some (.ref fb), x8] ∧ Same H H3 ∧ H3 cl = some (.lst (cs.map V.int)) ∧ H3 fb = some (.lst (as.map V.int)) ∧ as.length ≤ i ∧ as.Pairwise (· < ·) ∧ ∀ y ∈ as, 0 < y ∧ y < 1 + (i : Int))
      ⟨_, _, [], rfl, s2, m2 _ _ hc1, hfb2, Nat.le_refl _, List.Pairwise.nil, by simp⟩ ?_ ?_
    · rintro i σ H3 hi ⟨x5, x8, as, rfl, s3, hc3, hf3, hal, hasc, hain⟩
      obtain ⟨hcl0, c, hat⟩ := mod_at hc0 (1 + (i : Int) + by')
      refine ⟨_, rfl, _, rfl, _, rfl, _, _, rfl, rfl, _, rfl, cl, _, rfl, .inl (SqL.of hc3), _, _, rfl, rfl, hcl0, cl, cs.map V.int, _, .int c, rfl, rfl, SqL.of hc3, hat, ?_⟩
      refine ⟨_, rfl, _, _, rfl, rfl, mulB (m := 20) (n := 20) (bits_of (by decide)) (bits_of (by omega)) (by decide) (by decide), _, _, rfl, rfl, _, rfl, _, rfl, _, _, rfl, rfl, _, rfl, _, _, _, rfl, by omega, by omega, fun r9 => ?_⟩
      refine ⟨_, _, rfl, rfl, ⟨by decide, by decide⟩, ?_⟩
      refine ⟨_, rfl, _, _, rfl, rfl, (by show (0 : Int) < 5; decide), rfl, _, rfl, _, _, rfl, rfl, (by show (0 : Int) < 4; decide), _, _, rfl, rfl, (by show 4 ≤ sizeLine; decide), fun tp htp => ?_⟩
      obtain ⟨b, hb⟩ : ∃ b, ([V.bl false, V.bl (decide (V.int (r9 / 3 % 5) = V.int 0)), V.bl (decide (0 < r9 / 3 % 4)), V.bl true])[(r / 1800 % 4).toNat]? = some (.bl b) := by
        rcases hk4 with e | e | e | e <;> rw [e]
        · exact ⟨_, rfl⟩
        · exact ⟨_, rfl⟩
        · exact ⟨_, rfl⟩
        · exact ⟨_, rfl⟩
      have m4 := Same.new (o := .tup [V.bl false, V.bl (decide (V.int (r9 / 3 % 5) = V.int 0)), V.bl (decide (0 < r9 / 3 % 4)), V.bl true]) htp
      have htp4 : (upd H3 tp (.tup [V.bl false, V.bl (decide (V.int (r9 / 3 % 5) = V.int 0)), V.bl (decide (0 < r9 / 3 % 4)), V.bl true])) tp = some (.tup [V.bl false, V.bl (decide (V.int (r9 / 3 % 5) = V.int 0)), V.bl (decide (0 < r9 / 3 % 4)), V.bl true]) := upd_same
      generalize upd H3 tp (.tup [V.bl false, V.bl (decide (V.int (r9 / 3 % 5) = V.int 0)), V.bl (decide (0 < r9 / 3 % 4)), V.bl true]) = H4 at m4 htp4
      refine ⟨_, rfl, tp, _, (r / 1800 % 4), .bl b, rfl, rfl, SqT.of htp4, at_of (j := (r / 1800 % 4).toNat) hk0.symm hb, b, rfl, ?_⟩
      have s4 := s3.trans m4
      refine ite2 (fun _ => ?_) (fun _ => ?_)
      · refine ⟨_, rfl, .inl ⟨rfl, _, SqL.of (m4 _ _ hf3)⟩, _, rfl, fb, _, _, rfl, rfl, m4 _ _ hf3, ?_, ?_⟩
        · rw [List.length_map]
          exact small1000 (by omega)
        refine ⟨_, _, as ++ [1 + (i : Int)], rfl, s4.upd hfbH, ?_, ?_, ?_, ?_, fun y hy => ?_⟩
        · rw [upd_ne ncf]
          exact m4 _ _ hc3
        · rw [upd_same, List.map_append]
          rfl
        · rw [List.length_append]
          show as.length + 1 ≤ i + 1
          omega
        · exact List.pairwise_append.mpr ⟨hasc, List.pairwise_singleton _ _, fun u hu v hv => by rw [List.mem_singleton.mp hv]; exact (hain u hu).2⟩
        · rcases List.mem_append.mp hy with h1 | h1
          · have := hain y h1
            omega
          · rw [List.mem_singleton.mp h1]
            omega
      · exact ⟨_, _, as, rfl, s4, m4 _ _ hc3, m4 _ _ hf3, by omega, hasc, fun y hy => by have := hain y hy; omega⟩
    · rintro σ H3 ⟨x5, x8, as, rfl, s3, hc3, hf3, hal, hasc, hain⟩
      exact ⟨_, rfl, k fb as H3 s3 hfbH hf3 ⟨hasc, fun y hy => by have := hain y hy; omega⟩⟩
end
end Toy

set_option Elab.async false
set_option linter.all false
set_option maxRecDepth 100000
set_option maxHeartbeats 4000000
namespace Toy
open PySem L2
def mx (i j : Int) : Int := if j > i then j else i
end Toy

set_option Elab.async false
set_option linter.all false
set_option maxRecDepth 100000
set_option maxHeartbeats 4000000
namespace Toy
open PySem L2
def rch (os : List (List Int)) : Nat → List Int
  | 0 => [0]
  | k + 1 => 0 :: (rch os k).flatMap (ch os)
def goodB (os : List (List Int)) : Bool := decide (1 ≤ os.length) && decide (os.length ≤ 40) && os.flatten.all (fun x => decide (0 < x) && decide (x < os.length)) && decide os.flatten.Nodup && (List.range os.length).all fun x => (rch os os.length).contains (x : Int)
theorem rch_in {os : List (List Int)} {S : Int → Prop} (hr : ∀ x ∈ os.flatten, 0 < x) (h0 : S 0) (hS : ∀ (p : Nat) (row : List Int), os[p]? = some row → S p → ∀ x ∈ row, S x) : ∀ k, ∀ x ∈ rch os k, 0 ≤ x ∧ S x
  | 0, x, hx => by
    rw [List.mem_singleton.mp hx]
    exact ⟨Int.le_refl 0, h0⟩
  | k + 1, x, hx => by
    rcases List.mem_cons.mp hx with e | h
    · rw [e]
      exact ⟨Int.le_refl 0, h0⟩
    · obtain ⟨y, hy, hxy⟩ := List.mem_flatMap.mp h
      obtain ⟨y0, sy⟩ := rch_in hr h0 hS k y hy
      unfold ch at hxy
      rw [List.getD_eq_getElem?_getD] at hxy
      cases hq : os[y.toNat]? with
      | none =>
        rw [hq] at hxy
        cases hxy
      | some row =>
        rw [hq] at hxy
        have hxy : x ∈ row := hxy
        refine ⟨Int.le_of_lt (hr x (flat_mem hq hxy)), hS y.toNat row hq ?_ x hxy⟩
        rw [Int.toNat_of_nonneg y0]
        exact sy
theorem good_of {os : List (List Int)} (h : goodB os = true) : GoodO os := by
  unfold goodB at h
  simp only [Bool.and_eq_true, decide_eq_true_eq, List.all_eq_true, List.contains_iff_mem] at h
  obtain ⟨⟨⟨⟨h1, h2⟩, h3⟩, h4⟩, h5⟩ := h
  refine ⟨h1, h2, h3, h4, fun S s0 hS x x0 x1 => ?_⟩
  have := h5 x.toNat (List.mem_range.mpr (by omega))
  rw [Int.toNat_of_nonneg x0] at this
  exact (rch_in (fun y hy => (h3 y hy).1) s0 hS _ x this).2
theorem cut_take {xs : List V} {k : Int} (h : 0 ≤ k) : cutV xs none (some k) = xs.take k.toNat := by
  unfold cutV
  rw [HT.sIx_none, List.drop_zero, Nat.sub_zero]
  have := HT.sIx_nat xs.length xs.length k.toNat
  rw [Int.toNat_of_nonneg h] at this
  rw [this]
  by_cases hk : k.toNat ≤ xs.length
  · rw [Nat.min_eq_left hk]
  · rw [Nat.min_eq_right (by omega), List.take_of_length_le (Nat.le_refl _), List.take_of_length_le (by omega)]
theorem cut_mem {xs : List V} {lo hi : Option Int} {v : V} (h : v ∈ cutV xs lo hi) : v ∈ xs := List.mem_of_mem_drop (List.mem_of_mem_take h)
theorem toNone {σ : St} {H : Hp} (R : Option Int → Hp → Prop) (h : ∀ z, R z H) : tNoPart σ H R := h _
theorem toInt {σ : St} {H : Hp} {i : Int} (R : Option Int → Hp → Prop) (h : ∀ z, R z H) : tPart (tC (.int i)) σ H R := ⟨i, rfl, h _⟩
def AL (H : Hp) (vs : List V) (n : Int) : Prop := ∀ v ∈ vs, ∃ (a : Addr) (as : List Int), v = .ref a ∧ H a = some (.lst (as.map V.int)) ∧ Abs as n
theorem AL.mono {H H' : Hp} {vs : List V} {n : Int} (h : AL H vs n) (s : Same H H') : AL H' vs n := fun v hv => let ⟨a, as, e, h1, h2⟩ := h v hv; ⟨a, as, e, s _ _ h1, h2⟩
theorem LL.dp {K : PySem.W.Frag} {H : Hp} {a : Addr} {rs : List Addr} {os : List (List Int)} (h : LL H rs os) (ha : H a = some (.lst (rs.map V.ref))) : Dp K H (.ref a) (rowsD os) := dp_rows ha h.ol
end Toy

set_option Elab.async false
set_option linter.all false
set_option maxRecDepth 100000
set_option maxHeartbeats 1000000
namespace Toy
open PySem L2
abbrev Pr := Int × Int
def prD (p : Pr) : PyData := .tuple [.int p.1, .int p.2]
theorem Enc.pr : Enc prD 1 := by
  refine ⟨fun x y => ?_, fun x => by simp [prD, PyData.canLay0, PyData.canLayAll0], fun x => by simp [prD, PyData.depth, PyData.depthAll]⟩
  obtain ⟨a, b⟩ := x
  obtain ⟨a', b'⟩ := y
  simp only [prD, PyData.eqv, PyData.eqvAll]
  exact Bool.eq_iff_iff.mpr (by simp)
structure PR (H : Hp) (us : List Addr) (ps : List Pr) : Prop where
  len : us.length = ps.length
  at' : ∀ (i : Nat) (u : Addr) (p : Pr), us[i]? = some u → ps[i]? = some p → H u = some (.tup [.int p.1, .int p.2])
theorem PR.mono {H H' : Hp} {us : List Addr} {ps : List Pr} (h : PR H us ps) (s : Same H H') : PR H' us ps := ⟨h.len, fun i u p a b => s _ _ (h.at' i u p a b)⟩
theorem PR.nil {H : Hp} : PR H [] [] := ⟨rfl, fun i u p h _ => by simp at h⟩
theorem PR.snoc {H : Hp} {us : List Addr} {ps : List Pr} {u : Addr} {p : Pr} (h : PR H us ps) (hu : H u = some (.tup [.int p.1, .int p.2])) : PR H (us ++ [u]) (ps ++ [p]) := by
  refine ⟨by rw [List.length_append, List.length_append, h.len]; rfl, fun i x r hp hr => ?_⟩
  by_cases hpi : i < us.length
  · rw [List.getElem?_append_left hpi] at hp
    rw [List.getElem?_append_left (by rw [← h.len]; exact hpi)] at hr
    exact h.at' i x r hp hr
  · rw [List.getElem?_append_right (by omega)] at hp
    rw [List.getElem?_append_right (by rw [← h.len]; omega), ← h.len] at hr
    have e0 : i - us.length = 0 := by
      have := (List.getElem?_eq_some_iff.mp hp).1
      simp at this
      omega
    rw [e0] at hp hr
    have e1 : u = x := by simpa using hp
    have e2 : p = r := by simpa using hr
    subst e1 e2
    exact hu
theorem PR.updL {H : Hp} {us : List Addr} {ps : List Pr} {a : Addr} {xs : List V} {o : HO} (h : PR H us ps) (ha : H a = some (.lst xs)) : PR (L2.upd H a o) us ps :=
  ⟨h.len, fun i u p hu hp => by rw [upd_ne (fun z => by have := h.at' i u p hu hp; rw [z, ha] at this; cases this)]; exact h.at' i u p hu hp⟩
theorem dp_pr {K : PySem.W.Frag} {H : Hp} {u : Addr} {p : Pr} (h : H u = some (.tup [.int p.1, .int p.2])) : Dp K H (.ref u) (prD p) := .tup (SqT.of h) (.cons (.int _) (.cons (.int _) .nil))
def unl : List Pr → List Pr → Option Nat
  | [], [] => none
  | [], _ :: _ => some 0
  | _ :: _, [] => some 0
  | p :: ps, q :: qs => if p = q then (unl ps qs).map (· + 1) else some 0
theorem unl_step {ps qs : List Pr} {i : Nat} {p q : Pr} (hp : ps[i]? = some p) (hq : qs[i]? = some q) : unl (ps.drop i) (qs.drop i) = if p = q then (unl (ps.drop (i + 1)) (qs.drop (i + 1))).map (· + 1) else some 0 := by
  obtain ⟨h1, e1⟩ := List.getElem?_eq_some_iff.mp hp
  obtain ⟨h2, e2⟩ := List.getElem?_eq_some_iff.mp hq
  rw [List.drop_eq_getElem_cons h1, List.drop_eq_getElem_cons h2, e1, e2]
  rfl
theorem unl_end {ps qs : List Pr} {i : Nat} (h : i = min ps.length qs.length) : unl (ps.drop i) (qs.drop i) = if ps.length = qs.length then none else some 0 := by
  by_cases e : ps.length = qs.length
  · rw [if_pos e, List.drop_of_length_le (by omega), List.drop_of_length_le (by omega)]
    rfl
  · rw [if_neg e]
    by_cases l : ps.length < qs.length
    · rw [List.drop_of_length_le (show ps.length ≤ i by omega), List.drop_eq_getElem_cons (show i < qs.length by omega)]
      rfl
    · rw [List.drop_of_length_le (show qs.length ≤ i by omega), List.drop_eq_getElem_cons (show i < ps.length by omega)]
      rfl
theorem unl_none : ∀ {ps qs : List Pr}, unl ps qs = none → ps = qs
  | [], [], _ => rfl
  | [], _ :: _, h => by cases h
  | _ :: _, [], h => by cases h
  | p :: ps, q :: qs, h => by
    have h : (if p = q then (unl ps qs).map (· + 1) else some 0) = none := h
    by_cases e : p = q
    · rw [if_pos e] at h
      rw [e, unl_none (Option.map_eq_none_iff.mp h)]
    · rw [if_neg e] at h
      cases h
section
variable {P : Program} {w : World} {K : PySem.W.Frag} {mg : Str → Option Value} {base : Heap} {A : Adr}
def spUnl : Sp := fun vs H Q _ => ∃ (a b : Addr) (us ws : List Addr) (ps qs : List Pr), vs = [.ref a, .ref b] ∧ H a = some (.lst (us.map V.ref)) ∧ PR H us ps ∧ H b = some (.lst (ws.map V.ref)) ∧ PR H ws qs ∧
  (unl ps qs = none → ∀ H', Same H H' → Q .non H') ∧ ∀ k : Nat, unl ps qs = some k → ∀ H', Same H H' → Q (.int k) H'
theorem sc_first_unlike : FnScope ["ones", "others", "at", "one", "other"] ["ones", "others"] (defScope s_first_unlike) := ⟨rfl, rfl, rfl, by decide +kernel, rfl, by decide +kernel, by decide +kernel⟩
theorem ok_first_unlike (T : Txt K mg A) : FnOk P w K mg base CX0 1 A.f_first_unlike A.d_first_unlike ["ones", "others"] spUnl := by
  refine T.f_first_unlike.ok sc_first_unlike (fun vs H Q E h => ?_) (fun cdv A' outer s H vs Q E hr h => ?_)
  · obtain ⟨a, b, us, ws, ps, qs, rfl, _⟩ := h
    rfl
  · obtain ⟨a, b, us, ws, ps, qs, rfl, ha, hps, hb, hqs, kn, ks⟩ := h
    have l1 := hps.len
    have l2 := hqs.len
    refine ⟨_, (pss_cons (ps_for PassesOwn.never rfl (pi_enumZip K (by rfl) T.n_enumerate (by rfl) T.n_zip (@pa_cons _ _ _ _ _ (pv 0) (@pa_cons _ _ _ _ _ (pv 1) pa_nil (by rfl)) (by rfl))) (pg_tupK K (n := 2) (by rfl) (pgs_cons (pg_name (i := 2) sc_first_unlike.nd rfl (Or.inl rfl)) (pgs_cons (pg_tupK K (n := 2) (by rfl) (pgs_cons (pg_name (i := 3) sc_first_unlike.nd rfl (Or.inl rfl)) (pgs_cons (pg_name (i := 4) sc_first_unlike.nd rfl (Or.inl rfl)) pgs_nil))) pgs_nil))) (pss_one (ps_if (pt_cmpR (op_neDK K hr.units) (pv 3) (pv 4) (nomark _)) (pss_one (ps_ret (pv 2))) pss_nil)))
      (pss_one (ps_ret (pe_ifExp (pt_cmpR op_eq (pe_callB (call_len_seqK K) (by rfl) T.n_len PySem.boot_len (@pa_cons _ _ _ _ _ (pv 0) pa_nil (by rfl))) (pe_callB (call_len_seqK K) (by rfl) T.n_len PySem.boot_len (@pa_cons _ _ _ _ _ (pv 1) pa_nil (by rfl))) (nomark _)) pe_non (pe_callB (call_min2 rfl) (by rfl) T.n_min (by decide +kernel) (@pa_cons _ _ _ _ _ (pe_callB (call_len_seqK K) (by rfl) T.n_len PySem.boot_len (@pa_cons _ _ _ _ _ (pv 0) pa_nil (by rfl))) (@pa_cons _ _ _ _ _ (pe_callB (call_len_seqK K) (by rfl) T.n_len PySem.boot_len (@pa_cons _ _ _ _ _ (pv 1) pa_nil (by rfl))) pa_nil (by rfl)) (by rfl))))))), ?_⟩
    refine ⟨_, rfl, _, rfl, a, b, _, _, rfl, SqL.of ha, SqL.of hb, for_ez (K := K) (a := a) (b := b) (xs := us.map V.ref) (ys := ws.map V.ref)
      (fun i σ H2 => ∃ x2 x3 x4, σ = [some (.ref a), some (.ref b), x2, x3, x4] ∧ Same H H2 ∧ unl ps qs = (unl (ps.drop i) (qs.drop i)).map (· + i))
      ⟨none, none, none, rfl, Same.refl H, by simp⟩ (fun i σ H2 _ ⟨_, _, _, _, s2, _⟩ => ⟨SqL.of (s2 _ _ ha), SqL.of (s2 _ _ hb)⟩) ?_ ?_⟩
    · rintro i x y T1 T2 σ H2 hx hy ⟨x2, x3, x4, rfl, s2, hu⟩ f2 f1 n
      obtain ⟨u, hu1, rfl⟩ := ref_get hx
      obtain ⟨v, hv1, rfl⟩ := ref_get hy
      obtain ⟨p, hp⟩ : ∃ p, ps[i]? = some p := ⟨_, List.getElem?_eq_getElem (by rw [← l1]; exact (List.getElem?_eq_some_iff.mp hu1).1)⟩
      obtain ⟨q, hq⟩ : ∃ q, qs[i]? = some q := ⟨_, List.getElem?_eq_getElem (by rw [← l2]; exact (List.getElem?_eq_some_iff.mp hv1).1)⟩
      have m3 : Same H2 (upd (upd H2 T2 (.tup [.ref u, .ref v])) T1 (.tup [.int (i : Nat), .ref T2])) := (Same.new f2).upd f1
      have h1 : (upd (upd H2 T2 (.tup [.ref u, .ref v])) T1 (.tup [.int (i : Nat), .ref T2])) T1 = some (.tup [.int (i : Nat), .ref T2]) := upd_same
      have h2 : (upd (upd H2 T2 (.tup [.ref u, .ref v])) T1 (.tup [.int (i : Nat), .ref T2])) T2 = some (.tup [.ref u, .ref v]) := by rw [upd_ne (Ne.symm n), upd_same]
      generalize upd (upd H2 T2 (.tup [.ref u, .ref v])) T1 (.tup [.int (i : Nat), .ref T2]) = H3 at m3 h1 h2
      have s3 := s2.trans m3
      refine ⟨T1, _, rfl, SqT.of h1, rfl, _, _, rfl, _, _, rfl, T2, _, rfl, SqT.of h2, rfl, _, _, rfl, _, _, rfl, rfl, rfl, ?_⟩
      refine ⟨_, rfl, _, rfl, _, _, dp_pr (s3 _ _ (hps.at' i u p hu1 hp)), dp_pr (s3 _ _ (hqs.at' i v q hv1 hq)), Enc.pr.shaped (by decide) p, Enc.pr.shaped (by decide) q, _, rfl, ?_⟩
      rw [unl_step hp hq] at hu
      rw [Enc.pr.eq]
      by_cases e : p = q
      · rw [decide_eq_true e]
        rw [if_pos e] at hu
        refine iteF ⟨_, _, _, rfl, s3, ?_⟩
        rw [hu, Option.map_map]
        congr 1
        funext z
        show z + 1 + i = z + (i + 1)
        omega
      · rw [decide_eq_false e]
        rw [if_neg e] at hu
        have hu : unl ps qs = some (0 + i) := hu
        rw [Nat.zero_add] at hu
        exact iteT ⟨_, rfl, ks i hu H3 s3⟩
    · rintro σ H2 ⟨x2, x3, x4, rfl, s2, hu⟩
      rw [List.length_map, List.length_map, l1, l2] at hu
      rw [unl_end rfl] at hu
      refine ⟨_, rfl, a, _, rfl, .inl (SqL.of (s2 _ _ ha)), _, rfl, b, _, rfl, .inl (SqL.of (s2 _ _ hb)), rfl, _, rfl, ?_⟩
      rw [List.length_map, List.length_map, l1, l2]
      by_cases e : ps.length = qs.length
      · rw [if_pos e] at hu
        rw [decide_eq_true (by rw [e])]
        exact iteT (kn hu H2 s2)
      · rw [if_neg e] at hu
        have hu : unl ps qs = some (0 + min ps.length qs.length) := hu
        rw [Nat.zero_add] at hu
        rw [decide_eq_false (fun z => e (by injection z with z; omega))]
        refine iteF ⟨_, rfl, a, _, rfl, .inl (SqL.of (s2 _ _ ha)), _, rfl, b, _, rfl, .inl (SqL.of (s2 _ _ hb)), _, _, rfl, ?_⟩
        rw [List.length_map, List.length_map, l1, l2]
        have em : (if (qs.length : Int) < (ps.length : Int) then (qs.length : Int) else (ps.length : Int)) = ((min ps.length qs.length : Nat) : Int) := by
          split <;> omega
        have := ks _ hu H2 s2
        rw [← em] at this
        exact this
end
end Toy

set_option Elab.async false
set_option linter.all false
set_option maxRecDepth 100000
set_option maxHeartbeats 1000000
namespace Toy
open PySem L2
def hdR (rows : Rws) (c : Int) : Int := match rows.getD c.toNat none with
  | some (y :: _) => y
  | _ => 0
def dueM (rows : Rws) : List Pr := (idxs hasC rows).map fun c => (c, hdR rows c)
def absOf (cs : List Call) : List Int := (cs.filter fun q => !q.2.2).map (·.2.1)
def prOf (q : Call) : Pr := (q.1, q.2.1)
def fwM (os : List (List Int)) : Rws → Nat → List (List Call) → Option (Nat × Nat)
  | rows, t, [] => if idxs hasC rows = [] then none else some (t, 0)
  | rows, t, cs :: css => if idxs hasC rows = [] then some (t, 0) else match unl (dueM rows) (cs.map prOf) with
    | some k => some (t, k)
    | none => fwM os (nextM os rows (absOf cs)).2 (t + 1) css
structure CS (H : Hp) (ts : List Addr) (css : List (List Call)) : Prop where
  len : ts.length = css.length
  at' : ∀ (i : Nat) (t : Addr) (cs : List Call), ts[i]? = some t → css[i]? = some cs → ∃ us : List Addr, H t = some (.lst (us.map V.ref)) ∧ CL H us cs
theorem CS.mono {H H' : Hp} {ts : List Addr} {css : List (List Call)} (h : CS H ts css) (s : Same H H') : CS H' ts css :=
  ⟨h.len, fun i t cs a b => let ⟨us, p, q⟩ := h.at' i t cs a b; ⟨us, s _ _ p, q.mono s⟩⟩
theorem due_at {rows : Rws} {j : Nat} {c : Int} (h : (idxs hasC rows)[j]? = some c) : ∃ (p : Nat) (y : Int) (rest : List Int), c = p ∧ rows[p]? = some (some (y :: rest)) ∧ (dueM rows)[j]? = some ((p : Int), y) := by
  obtain ⟨p, row, rfl, h1, h2⟩ := idxs_mem.mp (List.mem_of_getElem? h)
  obtain ⟨y, rest, rfl⟩ := hasC_cons h2
  refine ⟨p, y, rest, rfl, h1, ?_⟩
  unfold dueM
  rw [List.getElem?_map, h]
  show some ((p : Int), hdR rows p) = _
  unfold hdR
  rw [Int.toNat_natCast, List.getD_eq_getElem?_getD, h1]
  rfl
theorem due_len (rows : Rws) : (dueM rows).length = (idxs hasC rows).length := List.length_map ..
section
variable {P : Program} {w : World} {K : PySem.W.Frag} {mg : Str → Option Value} {base : Heap} {A : Adr}
def spFW : Sp := fun vs H Q _ => ∃ (o cl : Addr) (xs : List V) (os : List (List Int)) (ts : List Addr) (css : List (List Call)), vs = [.ref o, .ref cl] ∧ H o = some (.lst xs) ∧ OL H xs os ∧ GoodO os ∧ H cl = some (.lst (ts.map V.ref)) ∧ CS H ts css ∧ css.length ≤ 900 ∧ (∀ cs ∈ css, cs.length ≤ 900) ∧
  (fwM os (firstM os) 0 css = none → ∀ H', Same H H' → Q .non H') ∧ ∀ t k : Nat, fwM os (firstM os) 0 css = some (t, k) → ∀ (tp : Addr) (H' : Hp), Same H H' → H' tp = some (.tup [.int t, .int k]) → Q (.ref tp) H'
theorem sc_first_wrong : FnScope ["orders", "calls", "rows", "turn", "told", "due", "spot", "caller", "called", "there"] ["orders", "calls"] (defScope s_first_wrong) := ⟨rfl, rfl, rfl, by decide +kernel, rfl, by decide +kernel, by decide +kernel⟩
theorem ok_first_wrong (T : Txt K mg A) : FnOk P w K mg base CX0 3 A.f_first_wrong A.d_first_wrong ["orders", "calls"] spFW := by
  have G_first_rows := ok_first_rows (P := P) (w := w) (base := base) T
  have G_callers := ok_callers (P := P) (w := w) (base := base) T
  have G_first_unlike := ok_first_unlike (P := P) (w := w) (base := base) T
  have G_next_round := ok_next_round (P := P) (w := w) (base := base) T
  refine T.f_first_wrong.ok sc_first_wrong (fun vs H Q E h => ?_) (fun cdv A' outer s H vs Q E hr h => ?_)
  · obtain ⟨o, cl, xs, os, ts, css, rfl, _⟩ := h
    rfl
  · obtain ⟨o, cl, xs, os, ts, css, rfl, ho, hO, g, hcl, hCS, hcl9, hcs9, kn, ks⟩ := h
    have n40 := g.n40
    refine ⟨_, (pss_cons (ps_set (i := 2) sc_first_wrong.nd rfl (Or.inr rfl) (pe_call G_first_rows (hr.mono (by decide)) (by rfl) T.m_first_rows T.k_first_rows T.b_first_rows .nil pass0 (@pa_cons _ _ _ _ _ (pv 0) pa_nil (by rfl))))
      (pss_cons (ps_for PassesOwn.never rfl (pi_enumK K (by rfl) T.n_enumerate (@pa_cons _ _ _ _ _ (pv 1) pa_nil (by rfl))) (pg_tupK K (n := 2) (by rfl) (pgs_cons (pg_name (i := 3) sc_first_wrong.nd rfl (Or.inl rfl)) (pgs_cons (pg_name (i := 4) sc_first_wrong.nd rfl (Or.inl rfl)) pgs_nil))) (pss_cons (ps_setLc (i := 5) (own := [("caller", 7)]) rfl sc_first_wrong.nd rfl rfl (sw_true rfl rfl rfl (by decide +kernel)) (pi_listK K (pe_call G_callers (hr.mono (by decide)) (by rfl) T.m_callers T.k_callers T.b_callers .nil pass0 (@pa_cons _ _ _ _ _ (pv 2) pa_nil (by rfl)))) (blkOk_by (own := [("caller", 7)]) (by kernel_rfl)) (fun _ _ _ _ _ => (pg_name (i := 7) sc_first_wrong.nd rfl (Or.inl rfl))) (fun _ _ _ _ _ => pts_nil) (fun _ _ _ _ _ => (@pe_tup _ _ _ _ _ (@pa_cons _ _ _ _ _ (pv 7) (@pa_cons _ _ _ _ _ (pe_ix (ix_listK K) (pe_ix (ix_listK K) (pv 2) (pv 7) (fun _ _ => rfl)) pe_int (fun _ _ => rfl)) pa_nil (by rfl)) (by rfl)))))
      (pss_cons (ps_if (pt_not (pt_truth (pv 5) (fun _ => rfl))) (pss_one (ps_ret (@pe_tup _ _ _ _ _ (@pa_cons _ _ _ _ _ (pv 3) (@pa_cons _ _ _ _ _ pe_int pa_nil (by rfl)) (by rfl))))) pss_nil)
      (pss_cons (ps_set (i := 6) sc_first_wrong.nd rfl (Or.inl rfl) (pe_call G_first_unlike (hr.mono (by decide)) (by rfl) T.m_first_unlike T.k_first_unlike T.b_first_unlike .nil pass0 (@pa_cons _ _ _ _ _ (pv 5) (@pa_cons _ _ _ _ _ (pe_lc (own := [("caller", 7), ("called", 8), ("there", 9)]) rfl sc_first_wrong.nd (pi_listK K (pv 4)) (blkOk_by (own := [("caller", 7), ("called", 8), ("there", 9)]) (by kernel_rfl)) (fun _ _ _ _ _ => (pg_tupK K (n := 3) (by rfl) (pgs_cons (pg_name (i := 7) sc_first_wrong.nd rfl (Or.inl rfl)) (pgs_cons (pg_name (i := 8) sc_first_wrong.nd rfl (Or.inl rfl)) (pgs_cons (pg_name (i := 9) sc_first_wrong.nd rfl (Or.inl rfl)) pgs_nil))))) (fun _ _ _ _ _ => pts_nil) (fun _ _ _ _ _ => (@pe_tup _ _ _ _ _ (@pa_cons _ _ _ _ _ (pv 7) (@pa_cons _ _ _ _ _ (pv 8) pa_nil (by rfl)) (by rfl))))) pa_nil (by rfl)) (by rfl))))
      (pss_cons (ps_if (pt_cmpR op_notN (pv 6) pe_non (nomark _)) (pss_one (ps_ret (@pe_tup _ _ _ _ _ (@pa_cons _ _ _ _ _ (pv 3) (@pa_cons _ _ _ _ _ (pv 6) pa_nil (by rfl)) (by rfl))))) pss_nil)
      (pss_one (ps_set (i := 2) sc_first_wrong.nd rfl (Or.inr rfl) (pe_ix (ix_tupK K) (pe_call G_next_round (hr.mono (by decide)) (by rfl) T.m_next_round T.k_next_round T.b_next_round .nil pass0 (@pa_cons _ _ _ _ _ (pv 0) (@pa_cons _ _ _ _ _ (pv 2) (@pa_cons _ _ _ _ _ (pe_lc (own := [("caller", 7), ("called", 8), ("there", 9)]) rfl sc_first_wrong.nd (pi_listK K (pv 4)) (blkOk_by (own := [("caller", 7), ("called", 8), ("there", 9)]) (by kernel_rfl)) (fun _ _ _ _ _ => (pg_tupK K (n := 3) (by rfl) (pgs_cons (pg_name (i := 7) sc_first_wrong.nd rfl (Or.inl rfl)) (pgs_cons (pg_name (i := 8) sc_first_wrong.nd rfl (Or.inl rfl)) (pgs_cons (pg_name (i := 9) sc_first_wrong.nd rfl (Or.inl rfl)) pgs_nil))))) (fun _ _ _ _ _ => (pts_one (pt_not (pt_val (pv 9))))) (fun _ _ _ _ _ => (pv 8))) pa_nil (by rfl)) (by rfl)) (by rfl))) pe_int (fun _ _ => rfl)))))))))
      (pss_one (ps_ret (pe_ifExp (pt_truth (pe_call G_callers (hr.mono (by decide)) (by rfl) T.m_callers T.k_callers T.b_callers .nil pass0 (@pa_cons _ _ _ _ _ (pv 2) pa_nil (by rfl))) (fun _ => rfl)) (@pe_tup _ _ _ _ _ (@pa_cons _ _ _ _ _ (pe_callB (call_len_seqK K) (by rfl) T.n_len PySem.boot_len (@pa_cons _ _ _ _ _ (pv 1) pa_nil (by rfl))) (@pa_cons _ _ _ _ _ pe_int pa_nil (by rfl)) (by rfl))) pe_non))))), ?_⟩
    refine ⟨_, rfl, o, xs, os, rfl, ho, hO, g, fun rr ys H1 s1 _ hrr hR hyn => ?_⟩
    refine ⟨_, rfl, cl, _, rfl, SqL.of (s1 _ _ hcl), for_enum0 (K := K) (a := cl) (xs := ts.map V.ref)
      (fun i σ H2 => ∃ (x3 x4 x5 x6 : Option V) (rr : Addr) (ys : List V) (rows : Rws), σ = [some (.ref o), some (.ref cl), some (.ref rr), x3, x4, x5, x6, none, none, none] ∧ Same H H2 ∧ H2 rr = some (.lst ys) ∧ RL H2 ys rows ∧ WInv os rows ∧ fwM os (firstM os) 0 css = fwM os rows i (css.drop i))
      ⟨none, none, none, none, rr, ys, firstM os, rfl, s1, hrr, hR, WInv.first g, rfl⟩ (fun i σ H2 _ ⟨_, _, _, _, _, _, _, _, s2, _⟩ => SqL.of (s2 _ _ hcl)) ?_ ?_⟩
    · clear hyn hR hrr s1
      rintro i x TT σ H2 hx ⟨x3, x4, x5, x6, rr, ys, rows, rfl, s2, hrr, hR, hW, hfw⟩ hTT
      obtain ⟨t, ht, rfl⟩ := ref_get hx
      obtain ⟨cs, hcs⟩ : ∃ cs, css[i]? = some cs := ⟨_, List.getElem?_eq_getElem (by rw [← hCS.len]; exact (List.getElem?_eq_some_iff.mp ht).1)⟩
      obtain ⟨us, htus, hC⟩ := hCS.at' i t cs ht hcs
      have hcl' := hcs9 cs (List.mem_of_getElem? hcs)
      have hdr : css.drop i = cs :: css.drop (i + 1) := by
        obtain ⟨hl, e⟩ := List.getElem?_eq_some_iff.mp hcs
        rw [List.drop_eq_getElem_cons hl, e]
      rw [hdr] at hfw
      have hin := hW.rowsIn g
      have hrl := hin.len
      have m3 : Same H2 (upd H2 TT (.tup [.int (i : Nat), .ref t])) := Same.new hTT
      have hTT3 : (upd H2 TT (.tup [.int (i : Nat), .ref t])) TT = some (.tup [.int (i : Nat), .ref t]) := upd_same
      generalize upd H2 TT (.tup [.int (i : Nat), .ref t]) = H3 at m3 hTT3
      refine ⟨TT, _, rfl, SqT.of hTT3, rfl, _, _, rfl, _, _, rfl, rfl, ?_⟩
      have s3 := s2.trans m3
      have hrr3 := m3 _ _ hrr
      have hR3 := hR.mono m3
      refine ⟨_, rfl, rr, ys, rows, rfl, hrr3, hR3, by omega, fun cb H4 s4 _ hcb => ⟨cb, rfl, ⟨_, SqL.of hcb⟩, fun D hD => ?_⟩⟩
      have hil := idxs_len hasC rows
      refine lc_list (K := K) (a := cb) (xs := (idxs hasC rows).map V.int) (fun j H5 => Same H4 H5 ∧ ∃ qs : List Addr, H5 D = some (.lst (qs.map V.ref)) ∧ PR H5 qs ((dueM rows).take j)) ⟨Same.new hD, [], upd_same, by simpa using PR.nil⟩ (fun j H5 _ ⟨s5, _⟩ => SqL.of (s5 _ _ hcb)) ?_ ?_
      · rintro j x H5 hj ⟨s5, qs, hD5, hP5⟩
        obtain ⟨c, hc, rfl⟩ := map_int_get hj
        have hjl := (List.getElem?_eq_some_iff.mp hc).1
        obtain ⟨p, y, rest, rfl, hrp, hdue⟩ := due_at hc
        have s45 := s4.trans s5
        have hpl := (List.getElem?_eq_some_iff.mp hrp).1
        obtain ⟨v, hv⟩ : ∃ v, ys[p]? = some v := ⟨_, List.getElem?_eq_getElem (by rw [hR3.len]; exact hpl)⟩
        obtain ⟨rp, rfl, hrpH⟩ := hR3.at' p v _ hv hrp
        refine ⟨rfl, yesT ⟨_, rfl, _, rfl, _, rfl, rr, _, _, .ref rp, rfl, rfl, SqL.of (s45 _ _ hrr3), at_of (j := p) rfl hv, rp, _, _, .int y, rfl, rfl, SqL.of (s45 _ _ hrpH), at_of (j := 0) rfl rfl, (by show 2 ≤ sizeLine; decide), fun q hq => ?_⟩⟩
        have m6 : Same H5 (upd H5 q (.tup [.int (p : Int), .int y])) := Same.new hq
        have hq6 : (upd H5 q (.tup [.int (p : Int), .int y])) q = some (.tup [.int (p : Int), .int y]) := upd_same
        generalize upd H5 q (.tup [.int (p : Int), .int y]) = H6 at m6 hq6
        have hql : qs.length ≤ 40 := by
          rw [hP5.len, List.length_take, due_len]
          omega
        refine ⟨qs.map V.ref, m6 _ _ hD5, ?_, (s5.trans m6).upd hD, qs ++ [q], ?_, ?_⟩
        · rw [List.length_map]
          exact small1000 (by omega)
        · rw [upd_same, List.map_append]
          rfl
        · rw [take_snoc hdue]
          exact ((hP5.mono m6).snoc hq6).updL (m6 _ _ hD5)
      · rintro H5 ⟨s5, qs, hD5, hP5⟩
        rw [List.length_map, ← due_len, List.take_length] at hP5
        have s35 := s4.trans s5
        have s05 := s3.trans s35
        refine ⟨_, rfl, _, .inl ⟨_, SqL.of hD5, rfl⟩, ?_⟩
        cases hq : idxs hasC rows with
        | nil =>
          have e0 : qs = [] := by
            have := hP5.len
            rw [due_len, hq] at this
            exact List.length_eq_zero_iff.mp this
          subst e0
          refine iteT ⟨_, rfl, (by show 2 ≤ sizeLine; decide), fun tp htp => ?_⟩
          have e : fwM os (firstM os) 0 css = some (i, 0) := by
            rw [hfw]
            show (if idxs hasC rows = [] then _ else _) = _
            rw [if_pos hq]
          exact ks i 0 e tp _ (s05.trans (Same.new htp)) upd_same
        | cons c0 cr =>
          have hne : ¬ idxs hasC rows = [] := by rw [hq]; simp
          have e0 : (qs.map V.ref).isEmpty = false := by
            have := hP5.len
            rw [due_len, hq] at this
            cases qs with
            | nil => cases this
            | cons _ _ => rfl
          have hfw : fwM os (firstM os) 0 css = match unl (dueM rows) (cs.map prOf) with
              | some k => some (i, k)
              | none => fwM os (nextM os rows (absOf cs)).2 (i + 1) (css.drop (i + 1)) := by
            rw [hfw]
            show (if idxs hasC rows = [] then _ else _) = _
            rw [if_neg hne]
          rw [e0]
          refine iteF ?_
          have htu5 := s05 _ _ htus
          have hC5 := hC.mono s05
          refine ⟨_, rfl, _, rfl, t, rfl, ⟨_, SqL.of htu5⟩, fun D2 hD2 => ?_⟩
          refine lc_list (K := K) (a := t) (xs := us.map V.ref) (fun j H6 => Same H5 H6 ∧ ∃ ws : List Addr, H6 D2 = some (.lst (ws.map V.ref)) ∧ PR H6 ws ((cs.take j).map prOf)) ⟨Same.new hD2, [], upd_same, by simpa using PR.nil⟩ (fun j H6 _ ⟨s6, _⟩ => SqL.of (s6 _ _ htu5)) ?_ ?_
          · rintro j x H6 hj ⟨s6, ws, hD6, hP6⟩
            obtain ⟨u, hu, rfl⟩ := ref_get hj
            obtain ⟨q, hq'⟩ : ∃ q, cs[j]? = some q := ⟨_, List.getElem?_eq_getElem (by rw [← hC.len]; exact (List.getElem?_eq_some_iff.mp hu).1)⟩
            have huu := s6 _ _ (hC5.at' j u q hu hq')
            have hwl : ws.length ≤ 900 := by
              rw [hP6.len, List.length_map, List.length_take]
              omega
            refine ⟨u, _, rfl, SqT.of huu, rfl, _, _, rfl, _, _, rfl, _, _, rfl, rfl, rfl, yesT ⟨_, rfl, _, rfl, (by show 2 ≤ sizeLine; decide), fun z hz => ?_⟩⟩
            have m7 : Same H6 (upd H6 z (.tup [.int q.1, .int q.2.1])) := Same.new hz
            have hz7 : (upd H6 z (.tup [.int q.1, .int q.2.1])) z = some (.tup [.int q.1, .int q.2.1]) := upd_same
            generalize upd H6 z (.tup [.int q.1, .int q.2.1]) = H7 at m7 hz7
            refine ⟨ws.map V.ref, m7 _ _ hD6, ?_, (s6.trans m7).upd hD2, ws ++ [z], ?_, ?_⟩
            · rw [List.length_map]
              exact small1000 (by omega)
            · rw [upd_same, List.map_append]
              rfl
            · rw [take_snoc hq', List.map_append]
              exact ((hP6.mono m7).snoc (p := prOf q) hz7).updL (m7 _ _ hD6)
          · rintro H6 ⟨s6, ws, hD6, hP6⟩
            rw [List.length_map, hC.len, List.take_length] at hP6
            refine ⟨D, D2, qs, ws, dueM rows, cs.map prOf, rfl, s6 _ _ hD5, hP5.mono s6, hD6, hP6, fun hn H7 s7 => ?_, fun k hk H7 s7 => ?_⟩
            · -- alike
              rw [hn] at hfw
              have hfw : fwM os (firstM os) 0 css = fwM os (nextM os rows (absOf cs)).2 (i + 1) (css.drop (i + 1)) := hfw
              refine ⟨_, rfl, rfl, _, rfl, ?_⟩
              rw [decide_eq_true rfl]
              refine iteF ?_
              have s57 := s6.trans s7
              have s07 := s05.trans s57
              have s37 := s35.trans s57
              have htu7 := s57 _ _ htu5
              have hC7 := hC5.mono s57
              refine ⟨_, rfl, _, rfl, _, rfl, t, rfl, ⟨_, SqL.of htu7⟩, fun D3 hD3 => ?_⟩
              refine lc_list (K := K) (a := t) (xs := us.map V.ref) (fun j H8 => Same H7 H8 ∧ H8 D3 = some (.lst ((absOf (cs.take j)).map V.int))) ⟨Same.new hD3, upd_same⟩ (fun j H8 _ ⟨s8, _⟩ => SqL.of (s8 _ _ htu7)) ?_ ?_
              · rintro j x H8 hj ⟨s8, hD8⟩
                obtain ⟨u, hu, rfl⟩ := ref_get hj
                obtain ⟨q, hq'⟩ : ∃ q, cs[j]? = some q := ⟨_, List.getElem?_eq_getElem (by rw [← hC.len]; exact (List.getElem?_eq_some_iff.mp hu).1)⟩
                have huu := s8 _ _ (hC7.at' j u q hu hq')
                refine ⟨u, _, rfl, SqT.of huu, rfl, _, _, rfl, _, _, rfl, _, _, rfl, rfl, rfl, _, rfl, q.2.2, rfl, ?_⟩
                have ea : absOf (cs.take (j + 1)) = absOf (cs.take j) ++ absOf [q] := by
                  unfold absOf
                  rw [take_snoc hq', List.filter_append, List.map_append]
                rw [ea]
                cases hb : q.2.2 with
                | true =>
                  have e1 : absOf [q] = [] := by
                    unfold absOf
                    rw [List.filter_cons_of_neg (by simp [hb])]
                    rfl
                  rw [e1, List.append_nil]
                  exact iteF ⟨s8, hD8⟩
                | false =>
                  have e1 : absOf [q] = [q.2.1] := by
                    unfold absOf
                    rw [List.filter_cons_of_pos (by simp [hb])]
                    rfl
                  rw [e1]
                  refine iteT ⟨_, rfl, _, hD8, ?_, s8.upd hD3, ?_⟩
                  · have : (absOf (cs.take j)).length ≤ cs.length := by
                      unfold absOf
                      rw [List.length_map]
                      refine Nat.le_trans (List.length_filter_le _ _) ?_
                      rw [List.length_take]
                      omega
                    rw [List.length_map]
                    exact small1000 (by omega)
                  · rw [upd_same, List.map_append]
                    rfl
              · rintro H8 ⟨s8, hD8⟩
                rw [List.length_map, hC.len, List.take_length] at hD8
                have s08 := s07.trans s8
                have s38 := s37.trans s8
                refine ⟨o, rr, D3, xs, ys, os, rows, absOf cs, rfl, s08 _ _ ho, RL.mono hO s08, g, s38 _ _ hrr3, hR3.mono s38, hin, hD8, fun tt c b cs' zs H9 s9 _ hb0 htt hc hC' hb hZ _ _ _ _ => ?_⟩
                refine ⟨tt, _, _, _, rfl, rfl, SqT.of htt, at_of (j := 1) rfl rfl, ?_⟩
                exact ⟨_, _, _, _, b, zs, _, rfl, s08.trans s9, hb, hZ, (next_law (as := absOf cs) g hW).1, hfw⟩
            · -- unlike
              rw [hk] at hfw
              refine ⟨_, rfl, rfl, _, rfl, ?_⟩
              rw [decide_eq_false (by simp)]
              refine iteT ⟨_, rfl, _, rfl, (by show 2 ≤ sizeLine; decide), fun tp htp => ?_⟩
              exact ks i k hfw tp _ ((s05.trans (s6.trans s7)).trans (Same.new htp)) upd_same
    · clear hyn hR hrr s1
      rintro σ H2 ⟨x3, x4, x5, x6, rr, ys, rows, rfl, s2, hrr, hR, hW, hfw⟩
      rw [List.length_map, hCS.len, List.drop_length] at hfw
      have hfw : fwM os (firstM os) 0 css = if idxs hasC rows = [] then none else some (css.length, 0) := hfw
      have hrl := hW.len
      refine ⟨_, rfl, rr, ys, rows, rfl, hrr, hR, by omega, fun cb H4 s4 _ hcb => ⟨_, .inl ⟨_, SqL.of hcb, rfl⟩, ?_⟩⟩
      have s04 := s2.trans s4
      cases hq : idxs hasC rows with
      | nil =>
        rw [if_pos hq] at hfw
        exact iteF (kn hfw H4 s04)
      | cons c0 cr =>
        rw [if_neg (by rw [hq]; simp)] at hfw
        refine iteT ⟨_, rfl, cl, _, rfl, .inl (SqL.of (s04 _ _ hcl)), (by show 2 ≤ sizeLine; decide), fun tp htp => ?_⟩
        have e : ((ts.map V.ref).length : Nat) = css.length := by rw [List.length_map, hCS.len]
        refine ks css.length 0 hfw tp _ (s04.trans (Same.new htp)) ?_
        rw [upd_same, e]
        rfl
abbrev fldX (t k : Int) : List (Str × V) := [("turn", .int t), ("spot", .int k)]
theorem fx_turn (t k : Int) : (fldX t k).lookup ("turn" : Str) = some (.int t) := by kernel_rfl
theorem fx_spot (t k : Int) : (fldX t k).lookup ("spot" : Str) = some (.int k) := by kernel_rfl
theorem fx_no (t k : Int) : (fldX t k).lookup ("shows" : Str) = none := by kernel_rfl
theorem fx_put (t k : Int) : putF "spot" (V.int k) (putF "turn" (V.int t) []) = fldX t k := by kernel_rfl
def spCopyV' : Sp := fun vs H Q _ => ∃ i, vs = [.int i] ∧ Q (.int i) H
theorem ok_copiedV' (T : Txt K mg A) : FnOk P w K mg base CX0 1 A.f_copied A.d_copied ["thing"] spCopyV' := by
  refine T.f_copied.ok sc_copied (fun vs H Q E h => ?_) (fun cdv A outer s H vs Q E hr h => ?_)
  · obtain ⟨i, rfl, _⟩ := h
    rfl
  · obtain ⟨i, rfl, k⟩ := h
    refine ⟨_, (pss_cons (ps_if (pt_not (pt_val (pe_callB (cr_isiK K) (by rfl) T.n_isinstance (by decide +kernel) (@pa_cons _ _ _ _ _ (pv 0) (@pa_cons _ _ _ _ _ (pe_bltn (v := .ty "list") (by rfl) T.n_list (by decide +kernel) rfl) pa_nil (by rfl)) (by rfl))))) (pss_one (ps_ret (pv 0))) pss_nil)
      (pss_one (ps_ret (pe_lc (own := [("part", 1)]) rfl sc_copied.nd (pi_listK K (pv 0)) (blkOk_by (own := [("part", 1)]) (by kernel_rfl)) (fun _ _ _ _ _ => (pg_name (i := 1) sc_copied.nd rfl (Or.inl rfl))) (fun _ _ _ _ _ => pts_nil) (fun _ _ _ _ _ => (pe_ifExp (pt_val (pe_callB (cr_isiK K) (by rfl) T.n_isinstance (by decide +kernel) (@pa_cons _ _ _ _ _ (pv 1) (@pa_cons _ _ _ _ _ (pe_bltn (v := .ty "list") (by rfl) T.n_list (by decide +kernel) rfl) pa_nil (by rfl)) (by rfl)))) (pe_callTy (call_list_ofK K) (by rfl) T.n_list (by decide +kernel) (@pa_cons _ _ _ _ _ (pv 1) pa_nil (by rfl))) (pv 1))))))), ?_⟩
    refine ⟨_, rfl, .int i, .ty "list", _, false, rfl, .int i, (fun u hu => kitIL hu), false, rfl, iteT ?_⟩
    exact ⟨_, rfl, k⟩
def spXInit (C : Addr) : Sp := fun vs H Q _ => ∃ (x dx : Addr) (t k : Int), vs = [.ref x, .int t, .int k] ∧ H x = some (.ins C dx []) ∧ ∀ H' : Hp, But x H H' → H' x = some (.ins C dx (fldX t k)) → Q .non H'
theorem sc_Wrong_init : FnScope ["self", "turn", "spot"] ["self", "turn", "spot"] (defScope s_Wrong_init) := ⟨rfl, rfl, rfl, by decide +kernel, rfl, by decide +kernel, by decide +kernel⟩
theorem ok_Wrong_init (T : Txt K mg A) : FnOk P w K mg base CX0 2 A.f_Wrong_init A.d_Wrong_init ["self", "turn", "spot"] (spXInit A.C_Wrong) := by
  have G_copied := ok_copiedV' (P := P) (w := w) (base := base) T
  refine T.f_Wrong_init.ok sc_Wrong_init (fun vs H Q E h => ?_) (fun cdv A' outer s H vs Q E hr h => ?_)
  · obtain ⟨x, dx, t, k, rfl, _⟩ := h
    rfl
  · obtain ⟨x, dx, t, k, rfl, hx, kk⟩ := h
    refine ⟨_, (pss_cons (ps_fld (pv 0) (pe_call G_copied (hr.mono (by decide)) (by rfl) T.m_copied T.k_copied T.b_copied .nil pass0 (@pa_cons _ _ _ _ _ (pv 1) pa_nil (by rfl))) rfl)
      (pss_one (ps_fld (pv 0) (pe_call G_copied (hr.mono (by decide)) (by rfl) T.m_copied T.k_copied T.b_copied .nil pass0 (@pa_cons _ _ _ _ _ (pv 2) pa_nil (by rfl))) rfl))), ?_⟩
    refine ⟨_, rfl, t, rfl, _, rfl, x, A.C_Wrong, dx, [], rfl, hx, T.cl_Wrong, T.na_Wrong_turn, (by show 0 < 1000; decide), ?_⟩
    have hx2 : (upd H x (.ins A.C_Wrong dx (putF "turn" (.int t) []))) x = some (.ins A.C_Wrong dx (putF "turn" (.int t) [])) := upd_same
    refine ⟨_, rfl, k, rfl, _, rfl, x, A.C_Wrong, dx, _, rfl, hx2, T.cl_Wrong, T.na_Wrong_spot, (by show 1 < 1000; decide), ?_⟩
    refine kk _ (But.upd.trans But.upd) ?_
    rw [upd_same, fx_put]
def spRShows : Sp := fun vs H Q _ => ∃ (x o cl : Addr) (xs : List V) (os : List (List Int)) (ts : List Addr) (css : List (List Call)), vs = [.ref x, .ref o, .ref cl] ∧ H o = some (.lst xs) ∧ OL H xs os ∧ GoodO os ∧ H cl = some (.lst (ts.map V.ref)) ∧ CS H ts css ∧ css.length ≤ 900 ∧ (∀ cs ∈ css, cs.length ≤ 900) ∧
  ∀ H', Same H H' → Q (.bl (fwM os (firstM os) 0 css).isNone) H'
theorem sc_Right_shows : FnScope ["self", "orders", "calls"] ["self", "orders", "calls"] (defScope s_Right_shows) := ⟨rfl, rfl, rfl, by decide +kernel, rfl, by decide +kernel, by decide +kernel⟩
theorem ok_Right_shows (T : Txt K mg A) : FnOk P w K mg base CX0 4 A.f_Right_shows A.d_Right_shows ["self", "orders", "calls"] spRShows := by
  have G_first_wrong := ok_first_wrong (P := P) (w := w) (base := base) T
  refine T.f_Right_shows.ok sc_Right_shows (fun vs H Q E h => ?_) (fun cdv A' outer s H vs Q E hr h => ?_)
  · obtain ⟨x, o, cl, xs, os, ts, css, rfl, _⟩ := h
    rfl
  · obtain ⟨x, o, cl, xs, os, ts, css, rfl, ho, hO, g, hcl, hCS, h1, h2, k⟩ := h
    refine ⟨_, (pss_one (ps_ret (pe_cmpR op_isN (pe_call G_first_wrong (hr.mono (by decide)) (by rfl) T.m_first_wrong T.k_first_wrong T.b_first_wrong .nil pass0 (@pa_cons _ _ _ _ _ (pv 1) (@pa_cons _ _ _ _ _ (pv 2) pa_nil (by rfl)) (by rfl))) pe_non (nomark _)))), ?_⟩
    refine ⟨_, rfl, _, rfl, o, cl, xs, os, ts, css, rfl, ho, hO, g, hcl, hCS, h1, h2, fun e H1 s1 => ⟨rfl, ?_⟩, fun t kk e tp H1 s1 htp => ⟨rfl, ?_⟩⟩
    · rw [e] at k
      exact k H1 s1
    · rw [e] at k
      exact k H1 s1
def spXShows (C : Addr) : Sp := fun vs H Q _ => ∃ (x dx o cl : Addr) (t k : Int) (xs : List V) (os : List (List Int)) (ts : List Addr) (css : List (List Call)), vs = [.ref x, .ref o, .ref cl] ∧ H x = some (.ins C dx (fldX t k)) ∧ H o = some (.lst xs) ∧ OL H xs os ∧ GoodO os ∧ H cl = some (.lst (ts.map V.ref)) ∧ CS H ts css ∧ css.length ≤ 900 ∧ (∀ cs ∈ css, cs.length ≤ 900) ∧
  ∀ H', Same H H' → Q (.bl (decide ((fwM os (firstM os) 0 css).map (fun z => ((z.1 : Int), (z.2 : Int))) = some (t, k)))) H'
theorem sc_Wrong_shows : FnScope ["self", "orders", "calls"] ["self", "orders", "calls"] (defScope s_Wrong_shows) := ⟨rfl, rfl, rfl, by decide +kernel, rfl, by decide +kernel, by decide +kernel⟩
theorem eqv_none_pr (p : Pr) : PyData.eqv .none (prD p) = false := by simp [prD, PyData.eqv]
theorem ok_Wrong_shows (T : Txt K mg A) : FnOk P w K mg base CX0 4 A.f_Wrong_shows A.d_Wrong_shows ["self", "orders", "calls"] (spXShows A.C_Wrong) := by
  have G_first_wrong := ok_first_wrong (P := P) (w := w) (base := base) T
  have G_is_number := ok_is_number (P := P) (w := w) (base := base) T
  refine T.f_Wrong_shows.ok sc_Wrong_shows (fun vs H Q E h => ?_) (fun cdv A' outer s H vs Q E hr h => ?_)
  · obtain ⟨x, dx, o, cl, t, k, xs, os, ts, css, rfl, _⟩ := h
    rfl
  · obtain ⟨x, dx, o, cl, t, k, xs, os, ts, css, rfl, hx, ho, hO, g, hcl, hCS, h1, h2, kk⟩ := h
    refine ⟨_, (pss_cons (ps_if (PW.pt (pw_or (pt_not (pt_val (pe_call G_is_number (hr.mono (by decide)) (by rfl) T.m_is_number T.k_is_number T.b_is_number .nil pass0 (@pa_cons _ _ _ _ _ (pe_fldK K (pv 0) rfl) pa_nil (by rfl))))) (pw_or1 (pt_not (pt_val (pe_call G_is_number (hr.mono (by decide)) (by rfl) T.m_is_number T.k_is_number T.b_is_number .nil pass0 (@pa_cons _ _ _ _ _ (pe_fldK K (pv 0) rfl) pa_nil (by rfl)))))))) (pss_one (ps_ret pe_bl)) pss_nil)
      (pss_one (ps_ret (pe_cmpR (op_eqDK K hr.units) (pe_call G_first_wrong (hr.mono (by decide)) (by rfl) T.m_first_wrong T.k_first_wrong T.b_first_wrong .nil pass0 (@pa_cons _ _ _ _ _ (pv 1) (@pa_cons _ _ _ _ _ (pv 2) pa_nil (by rfl)) (by rfl))) (@pe_tup _ _ _ _ _ (@pa_cons _ _ _ _ _ (pe_fldK K (pv 0) rfl) (@pa_cons _ _ _ _ _ (pe_fldK K (pv 0) rfl) pa_nil (by rfl)) (by rfl))) (nomark _))))), ?_⟩
    refine ⟨_, rfl, x, A.C_Wrong, dx, _, _, rfl, hx, T.cl_Wrong, T.na_Wrong_turn, fx_turn t k, t, rfl, true, rfl, iteF ?_⟩
    refine ⟨_, rfl, x, A.C_Wrong, dx, _, _, rfl, hx, T.cl_Wrong, T.na_Wrong_spot, fx_spot t k, k, rfl, true, rfl, iteF ?_⟩
    refine ⟨_, rfl, _, rfl, o, cl, xs, os, ts, css, rfl, ho, hO, g, hcl, hCS, h1, h2, fun e H1 s1 => ?_, fun t' k' e tp H1 s1 htp => ?_⟩
    · refine ⟨_, rfl, x, A.C_Wrong, dx, _, _, rfl, s1 _ _ hx, T.cl_Wrong, T.na_Wrong_turn, fx_turn t k, _, rfl, x, A.C_Wrong, dx, _, _, rfl, s1 _ _ hx, T.cl_Wrong, T.na_Wrong_spot, fx_spot t k, (by show 2 ≤ sizeLine; decide), fun tq htq => ?_⟩
      refine ⟨.none, prD (t, k), .non, dp_pr (p := (t, k)) upd_same, rfl, Enc.pr.shaped (by decide) _, ?_⟩
      rw [eqv_none_pr]
      rw [e] at kk
      exact kk _ (s1.trans (Same.new htq))
    · refine ⟨_, rfl, x, A.C_Wrong, dx, _, _, rfl, s1 _ _ hx, T.cl_Wrong, T.na_Wrong_turn, fx_turn t k, _, rfl, x, A.C_Wrong, dx, _, _, rfl, s1 _ _ hx, T.cl_Wrong, T.na_Wrong_spot, fx_spot t k, (by show 2 ≤ sizeLine; decide), fun tq htq => ?_⟩
      refine ⟨prD ((t' : Int), (k' : Int)), prD (t, k), dp_pr (p := ((t' : Int), (k' : Int))) ((Same.new htq) _ _ htp), dp_pr (p := (t, k)) upd_same, Enc.pr.shaped (by decide) _, Enc.pr.shaped (by decide) _, ?_⟩
      rw [Enc.pr.eq]
      rw [e] at kk
      have e2 : decide ((some (t', k')).map (fun z : Nat × Nat => ((z.1 : Int), (z.2 : Int))) = some (t, k)) = decide (((t' : Int), (k' : Int)) = (t, k)) := Bool.eq_iff_iff.mpr (by simp)
      rw [e2] at kk
      exact kk _ (s1.trans (Same.new htq))
end
end Toy

set_option Elab.async false
set_option linter.all false
set_option maxRecDepth 100000
set_option maxHeartbeats 1000000
namespace Toy
open PySem L2
theorem asc_ext : ∀ {xs ys : List Int}, xs.Pairwise (· < ·) → ys.Pairwise (· < ·) → (∀ x, x ∈ xs ↔ x ∈ ys) → xs = ys
  | [], [], _, _, _ => rfl
  | [], y :: ys, _, _, h => by have := (h y).mpr List.mem_cons_self; cases this
  | x :: xs, [], _, _, h => by have := (h x).mp List.mem_cons_self; cases this
  | x :: xs, y :: ys, hx, hy, h => by
    obtain ⟨hx1, hx2⟩ := List.pairwise_cons.mp hx
    obtain ⟨hy1, hy2⟩ := List.pairwise_cons.mp hy
    have e : x = y := by
      rcases List.mem_cons.mp ((h x).mp List.mem_cons_self) with z | z
      · exact z
      · rcases List.mem_cons.mp ((h y).mpr List.mem_cons_self) with z' | z'
        · exact z'.symm
        · have := hy1 x z
          have := hx1 y z'
          omega
    subst e
    congr 1
    refine asc_ext hx2 hy2 fun z => ⟨fun hz => ?_, fun hz => ?_⟩
    · rcases List.mem_cons.mp ((h z).mp (List.mem_cons_of_mem _ hz)) with e | e
      · have := hx1 z hz
        omega
      · exact e
    · rcases List.mem_cons.mp ((h z).mpr (List.mem_cons_of_mem _ hz)) with e | e
      · have := hy1 z hz
        omega
      · exact e
theorem idxs_filter (rows : Rws) : ((idxs Option.isSome rows).filter fun c => hasC (rows.getD c.toNat none)) = idxs hasC rows := by
  refine asc_ext ((idxs_asc _ _).filter _) (idxs_asc _ _) fun x => ?_
  rw [List.mem_filter, idxs_mem, idxs_mem]
  constructor
  · rintro ⟨⟨p, row, rfl, h1, _⟩, h2⟩
    rw [Int.toNat_natCast, List.getD_eq_getElem?_getD, h1] at h2
    exact ⟨p, row, rfl, h1, h2⟩
  · rintro ⟨p, row, rfl, h1, h2⟩
    refine ⟨⟨p, row, rfl, h1, ?_⟩, ?_⟩
    · cases row with
      | none => cases h2
      | some l => rfl
    · rw [Int.toNat_natCast, List.getD_eq_getElem?_getD, h1]
      exact h2
def tlR (cur : Rws) (c : Int) : List Int := match cur.getD c.toNat none with
  | some (_ :: r) => r
  | _ => []
def stepW (os : List (List Int)) (cur : Rws) (q : Call) : Rws := if q.2.2 = true then (cur.set q.2.1.toNat (some (ch os q.2.1))).set q.1.toNat (some (tlR cur q.1)) else cur.set q.1.toNat (some (ch os q.2.1 ++ tlR cur q.1))
theorem stepW_len {os : List (List Int)} {cur : Rws} {q : Call} : (stepW os cur q).length = cur.length := by
  unfold stepW
  split
  · rw [List.length_set, List.length_set]
  · rw [List.length_set]
theorem foldW_len {os : List (List Int)} : ∀ (cs : List Call) (cur : Rws), (cs.foldl (stepW os) cur).length = cur.length
  | [], _ => rfl
  | q :: cs, cur => by rw [List.foldl_cons, foldW_len cs, stepW_len]
structure Due (os : List (List Int)) (rows : Rws) (as : List Int) (all : List Int) (q : Call) : Prop where
  ex : ∃ (p : Nat) (rest : List Int), q.1 = p ∧ rows[p]? = some (some (q.2.1 :: rest))
  flag : q.2.1 ∈ as ↔ q.2.2 = false
  noA : q.1 ∉ as
  inR : 0 < q.2.1 ∧ q.2.1 < os.length
  noC : ∀ c ∈ all, c ≠ q.2.1
theorem dues {os : List (List Int)} {rows : Rws} (g : GoodO os) (hW : WInv os rows) {cs : List Call} (h : dueM rows = cs.map prOf) : (cs.map (·.1)) = idxs hasC rows ∧ ∀ q ∈ cs, Due os rows (absOf cs) (cs.map (·.1)) q := by
  obtain ⟨C, wc⟩ := hW.ex
  have e1 : cs.map (·.1) = idxs hasC rows := by
    have : (dueM rows).map (·.1) = idxs hasC rows := by
      unfold dueM
      rw [List.map_map]
      exact List.map_id'' (fun _ => rfl) _
    rw [← this, h, List.map_map]
    rfl
  have at' : ∀ (j : Nat) (q : Call), cs[j]? = some q → ∃ (p : Nat) (rest : List Int), q.1 = p ∧ rows[p]? = some (some (q.2.1 :: rest)) := fun j q hq => by
    have hc : (idxs hasC rows)[j]? = some q.1 := by
      rw [← e1, List.getElem?_map, hq]
      rfl
    obtain ⟨p, y, rest, ep, hp, hd⟩ := due_at hc
    rw [h, List.getElem?_map, hq] at hd
    have hd : (q.1, q.2.1) = ((p : Int), y) := Option.some.inj hd
    have e2 : q.2.1 = y := by injection hd
    exact ⟨p, rest, ep, by rw [e2]; exact hp⟩
  have uniq : ∀ q ∈ cs, ∀ q' ∈ cs, q.2.1 = q'.2.1 → q = q' := fun q hq q' hq' e => by
    obtain ⟨j, hj⟩ := List.getElem?_of_mem hq
    obtain ⟨j', hj'⟩ := List.getElem?_of_mem hq'
    obtain ⟨p, rest, ep, hp⟩ := at' j q hj
    obtain ⟨p', rest', ep', hp'⟩ := at' j' q' hj'
    have epp : p = p' := by
      by_cases z : p = p'
      · exact z
      · exact absurd (by rw [e]; exact List.mem_cons_self) (wc.dis p p' _ _ z hp hp' q.2.1 List.mem_cons_self)
    have nd := asc_nodup (idxs_asc hasC rows)
    rw [← e1] at nd
    have : j = j' := nd_at nd (x := q.1) (by rw [List.getElem?_map, hj]; rfl) (by rw [List.getElem?_map, hj']; show some q'.1 = some q.1; rw [ep, ep', epp])
    subst this
    rw [hj] at hj'
    exact Option.some.inj hj'
  refine ⟨e1, fun q hq => ?_⟩
  obtain ⟨j, hj⟩ := List.getElem?_of_mem hq
  obtain ⟨p, rest, ep, hp⟩ := at' j q hj
  obtain ⟨x0, x1, xC, _⟩ := (wc.row p _ hp).2 q.2.1 List.mem_cons_self
  have known : ∀ q' ∈ cs, C q'.1 := fun q' hq' => by
    obtain ⟨j', hj'⟩ := List.getElem?_of_mem hq'
    obtain ⟨p', rest', ep', hp'⟩ := at' j' q' hj'
    rw [ep']
    exact wc.known p' _ hp'
  have unk : ∀ q' ∈ cs, ¬ C q'.2.1 := fun q' hq' => by
    obtain ⟨j', hj'⟩ := List.getElem?_of_mem hq'
    obtain ⟨p', rest', ep', hp'⟩ := at' j' q' hj'
    exact ((wc.row p' _ hp').2 q'.2.1 List.mem_cons_self).2.2.1
  refine ⟨⟨p, rest, ep, hp⟩, ⟨fun ha => ?_, fun hf => ?_⟩, fun ha => ?_, ⟨x0, x1⟩, fun c hc z => ?_⟩
  · unfold absOf at ha
    obtain ⟨q', hq', e⟩ := List.mem_map.mp ha
    obtain ⟨h1, h2⟩ := List.mem_filter.mp hq'
    have := uniq q' h1 q hq e
    subst this
    simpa using h2
  · unfold absOf
    exact List.mem_map.mpr ⟨q, List.mem_filter.mpr ⟨hq, by rw [hf]; rfl⟩, rfl⟩
  · unfold absOf at ha
    obtain ⟨q', hq', e⟩ := List.mem_map.mp ha
    obtain ⟨h1, _⟩ := List.mem_filter.mp hq'
    exact unk q' h1 (by rw [e]; exact known q hq)
  · obtain ⟨q', hq', e⟩ := List.mem_map.mp hc
    have := known q' hq'
    rw [e, z] at this
    exact xC this
theorem Due.tl {os : List (List Int)} {rows cur : Rws} {as all : List Int} {q : Call} (d : Due os rows as all q) (hc : cur[q.1.toNat]? = rows[q.1.toNat]?) : ∃ (p : Nat), q.1 = p ∧ rows[p]? = some (some (q.2.1 :: tlR cur q.1)) ∧ cur[p]? = some (some (q.2.1 :: tlR cur q.1)) := by
  obtain ⟨p, rest, ep, hp⟩ := d.ex
  have e : q.1.toNat = p := by omega
  rw [e, hp] at hc
  have : tlR cur q.1 = rest := by
    unfold tlR
    rw [e, List.getD_eq_getElem?_getD, hc]
    rfl
  rw [this]
  exact ⟨p, ep, hp, hc⟩
theorem foldW {os : List (List Int)} {rows : Rws} {as all : List Int} : ∀ (cs : List Call) (st : List Call × Rws), (∀ q ∈ cs, Due os rows as all q) → (∀ q ∈ cs, q.1 ∈ all) → (cs.map (·.1)).Nodup → (∀ q ∈ cs, st.2[q.1.toNat]? = rows[q.1.toNat]?) →
    ((cs.map (·.1)).foldl (stepP os rows as) st).2 = cs.foldl (stepW os) st.2
  | [], _, _, _, _, _ => rfl
  | q :: cs, st, hd, ha, hn, hs => by
    have d := hd q List.mem_cons_self
    obtain ⟨hn1, hn2⟩ := List.nodup_cons.mp hn
    obtain ⟨p, ep, hp, hc⟩ := d.tl (hs q List.mem_cons_self)
    have epn : q.1.toNat = p := by omega
    rw [List.map_cons, List.foldl_cons, List.foldl_cons]
    have e : (stepP os rows as st q.1).2 = stepW os st.2 q := by
      unfold stepP stepW
      rw [if_neg d.noA, epn, List.getD_eq_getElem?_getD, hp]
      simp only [Option.getD_some]
      by_cases hf : q.2.2 = true
      · have na : ¬ q.2.1 ∈ as := fun z => by
          have := d.flag.mp z
          rw [hf] at this
          cases this
        rw [if_neg na, if_pos hf]
        refine List.set_comm _ _ ?_
        have := d.noC q.1 (ha q List.mem_cons_self)
        have := d.inR
        omega
      · have ya : q.2.1 ∈ as := d.flag.mpr (by simpa using hf)
        rw [if_pos ya, if_neg hf]
    rw [← e]
    refine foldW cs (stepP os rows as st q.1) (fun q' h => hd q' (List.mem_cons_of_mem _ h)) (fun q' h => ha q' (List.mem_cons_of_mem _ h)) hn2 fun q' h => ?_
    have d' := hd q' (List.mem_cons_of_mem _ h)
    obtain ⟨p', rest', ep', _⟩ := d'.ex
    have n1 : q'.1.toNat ≠ q.1.toNat := fun z => by
      have : q'.1 = q.1 := by omega
      exact hn1 (by show q.1 ∈ cs.map (·.1); rw [← this]; exact List.mem_map_of_mem h)
    have n2 : q'.1.toNat ≠ q.2.1.toNat := fun z => by
      have := d.noC q'.1 (ha q' (List.mem_cons_of_mem _ h))
      have := d.inR
      omega
    rw [e]
    unfold stepW
    by_cases hf : q.2.2 = true
    · rw [if_pos hf, List.getElem?_set_ne (Ne.symm n1), List.getElem?_set_ne (Ne.symm n2)]
      exact hs q' (List.mem_cons_of_mem _ h)
    · rw [if_neg hf, List.getElem?_set_ne (Ne.symm n1)]
      exact hs q' (List.mem_cons_of_mem _ h)
theorem foldW_keep {os : List (List Int)} {rows : Rws} {as all : List Int} (cs : List Call) (hd : ∀ q ∈ cs, Due os rows as all q) (ha : ∀ q ∈ cs, q.1 ∈ all) (hn : (cs.map (·.1)).Nodup) : ∀ (j : Nat) (q : Call), cs[j]? = some q → ((cs.take j).foldl (stepW os) rows)[q.1.toNat]? = rows[q.1.toNat]? := by
  intro j
  have key : ∀ (pre : List Call) (q : Call), (∀ q' ∈ pre, Due os rows as all q' ∧ q'.1 ≠ q.1) → q ∈ cs → ((pre.foldl (stepW os) rows)[q.1.toNat]? = rows[q.1.toNat]?) := by
    intro pre q
    have gen : ∀ (pre : List Call) (cur : Rws), cur[q.1.toNat]? = rows[q.1.toNat]? → (∀ q' ∈ pre, Due os rows as all q' ∧ q'.1 ≠ q.1) → q ∈ cs → (pre.foldl (stepW os) cur)[q.1.toNat]? = rows[q.1.toNat]? := by
      intro pre
      induction pre with
      | nil => exact fun cur hc _ _ => hc
      | cons q' pre ih =>
        intro cur hc hp hq
        rw [List.foldl_cons]
        refine ih _ ?_ (fun q'' h => hp q'' (List.mem_cons_of_mem _ h)) hq
        obtain ⟨d', n⟩ := hp q' List.mem_cons_self
        obtain ⟨p', _, ep', _⟩ := d'.ex
        obtain ⟨p, _, ep, _⟩ := (hd q hq).ex
        have n1 : q.1.toNat ≠ q'.1.toNat := by omega
        have n2 : q.1.toNat ≠ q'.2.1.toNat := fun z => by
          have := d'.noC q.1 (ha q hq)
          have := d'.inR
          omega
        unfold stepW
        by_cases hf : q'.2.2 = true
        · rw [if_pos hf, List.getElem?_set_ne (Ne.symm n1), List.getElem?_set_ne (Ne.symm n2)]
          exact hc
        · rw [if_neg hf, List.getElem?_set_ne (Ne.symm n1)]
          exact hc
    exact gen pre rows rfl
  intro q hq
  refine key (cs.take j) q (fun q' hq' => ⟨hd q' (List.mem_of_mem_take hq'), fun z => ?_⟩) (List.mem_of_getElem? hq)
  obtain ⟨i, hi⟩ := List.getElem?_of_mem hq'
  have hil := (List.getElem?_eq_some_iff.mp hi).1
  rw [List.length_take] at hil
  rw [List.getElem?_take_of_lt (by omega)] at hi
  have := nd_at hn (x := q.1) (p := i) (q := j) (by rw [List.getElem?_map, hi]; show some q'.1 = some q.1; rw [z]) (by rw [List.getElem?_map, hq]; rfl)
  omega
theorem next_due {os : List (List Int)} {rows : Rws} (g : GoodO os) (hW : WInv os rows) {cs : List Call} (h : dueM rows = cs.map prOf) : (nextM os rows (absOf cs)).2 = cs.foldl (stepW os) rows := by
  obtain ⟨e1, hd⟩ := dues g hW h
  have nd : (cs.map (·.1)).Nodup := by
    rw [e1]
    exact asc_nodup (idxs_asc hasC rows)
  have := foldW (rows := rows) (as := absOf cs) (all := cs.map (·.1)) cs ([], rows) hd (fun q hq => List.mem_map_of_mem hq) nd fun _ _ => rfl
  unfold nextM
  rw [← e1]
  exact this
end Toy

set_option Elab.async false
set_option linter.all false
set_option maxRecDepth 100000
set_option maxHeartbeats 1000000
namespace Toy
open PySem L2
theorem shaped_nil : SeqAt.shaped (.list []) = true := shaped_ints []
theorem eqv_callsN (cs : List Call) : PyData.eqv (.list (cs.map callD)) (.list []) = decide (cs = []) := Enc.calls.eq cs []
theorem lock_same' {H H' : Hp} {d : Addr} {u f : HO} (hd : H d = some u) (s : Same (L2.upd H d f) H') : Same H (L2.upd H' d u) := fun b v e => by
  by_cases z : b = d
  · subst z
    rw [upd_same, ← hd]
    exact e
  · rw [upd_ne z]
    exact s _ _ (by rw [upd_ne z]; exact e)
theorem filtp {α : Type} {f : α → Bool} {x : α} (h : f x = true) : [x].filter f = [x] := by rw [List.filter_cons_of_pos h]; rfl
theorem filtn {α : Type} {f : α → Bool} {x : α} (h : f x = false) : [x].filter f = [] := by rw [List.filter_cons_of_neg (by rw [h]; exact Bool.false_ne_true)]; rfl
section
variable {P : Program} {w : World} {K : PySem.W.Frag} {mg : Str → Option Value} {base : Heap} {A : Adr}
theorem sc_law_wrong : FnScope ["_law_orders_here", "_law_calls", "_law_rows", "_law_at", "_law_turn", "_law_due", "_law_spot", "_law_call", "_law_caller", "_law_person", "_law_answered", "_law_rest"] ["_law_orders_here", "_law_calls"] (defScope s_law_wrong) := ⟨rfl, rfl, rfl, by decide +kernel, rfl, by decide +kernel, by decide +kernel⟩
theorem ok_law_wrong (T : Txt K mg A) : FnOk P w K mg base CX0 1 A.f_law_wrong A.d_law_wrong ["_law_orders_here", "_law_calls"] spFW := by
  refine T.f_law_wrong.ok sc_law_wrong (fun vs H Q E h => ?_) (fun cdv A' outer s H vs Q E hr h => ?_)
  · obtain ⟨o, cl, xs, os, ts, css, rfl, _⟩ := h
    rfl
  · obtain ⟨o, cl, xs, os, ts, css, rfl, ho, hO, g, hcl, hCS, hcl9, hcs9, kn, ks⟩ := h
    have n40 := g.n40
    have n1 := g.n1
    refine ⟨_, (pss_cons (ps_set (i := 2) sc_law_wrong.nd rfl (Or.inr rfl) (pe_disp (pps_cons pe_int (pe_callTy (call_list_ofK K) (by rfl) T.n_list (by decide +kernel) (@pa_cons _ _ _ _ _ (pe_ix (ix_listK K) (pv 0) pe_int (fun _ _ => rfl)) pa_nil (by rfl))) pps_nil) rfl rfl (by simp) (by decide)))
      (pss_cons (ps_for PassesOwn.never rfl (pi_enumK K (by rfl) T.n_enumerate (@pa_cons _ _ _ _ _ (pv 1) pa_nil (by rfl))) (pg_tupK K (n := 2) (by rfl) (pgs_cons (pg_name (i := 3) sc_law_wrong.nd rfl (Or.inl rfl)) (pgs_cons (pg_name (i := 4) sc_law_wrong.nd rfl (Or.inl rfl)) pgs_nil))) (pss_cons (ps_setLc (i := 5) (own := [("_law_caller", 8)]) rfl sc_law_wrong.nd rfl rfl (sw_true rfl rfl rfl (by decide +kernel)) (pi_listK K (pe_callB (cr_sortedK K) (by rfl) T.n_sorted (by decide +kernel) (@pa_cons _ _ _ _ _ (pe_callTy (call_listKK K rfl) (by rfl) T.n_list (by decide +kernel) (@pa_cons _ _ _ _ _ (pv 2) pa_nil (by rfl))) pa_nil (by rfl)))) (blkOk_by (own := [("_law_caller", 8)]) (by kernel_rfl)) (fun _ _ _ _ _ => (pg_name (i := 8) sc_law_wrong.nd rfl (Or.inl rfl))) (fun _ _ _ _ _ => (pts_one (pt_cmpR (op_neDK K hr.units) (pe_dget hr.unit1 (pv 2) (pv 8) (fun _ _ => rfl)) (@pe_lst _ _ _ _ pa_nil) (nomark _)))) (fun _ _ _ _ _ => (@pe_tup _ _ _ _ _ (@pa_cons _ _ _ _ _ (pv 8) (@pa_cons _ _ _ _ _ (pe_ix (ix_listK K) (pe_dget hr.unit1 (pv 2) (pv 8) (fun _ _ => rfl)) pe_int (fun _ _ => rfl)) pa_nil (by rfl)) (by rfl)))))
      (pss_cons (ps_for PassesOwn.never rfl (pi_enumK K (by rfl) T.n_enumerate (@pa_cons _ _ _ _ _ (pv 4) pa_nil (by rfl))) (pg_tupK K (n := 2) (by rfl) (pgs_cons (pg_name (i := 6) sc_law_wrong.nd rfl (Or.inl rfl)) (pgs_cons (pg_name (i := 7) sc_law_wrong.nd rfl (Or.inl rfl)) pgs_nil))) (pss_one (ps_if (PW.pt (pw_or (pt_cmpR op_ge (pv 6) (pe_callB (call_len_seqK K) (by rfl) T.n_len PySem.boot_len (@pa_cons _ _ _ _ _ (pv 5) pa_nil (by rfl))) (nomark _)) (pw_or1 (pt_cmpR (op_neDK K hr.units) (pe_slice (sl_tupK K) (pv 7) po_none (po_some pe_int)) (pe_ix (ix_listK K) (pv 5) (pv 6) (fun _ _ => rfl)) (nomark _))))) (pss_one (ps_ret (@pe_tup _ _ _ _ _ (@pa_cons _ _ _ _ _ (pv 3) (@pa_cons _ _ _ _ _ (pv 6) pa_nil (by rfl)) (by rfl))))) pss_nil)))
      (pss_cons (ps_if (PW.pt (pw_or (pt_cmpR (op_eqDK K hr.units) (pv 4) (@pe_lst _ _ _ _ pa_nil) (nomark _)) (pw_or1 (pt_cmpR op_lt (pe_callB (call_len_seqK K) (by rfl) T.n_len PySem.boot_len (@pa_cons _ _ _ _ _ (pv 4) pa_nil (by rfl))) (pe_callB (call_len_seqK K) (by rfl) T.n_len PySem.boot_len (@pa_cons _ _ _ _ _ (pv 5) pa_nil (by rfl))) (nomark _))))) (pss_one (ps_ret (@pe_tup _ _ _ _ _ (@pa_cons _ _ _ _ _ (pv 3) (@pa_cons _ _ _ _ _ (pe_callB (call_len_seqK K) (by rfl) T.n_len PySem.boot_len (@pa_cons _ _ _ _ _ (pv 4) pa_nil (by rfl))) pa_nil (by rfl)) (by rfl))))) pss_nil)
      (pss_one (ps_for PassesOwn.never rfl (pi_listK K (pv 4)) (pg_tupK K (n := 3) (by rfl) (pgs_cons (pg_name (i := 8) sc_law_wrong.nd rfl (Or.inl rfl)) (pgs_cons (pg_name (i := 9) sc_law_wrong.nd rfl (Or.inl rfl)) (pgs_cons (pg_name (i := 10) sc_law_wrong.nd rfl (Or.inl rfl)) pgs_nil)))) (pss_cons (ps_set (i := 11) sc_law_wrong.nd rfl (Or.inl rfl) (pe_slice (sl_listK K) (pe_dget hr.unit1 (pv 2) (pv 8) (fun _ _ => rfl)) (po_some pe_int) po_none))
      (pss_one (ps_if (pt_val (pv 10)) (pss_cons (ps_dput hr.unit1 (pv 2) (pv 9) (pe_callTy (call_list_ofK K) (by rfl) T.n_list (by decide +kernel) (@pa_cons _ _ _ _ _ (pe_ix (ix_listK K) (pv 0) (pv 9) (fun _ _ => rfl)) pa_nil (by rfl))) rfl)
      (pss_one (ps_dput hr.unit1 (pv 2) (pv 8) (pv 11) rfl))) (pss_one (ps_dput hr.unit1 (pv 2) (pv 8) (pe_op op_cat (pe_callTy (call_list_ofK K) (by rfl) T.n_list (by decide +kernel) (@pa_cons _ _ _ _ _ (pe_ix (ix_listK K) (pv 0) (pv 9) (fun _ _ => rfl)) pa_nil (by rfl))) (pv 11)) rfl)))))))))))
      (pss_one (ps_ret (pe_ifExp (pt_val (pe_callB (cr_anyK K rfl) (by rfl) T.n_any (by decide +kernel) (@pa_cons _ _ _ _ _ (pe_lock (pe_lc (own := [("_law_person", 9)]) rfl sc_law_wrong.nd (pi_keys (pv 2)) (blkOk_by (own := [("_law_person", 9)]) (by kernel_rfl)) (fun _ _ _ _ _ => (pg_name (i := 9) sc_law_wrong.nd rfl (Or.inl rfl))) (fun _ _ _ _ _ => pts_nil) (fun _ _ _ _ _ => (pe_cmpR (op_neDK K hr.units) (pe_dget hr.unit1 (pv 2) (pv 9) (fun _ _ => rfl)) (@pe_lst _ _ _ _ pa_nil) (nomark _))))) pa_nil (by rfl)))) (@pe_tup _ _ _ _ _ (@pa_cons _ _ _ _ _ (pe_callB (call_len_seqK K) (by rfl) T.n_len PySem.boot_len (@pa_cons _ _ _ _ _ (pv 1) pa_nil (by rfl))) (@pa_cons _ _ _ _ _ pe_int pa_nil (by rfl)) (by rfl))) pe_non))))), ?_⟩
    refine fun d hd0 => ?_
    have m1 : Same H (upd H d (.dK [])) := Same.new hd0
    have hd1 : (upd H d (.dK [])) d = some (.dK []) := upd_same
    generalize upd H d (.dK []) = H1 at m1 hd1
    have hch0 : os[0]? = some (ch os 0) := ch_get (os := os) (x := 0) (by omega) (by omega)
    obtain ⟨r0, hr0, hr0H⟩ := OL.at hO hch0
    refine ⟨_, rfl, o, _, _, _, rfl, rfl, SqL.of (m1 _ _ ho), at_of (j := 0) rfl hr0, r0, _, rfl, .inl (SqL.of (m1 _ _ hr0H)), fun q1 hq1 => ?_⟩
    have m2 : Same H1 (upd H1 q1 (.lst ((ch os 0).map V.int))) := Same.new hq1
    have hq12 : (upd H1 q1 (.lst ((ch os 0).map V.int))) q1 = some (.lst ((ch os 0).map V.int)) := upd_same
    generalize upd H1 q1 (.lst ((ch os 0).map V.int)) = H2 at m2 hq12
    refine ⟨m2 _ _ hd1, [(.inl 0, .ref q1)], rfl, (by show 1 ≤ 15; decide), ?_⟩
    have s3 : Same H (upd H2 d (.dK (mergeK [] [(.inl 0, .ref q1)]))) := (m1.trans m2).upd hd0
    have hd3 : (upd H2 d (.dK (mergeK [] [(.inl 0, .ref q1)]))) d = some (.dK (putK [] (.inl 0) (.ref q1))) := upd_same
    have hq13 : (upd H2 d (.dK (mergeK [] [(.inl 0, .ref q1)]))) q1 = some (.lst ((ch os 0).map V.int)) := by
      rw [upd_ne (Ne.symm (ne_of_none hd1 hq1))]
      exact hq12
    generalize upd H2 d (.dK (mergeK [] [(.inl 0, .ref q1)])) = H3 at s3 hd3 hq13
    refine ⟨_, rfl, cl, _, rfl, SqL.of (s3 _ _ hcl), for_enum0 (K := K) (a := cl) (xs := ts.map V.ref)
      (fun i σ H2 => ∃ (x3 x4 x5 x6 x7 x8 x9 x10 x11 : Option V) (kvs : List (Key × V)) (rows : Rws), σ = [some (.ref o), some (.ref cl), some (.ref d), x3, x4, x5, x6, x7, x8, x9, x10, x11] ∧ Same H H2 ∧ H2 d = some (.dK kvs) ∧ DR H2 kvs rows ∧ WInv os rows ∧ fwM os (firstM os) 0 css = fwM os rows i (css.drop i))
      ⟨none, none, none, none, none, none, none, none, none, _, firstM os, rfl, s3, hd3, DR.first n1 hq13, WInv.first g, rfl⟩ (fun i σ H2 _ ⟨_, _, _, _, _, _, _, _, _, _, _, _, s2, _⟩ => SqL.of (s2 _ _ hcl)) ?_ ?_⟩
    · clear hq13 hd3 s3 hq12 m2 hq1 hd1 m1
      rintro i x TT σ H2 hx ⟨x3, x4, x5, x6, x7, x8, x9, x10, x11, kvs, rows, rfl, s2, hd, hDR, hW, hfw⟩ hTT
      obtain ⟨t, ht, rfl⟩ := ref_get hx
      obtain ⟨cs, hcs⟩ : ∃ cs, css[i]? = some cs := ⟨_, List.getElem?_eq_getElem (by rw [← hCS.len]; exact (List.getElem?_eq_some_iff.mp ht).1)⟩
      obtain ⟨us, htus, hC⟩ := hCS.at' i t cs ht hcs
      have hcl' := hcs9 cs (List.mem_of_getElem? hcs)
      have hdr : css.drop i = cs :: css.drop (i + 1) := by
        obtain ⟨hl, e⟩ := List.getElem?_eq_some_iff.mp hcs
        rw [List.drop_eq_getElem_cons hl, e]
      rw [hdr] at hfw
      have hrl := hW.len
      have hin := hW.rowsIn g
      have m3 : Same H2 (upd H2 TT (.tup [.int (i : Nat), .ref t])) := Same.new hTT
      have hTT3 : (upd H2 TT (.tup [.int (i : Nat), .ref t])) TT = some (.tup [.int (i : Nat), .ref t]) := upd_same
      generalize upd H2 TT (.tup [.int (i : Nat), .ref t]) = H3 at m3 hTT3
      refine ⟨TT, _, rfl, SqT.of hTT3, rfl, _, _, rfl, _, _, rfl, rfl, ?_⟩
      have s3 := s2.trans m3
      have hd3 := m3 _ _ hd
      have hDR3 := hDR.mono (KL.of m3)
      refine ⟨_, rfl, d, kvs, rfl, hd3, Nat.lt_of_le_of_lt hDR.len (small1000 (by omega)), fun l1 hl1 => ?_⟩
      obtain ⟨ei, hpm⟩ := hDR.ints
      rw [ei]
      have m4 : Same H3 (upd H3 l1 (.lst ((kvs.map fun q => keyI q.1).map V.int))) := Same.new hl1
      have hl4 : (upd H3 l1 (.lst ((kvs.map fun q => keyI q.1).map V.int))) l1 = some (.lst ((kvs.map fun q => keyI q.1).map V.int)) := upd_same
      generalize upd H3 l1 (.lst ((kvs.map fun q => keyI q.1).map V.int)) = H4 at m4 hl4
      have hkl : (kvs.map fun q => keyI q.1).length < 64 := by
        rw [List.length_map]
        have := hDR.len
        omega
      refine ⟨l1, _, rfl, SqL.of hl4, hkl, fun kss sl hks hsrt hsl => ?_⟩
      have eks : kss = idxs Option.isSome rows := sorted_eq (hks.trans hpm) hsrt (idxs_asc _ _)
      subst eks
      have m5 : Same H4 (upd H4 sl (.lst ((idxs Option.isSome rows).map V.int))) := Same.new hsl
      have hsl5 : (upd H4 sl (.lst ((idxs Option.isSome rows).map V.int))) sl = some (.lst ((idxs Option.isSome rows).map V.int)) := upd_same
      generalize upd H4 sl (.lst ((idxs Option.isSome rows).map V.int)) = H5 at m5 hsl5
      have m35 := m4.trans m5
      have hd5 := m35 _ _ hd3
      have hDR5 := hDR3.mono (KL.of m35)
      refine ⟨sl, rfl, ⟨_, SqL.of hsl5⟩, fun D hD => ?_⟩
      have hil := idxs_len Option.isSome rows
      refine lc_list (K := K) (a := sl) (xs := (idxs Option.isSome rows).map V.int) (fun j H6 => Same H5 H6 ∧ ∃ qs : List Addr, H6 D = some (.lst (qs.map V.ref)) ∧ PR H6 qs ((((idxs Option.isSome rows).take j).filter fun c => hasC (rows.getD c.toNat none)).map fun c => (c, hdR rows c))) ⟨Same.new hD, [], upd_same, by simpa using PR.nil⟩ (fun j H6 _ ⟨s6, _⟩ => SqL.of (s6 _ _ hsl5)) ?_ ?_
      · rintro j x H6 hj ⟨s6, qs, hD6, hP6⟩
        obtain ⟨c, hc, rfl⟩ := map_int_get hj
        have hjl := (List.getElem?_eq_some_iff.mp hc).1
        obtain ⟨p, row, rfl, hrp, hsome⟩ := idxs_mem.mp (List.mem_of_getElem? hc)
        obtain ⟨l, rfl⟩ : ∃ l, row = some l := by
          cases row with
          | none => cases hsome
          | some l => exact ⟨l, rfl⟩
        obtain ⟨r, hv, hr⟩ := hDR5.yes p l hrp
        have hr6 := s6 _ _ hr
        have hd6 := s6 _ _ hd5
        have eg : rows.getD ((p : Int)).toNat none = some l := by
          rw [Int.toNat_natCast, List.getD_eq_getElem?_getD, hrp]
          rfl
        have hql : qs.length ≤ 40 := by
          rw [hP6.len, List.length_map]
          refine Nat.le_trans (List.length_filter_le _ _) ?_
          rw [List.length_take]
          omega
        refine ⟨rfl, _, rfl, _, rfl, d, _, rfl, (by rw [← hv]; exact DGet.k (k := .inl (p : Int)) hd6), Nat.zero_le _, fun e he => ?_⟩
        have m7 : Same H6 (upd H6 e (.lst [])) := Same.new he
        have he7 : (upd H6 e (.lst [])) e = some (.lst []) := upd_same
        generalize upd H6 e (.lst []) = H7 at m7 he7
        refine ⟨_, _, dp_ints (SqL.of (m7 _ _ hr6)), .lst (SqL.of he7) .nil, shaped_ints l, shaped_nil, _, rfl, ?_⟩
        rw [eqv_nil, take_snoc hc, List.filter_append, List.map_append]
        cases l with
        | nil =>
          rw [decide_eq_true rfl, filtn (f := fun c : Int => hasC (rows.getD c.toNat none)) (by show hasC (rows.getD ((p : Int)).toNat none) = false; rw [eg]; rfl)]
          refine iteF ⟨s6.trans m7, qs, m7 _ _ hD6, ?_⟩
          simpa using hP6.mono m7
        | cons y rest =>
          rw [decide_eq_false (by simp), filtp (f := fun c : Int => hasC (rows.getD c.toNat none)) (by show hasC (rows.getD ((p : Int)).toNat none) = true; rw [eg]; rfl)]
          refine iteT ⟨_, rfl, _, rfl, _, rfl, d, _, rfl, (by rw [← hv]; exact DGet.k (k := .inl (p : Int)) (m7 _ _ hd6)), r, _, _, .int y, rfl, rfl, SqL.of (m7 _ _ hr6), at_of (j := 0) rfl rfl, (by show 2 ≤ sizeLine; decide), fun q hq => ?_⟩
          have m8 : Same H7 (upd H7 q (.tup [.int (p : Int), .int y])) := Same.new hq
          have hq8 : (upd H7 q (.tup [.int (p : Int), .int y])) q = some (.tup [.int (p : Int), .int y]) := upd_same
          generalize upd H7 q (.tup [.int (p : Int), .int y]) = H8 at m8 hq8
          have m78 := m7.trans m8
          have eh : hdR rows (p : Int) = y := by
            unfold hdR
            rw [eg]
          refine ⟨qs.map V.ref, m78 _ _ hD6, ?_, (s6.trans m78).upd hD, qs ++ [q], ?_, ?_⟩
          · rw [List.length_map]
            exact small1000 (by omega)
          · rw [upd_same, List.map_append]
            rfl
          · refine PR.updL (PR.snoc (hP6.mono m78) ?_) (m78 _ _ hD6)
            show H8 q = some (.tup [.int (p : Int), .int (hdR rows (p : Int))])
            rw [eh]
            exact hq8
      · rintro H6 ⟨s6, qs, hD6, hP6⟩
        have hP6 : PR H6 qs (dueM rows) := by
          rw [List.length_map, List.take_length, idxs_filter] at hP6
          exact hP6
        have s36 := m35.trans s6
        have s06 := s3.trans s36
        have hqsl : qs.length = (dueM rows).length := hP6.len
        have hdl : (dueM rows).length ≤ 40 := by
          rw [due_len]
          have := idxs_len hasC rows
          omega
        have htu6 := s06 _ _ htus
        have hC6 := hC.mono s06
        have e0 : idxs hasC rows = [] ↔ (dueM rows).length = 0 := by
          rw [due_len]
          exact List.length_eq_zero_iff.symm
        have hfw' : fwM os (firstM os) 0 css = if idxs hasC rows = [] then some (i, 0) else match unl (dueM rows) (cs.map prOf) with
            | some k => some (i, k)
            | none => fwM os (nextM os rows (absOf cs)).2 (i + 1) (css.drop (i + 1)) := hfw
        have hsome : ∀ k : Nat, unl (dueM rows) (cs.map prOf) = some k → ((dueM rows).length = 0 → k = 0) → fwM os (firstM os) 0 css = some (i, k) := fun k hk h0 => by
          rw [hfw']
          by_cases z : idxs hasC rows = []
          · rw [if_pos z, h0 (e0.mp z)]
          · rw [if_neg z, hk]
        refine ⟨_, rfl, t, _, rfl, SqL.of htu6, for_enum0 (K := K) (a := t) (xs := us.map V.ref)
          (fun j σ H7 => ∃ x6 x7, σ = [some (.ref o), some (.ref cl), some (.ref d), some (.int (i : Nat)), some (.ref t), some (.ref D), x6, x7, x8, x9, x10, x11] ∧ Same H6 H7 ∧ j ≤ (dueM rows).length ∧ unl (dueM rows) (cs.map prOf) = (unl ((dueM rows).drop j) ((cs.map prOf).drop j)).map (· + j))
          ⟨_, _, rfl, Same.refl _, Nat.zero_le _, by simp⟩ (fun j σ H7 _ ⟨_, _, _, s7, _⟩ => SqL.of (s7 _ _ htu6)) ?_ ?_⟩
        · rintro j x T2 σ H7 hj ⟨x6, x7, rfl, s7, hjd, hu⟩ hT2
          obtain ⟨u, hu1, rfl⟩ := ref_get hj
          obtain ⟨q, hq⟩ : ∃ q, cs[j]? = some q := ⟨_, List.getElem?_eq_getElem (by rw [← hC.len]; exact (List.getElem?_eq_some_iff.mp hu1).1)⟩
          have hqp : (cs.map prOf)[j]? = some (prOf q) := by
            rw [List.getElem?_map, hq]
            rfl
          have m8 : Same H7 (upd H7 T2 (.tup [.int (j : Nat), .ref u])) := Same.new hT2
          have hT8 : (upd H7 T2 (.tup [.int (j : Nat), .ref u])) T2 = some (.tup [.int (j : Nat), .ref u]) := upd_same
          generalize upd H7 T2 (.tup [.int (j : Nat), .ref u]) = H8 at m8 hT8
          refine ⟨T2, _, rfl, SqT.of hT8, rfl, _, _, rfl, _, _, rfl, rfl, ?_⟩
          have s68 := s7.trans m8
          have s08 := s06.trans s68
          have hD8 := s68 _ _ hD6
          have huu := s68 _ _ (hC6.at' j u q hu1 hq)
          refine ⟨_, rfl, _, rfl, D, _, rfl, .inl (SqL.of hD8), _, _, rfl, rfl, _, rfl, ?_⟩
          rw [List.length_map, hqsl]
          by_cases hge : (dueM rows).length ≤ j
          · rw [decide_eq_true (show (((dueM rows).length : Nat) : Int) ≤ (j : Int) by omega)]
            have ej : j = (dueM rows).length := by omega
            have hk : unl (dueM rows) (cs.map prOf) = some j := by
              rw [hu, List.drop_of_length_le (show (dueM rows).length ≤ j by omega)]
              obtain ⟨hl, e⟩ := List.getElem?_eq_some_iff.mp hqp
              rw [List.drop_eq_getElem_cons hl]
              show some (0 + j) = some j
              rw [Nat.zero_add]
            refine iteT (iteT ⟨_, rfl, _, rfl, (by show 2 ≤ sizeLine; decide), fun tp htp => ?_⟩)
            exact ks i j (hsome j hk (fun z => by omega)) tp _ (s08.trans (Same.new htp)) upd_same
          · rw [decide_eq_false (show ¬ (((dueM rows).length : Nat) : Int) ≤ (j : Int) by omega)]
            obtain ⟨dq, hdq⟩ : ∃ dq, qs[j]? = some dq := ⟨_, List.getElem?_eq_getElem (by omega)⟩
            obtain ⟨dp, hdp⟩ : ∃ dp, (dueM rows)[j]? = some dp := ⟨_, List.getElem?_eq_getElem (by omega)⟩
            refine iteF ⟨_, rfl, _, rfl, u, _, rfl, SqT.of huu, (fun z => absurd z.2 (by show ¬ HT.sIx 3 3 (some 2) = 3; decide)), fun z hz => ?_⟩
            rw [cut_take (by decide)]
            have m9 : Same H8 (upd H8 z (.tup (([.int q.1, .int q.2.1, .bl q.2.2] : List V).take (2 : Int).toNat))) := Same.new hz
            have hz9 : (upd H8 z (.tup (([.int q.1, .int q.2.1, .bl q.2.2] : List V).take (2 : Int).toNat))) z = some (.tup [.int (prOf q).1, .int (prOf q).2]) := upd_same
            generalize upd H8 z (.tup (([.int q.1, .int q.2.1, .bl q.2.2] : List V).take (2 : Int).toNat)) = H9 at m9 hz9
            refine ⟨_, rfl, _, rfl, D, _, _, .ref dq, rfl, rfl, SqL.of (m9 _ _ hD8), at_of (j := j) rfl (by rw [List.getElem?_map, hdq]; rfl), _, _, dp_pr hz9, dp_pr (m9 _ _ (s68 _ _ (hP6.at' j dq dp hdq hdp))), Enc.pr.shaped (by decide) _, Enc.pr.shaped (by decide) _, _, rfl, ?_⟩
            rw [Enc.pr.eq]
            rw [unl_step hdp hqp] at hu
            by_cases e : prOf q = dp
            · rw [decide_eq_true e]
              rw [if_pos e.symm] at hu
              refine iteF ⟨_, _, rfl, s68.trans m9, by omega, ?_⟩
              rw [hu, Option.map_map]
              congr 1
              funext z
              show z + 1 + j = z + (j + 1)
              omega
            · rw [decide_eq_false e]
              rw [if_neg (fun z => e z.symm)] at hu
              have hu : unl (dueM rows) (cs.map prOf) = some (0 + j) := hu
              rw [Nat.zero_add] at hu
              refine iteT ⟨_, rfl, _, rfl, (by show 2 ≤ sizeLine; decide), fun tp htp => ?_⟩
              exact ks i j (hsome j hu (fun z => by omega)) tp _ ((s08.trans m9).trans (Same.new htp)) upd_same
        · rintro σ H7 ⟨x6, x7, rfl, s7, hjd, hu⟩
          rw [List.length_map, hC.len] at hjd hu
          rw [List.drop_of_length_le (show (cs.map prOf).length ≤ cs.length by rw [List.length_map]; exact Nat.le_refl _)] at hu
          have s07 := s06.trans s7
          have htu7 := s7 _ _ htu6
          have hC7 := hC6.mono s7
          have hD7 := s7 _ _ hD6
          refine ⟨_, rfl, Nat.zero_le _, fun e he => ?_⟩
          have m8 : Same H7 (upd H7 e (.lst [])) := Same.new he
          have he8 : (upd H7 e (.lst [])) e = some (.lst []) := upd_same
          generalize upd H7 e (.lst []) = H8 at m8 he8
          refine ⟨_, _, dp_calls (m8 _ _ htu7) (hC7.mono m8), .lst (SqL.of he8) .nil, shaped_calls cs, shaped_nil, _, rfl, ?_⟩
          rw [eqv_callsN]
          have s08 := s07.trans m8
          have ret : ∀ (hlt : cs.length < (dueM rows).length ∨ cs = []), ∀ (tp : Addr) (H' : Hp), Same H8 H' → H' tp = some (.tup [.int (i : Nat), .int ((us.map V.ref).length : Nat)]) → Q (.ref tp) H' := fun hlt tp H' s' htp => by
            have el : (us.map V.ref).length = cs.length := by rw [List.length_map, hC.len]
            rw [el] at htp
            refine ks i cs.length ?_ tp H' (s08.trans s') htp
            by_cases z : (dueM rows).length = 0
            · have e1 : cs = [] := by
                rcases hlt with h | h
                · omega
                · exact h
              rw [hfw', if_pos (e0.mpr z), e1]
              rfl
            · have hl : cs.length < (dueM rows).length := by
                rcases hlt with h | h
                · exact h
                · rw [h]
                  exact Nat.pos_of_ne_zero z
              refine hsome cs.length ?_ (fun z' => absurd z' z)
              rw [hu, List.drop_eq_getElem_cons hl]
              show some (0 + cs.length) = _
              rw [Nat.zero_add]
          by_cases hnil : cs = []
          · rw [decide_eq_true hnil]
            refine iteT (iteT ⟨_, rfl, _, rfl, t, _, rfl, .inl (SqL.of (m8 _ _ htu7)), (by show 2 ≤ sizeLine; decide), fun tp htp => ?_⟩)
            exact ret (.inr hnil) tp _ (Same.new htp) upd_same
          · rw [decide_eq_false hnil]
            refine iteF ⟨_, rfl, t, _, rfl, .inl (SqL.of (m8 _ _ htu7)), _, rfl, D, _, rfl, .inl (SqL.of (m8 _ _ hD7)), _, _, rfl, rfl, _, rfl, ?_⟩
            rw [List.length_map, List.length_map, hC.len, hqsl]
            by_cases hlt : cs.length < (dueM rows).length
            · rw [decide_eq_true (show ((cs.length : Nat) : Int) < (((dueM rows).length : Nat) : Int) by omega)]
              refine iteT ⟨_, rfl, _, rfl, t, _, rfl, .inl (SqL.of (m8 _ _ htu7)), (by show 2 ≤ sizeLine; decide), fun tp htp => ?_⟩
              exact ret (.inl hlt) tp _ (Same.new htp) upd_same
            · rw [decide_eq_false (show ¬ ((cs.length : Nat) : Int) < (((dueM rows).length : Nat) : Int) by omega)]
              refine iteF ?_
              have hlen : (dueM rows).length = cs.length := by omega
              have hun : unl (dueM rows) (cs.map prOf) = none := by
                rw [hu, List.drop_of_length_le (by omega)]
                rfl
              have hdue := unl_none hun
              have hnz : ¬ idxs hasC rows = [] := fun z => by
                have := e0.mp z
                exact hnil (List.length_eq_zero_iff.mp (by omega))
              have hfw2 : fwM os (firstM os) 0 css = fwM os (nextM os rows (absOf cs)).2 (i + 1) (css.drop (i + 1)) := by
                rw [hfw', if_neg hnz, hun]
              obtain ⟨ec, hdd⟩ := dues g hW hdue
              have hnd : (cs.map (·.1)).Nodup := by
                rw [ec]
                exact asc_nodup (idxs_asc hasC rows)
              have keepW := foldW_keep (rows := rows) cs hdd (fun q hq => List.mem_map_of_mem hq) hnd
              have hnext := next_due g hW hdue
              have s38 := s36.trans (s7.trans m8)
              have hd8 := s38 _ _ hd3
              have hDR8 := hDR3.mono (KL.of s38)
              have ntd : t ≠ d := fun z => by rw [z, hd0] at htus; cases htus
              refine ⟨_, rfl, t, rfl, ⟨_, SqL.of (m8 _ _ htu7)⟩, for_list (K := K) (a := t) (xs := us.map V.ref)
                (fun m σ H9 => ∃ (x8 x9 x10 x11 : Option V) (kv : List (Key × V)), σ = [some (.ref o), some (.ref cl), some (.ref d), some (.int (i : Nat)), some (.ref t), some (.ref D), x6, x7, x8, x9, x10, x11] ∧ Same H H9 ∧ H9 d = some (.dK kv) ∧ DR H9 kv ((cs.take m).foldl (stepW os) rows))
                ⟨_, _, _, _, kvs, rfl, s08, hd8, hDR8⟩ (fun m σ H9 _ ⟨_, _, _, _, _, _, s9, _⟩ => SqL.of (s9 _ _ htus)) ?_ ?_⟩
              · rintro m x σ H9 hm ⟨x8, x9, x10, x11, kv, rfl, s9, hd9, hDR9⟩
                obtain ⟨u, hu1, rfl⟩ := ref_get hm
                obtain ⟨q, hq⟩ : ∃ q, cs[m]? = some q := ⟨_, List.getElem?_eq_getElem (by rw [← hC.len]; exact (List.getElem?_eq_some_iff.mp hu1).1)⟩
                have huu := s9 _ _ (hC.at' m u q hu1 hq)
                have dq := hdd q (List.mem_of_getElem? hq)
                obtain ⟨p, ep, hrp, hcp⟩ := dq.tl (keepW m q hq)
                have hpl : p < ((cs.take m).foldl (stepW os) rows).length := (List.getElem?_eq_some_iff.mp hcp).1
                have hcl40 : ((cs.take m).foldl (stepW os) rows).length = os.length := by rw [foldW_len, hrl]
                rw [take_snoc hq, List.foldl_append]
                show _
                have hst : [q].foldl (stepW os) ((cs.take m).foldl (stepW os) rows) = stepW os ((cs.take m).foldl (stepW os) rows) q := rfl
                rw [hst]
                generalize (cs.take m).foldl (stepW os) rows = cur at hDR9 hcp hpl hcl40 hrp
                obtain ⟨c, x, b⟩ := q
                have ep : c = (p : Int) := ep
                subst ep
                have hx := dq.inR
                have hx : 0 < x ∧ x < os.length := hx
                have hcp : cur[p]? = some (some (x :: tlR cur (p : Int))) := hcp
                obtain ⟨r, hv, hr⟩ := hDR9.yes p _ hcp
                have hox : os[x.toNat]? = some (ch os x) := ch_get (by omega) hx.2
                obtain ⟨ro, hro1, hroH⟩ := OL.at hO hox
                have hrowl : (ch os x).length ≤ 40 := Nat.le_trans (nodup_len (n := os.length) (g.row hox).1 fun y hy => by have := (g.row hox).2 y hy; omega) n40
                have htl40 : (tlR cur (p : Int)).length ≤ 40 := by
                  have := (hin.row p _ hrp).1
                  simp at this
                  omega
                have hkv : kv.length ≤ 40 := by
                  have := hDR9.len
                  omega
                refine ⟨u, _, rfl, SqT.of huu, rfl, _, _, rfl, _, _, rfl, _, _, rfl, rfl, ?_⟩
                refine ⟨_, rfl, _, rfl, d, _, rfl, (by rw [← hv]; exact DGet.k (k := .inl (p : Int)) hd9), _, rfl, r, _, rfl, SqL.of hr, fun rb hrb => ?_⟩
                rw [cut_tail (by simp)]
                have ma : Same H9 (upd H9 rb (.lst (((x :: tlR cur (p : Int)).map V.int).drop 1))) := Same.new hrb
                have hrba : (upd H9 rb (.lst (((x :: tlR cur (p : Int)).map V.int).drop 1))) rb = some (.lst ((tlR cur (p : Int)).map V.int)) := upd_same
                generalize upd H9 rb (.lst (((x :: tlR cur (p : Int)).map V.int).drop 1)) = Ha at ma hrba
                have s0a := s9.trans ma
                have hda := ma _ _ hd9
                have hDRa := hDR9.mono (KL.of ma)
                have exn : ((x.toNat : Nat) : Int) = x := by omega
                cases b with
                | true =>
                  refine ⟨_, rfl, true, rfl, iteT ?_⟩
                  refine ⟨_, rfl, _, rfl, o, _, _, .ref ro, rfl, rfl, SqL.of (s0a _ _ ho), at_of (j := x.toNat) (show x = ((x.toNat : Nat) : Int) by omega) hro1, ro, _, rfl, .inl (SqL.of (s0a _ _ hroH)), fun q2 hq2 => ?_⟩
                  have mb : Same Ha (upd Ha q2 (.lst ((ch os x).map V.int))) := Same.new hq2
                  have hqb : (upd Ha q2 (.lst ((ch os x).map V.int))) q2 = some (.lst ((ch os x).map V.int)) := upd_same
                  generalize upd Ha q2 (.lst ((ch os x).map V.int)) = Hb at mb hqb
                  have hdb := mb _ _ hda
                  refine ⟨_, rfl, _, rfl, d, _, rfl, DPut.k (k := .inl x) hdb (small1000 (by omega)), ?_⟩
                  have hDRb := (hDRa.mono (KL.of mb)).put (p := x.toNat) (r := q2) (l := ch os x) (by omega) hqb
                  rw [exn] at hDRb
                  have klc : KL Hb (upd Hb d (.dK (putK kv (.inl x) (.ref q2)))) := KL.dK hdb
                  have hdc : (upd Hb d (.dK (putK kv (.inl x) (.ref q2)))) d = some (.dK (putK kv (.inl x) (.ref q2))) := upd_same
                  have s0c : Same H (upd Hb d (.dK (putK kv (.inl x) (.ref q2)))) := (s0a.trans mb).upd hd0
                  have hlp := length_putK kv (.inl x : Key) (.ref q2)
                  generalize upd Hb d (.dK (putK kv (.inl x) (.ref q2))) = Hc at klc hdc s0c
                  have hDRc := hDRb.mono klc
                  have hrbc := klc _ _ (mb _ _ hrba)
                  refine ⟨_, rfl, _, rfl, _, rfl, d, _, rfl, DPut.k (k := .inl (p : Int)) hdc (small1000 (by omega)), ?_⟩
                  have hDRd := hDRc.put (p := p) (r := rb) (l := tlR cur (p : Int)) (by rw [List.length_set]; exact hpl) hrbc
                  refine ⟨_, _, _, _, _, rfl, s0c.upd hd0, upd_same, ?_⟩
                  have es : stepW os cur ((p : Int), x, true) = (cur.set x.toNat (some (ch os x))).set p (some (tlR cur (p : Int))) := by
                    unfold stepW
                    rw [if_pos rfl]
                    rfl
                  rw [es]
                  exact hDRd.mono (KL.dK hdc)
                | false =>
                  refine ⟨_, rfl, false, rfl, iteF ?_⟩
                  refine ⟨_, rfl, _, rfl, o, _, _, .ref ro, rfl, rfl, SqL.of (s0a _ _ ho), at_of (j := x.toNat) (show x = ((x.toNat : Nat) : Int) by omega) hro1, ro, _, rfl, .inl (SqL.of (s0a _ _ hroH)), fun q2 hq2 => ?_⟩
                  have mb : Same Ha (upd Ha q2 (.lst ((ch os x).map V.int))) := Same.new hq2
                  have hqb : (upd Ha q2 (.lst ((ch os x).map V.int))) q2 = some (.lst ((ch os x).map V.int)) := upd_same
                  generalize upd Ha q2 (.lst ((ch os x).map V.int)) = Hb at mb hqb
                  refine ⟨_, rfl, q2, rb, _, _, rfl, rfl, hqb, mb _ _ hrba, ?_, fun q3 hq3 => ?_⟩
                  · rw [List.length_map, List.length_map]
                    exact Nat.le_of_lt (small1000 (by omega))
                  have mc : Same Hb (upd Hb q3 (.lst ((ch os x).map V.int ++ (tlR cur (p : Int)).map V.int))) := Same.new hq3
                  have hqc : (upd Hb q3 (.lst ((ch os x).map V.int ++ (tlR cur (p : Int)).map V.int))) q3 = some (.lst ((ch os x).map V.int ++ (tlR cur (p : Int)).map V.int)) := upd_same
                  generalize upd Hb q3 (.lst ((ch os x).map V.int ++ (tlR cur (p : Int)).map V.int)) = Hc at mc hqc
                  have mac := mb.trans mc
                  have hdc := mac _ _ hda
                  refine ⟨_, rfl, _, rfl, d, _, rfl, DPut.k (k := .inl (p : Int)) hdc (small1000 (by omega)), ?_⟩
                  have hDRc := (hDRa.mono (KL.of mac)).put (p := p) (r := q3) (l := ch os x ++ tlR cur (p : Int)) hpl (by rw [List.map_append]; exact hqc)
                  refine ⟨_, _, _, _, _, rfl, (s0a.trans mac).upd hd0, upd_same, ?_⟩
                  have es : stepW os cur ((p : Int), x, false) = cur.set p (some (ch os x ++ tlR cur (p : Int))) := by
                    unfold stepW
                    rw [if_neg (by simp)]
                    rfl
                  rw [es]
                  exact hDRc.mono (KL.dK hdc)
              · rintro σ H9 ⟨x8, x9, x10, x11, kv, rfl, s9, hd9, hDR9⟩
                rw [List.length_map, hC.len, List.take_length, ← hnext] at hDR9
                exact ⟨_, _, _, _, _, _, _, _, _, kv, _, rfl, s9, hd9, hDR9, (next_law (as := absOf cs) g hW).1, hfw2⟩
    · clear hq13 hd3 s3 hq12 m2 hq1 hd1 m1
      rintro σ H2 ⟨x3, x4, x5, x6, x7, x8, x9, x10, x11, kvs, rows, rfl, s2, hd, hDR, hW, hfw⟩
      rw [List.length_map, hCS.len, List.drop_length] at hfw
      have hfw : fwM os (firstM os) 0 css = if idxs hasC rows = [] then none else some (css.length, 0) := hfw
      have hrl := hW.len
      have hkl := hDR.len
      refine ⟨d, .dK kvs, hd, trivial, fun od => ?_⟩
      have kl4 : KL H2 (upd H2 d (.frz od (.dK kvs))) := KL.dK hd
      have hd4 : (upd H2 d (.frz od (.dK kvs))) d = some (.frz od (.dK kvs)) := upd_same
      refine ⟨_, rfl, d, od, rfl, .inl ⟨kvs, hd4, fun D hD => ?_⟩⟩
      refine lc_it (J := Itk d od kvs) kvs.length (fun i H5 => Same (upd H2 d (.frz od (.dK kvs))) H5 ∧ ∃ bs : List Bool, bs.length = i ∧ H5 D = some (.lst (bs.map V.bl)) ∧ ∀ (j : Nat) (b : Bool) (q : Key × V), bs[j]? = some b → kvs[j]? = some q → ∃ (p : Nat) (l : List Int), q.1 = .inl (p : Int) ∧ rows[p]? = some (some l) ∧ b = !decide (l = []))
        ⟨Same.new hD, [], rfl, upd_same, fun j b q h _ => by simp at h⟩ (fun i H5 hi ⟨s5, _⟩ => ⟨s5 _ _ hd4, hi⟩) (fun H5 ⟨s5, _⟩ => ⟨s5 _ _ hd4, Nat.le_refl _⟩) ?_ ?_
      · rintro i y H5 H5' hi ⟨s5, bs, hbl, hD5, hbs⟩ ⟨rfl, kk, vv, hkv, rfl⟩
        obtain ⟨pp, ek, hpl⟩ := hDR.key kk (List.mem_map.mpr ⟨_, List.mem_of_getElem? hkv, rfl⟩)
        subst ek
        have hval := val_at hDR.nd hkv
        obtain ⟨l, hl⟩ : ∃ l, rows[pp]? = some (some l) := by
          cases hc : rows[pp] with
          | none =>
            have := hDR.no pp (by rw [List.getElem?_eq_getElem hpl, hc])
            rw [this] at hval
            cases hval
          | some l => exact ⟨l, by rw [List.getElem?_eq_getElem hpl, hc]⟩
        obtain ⟨r, hv, hr⟩ := hDR.yes pp l hl
        have hr5 := s5 _ _ (kl4 _ _ hr)
        refine ⟨rfl, yesT ?_⟩
        refine ⟨_, rfl, _, rfl, d, _, rfl, (by rw [← hv]; exact .inl ⟨kvs, .inl (pp : Int), .inr ⟨od, s5 _ _ hd4⟩, rfl, rfl⟩), Nat.zero_le _, fun e he => ?_⟩
        have m6 : Same H5' (upd H5' e (.lst [])) := Same.new he
        refine ⟨.list (l.map PyData.int), .list [], dp_ints (SqL.of (m6 _ _ hr5)), .lst (SqL.of upd_same) .nil, shaped_ints l, shaped_nil, bs.map V.bl, m6 _ _ hD5, ?_, (s5.trans m6).upd hD, bs ++ [!decide (l = [])], ?_, ?_, fun j b q hj hq => ?_⟩
        · rw [List.length_map]
          exact small1000 (by omega)
        · rw [List.length_append, hbl]
          rfl
        · rw [upd_same, eqv_nil, List.map_append]
          rfl
        · by_cases hjl : j < bs.length
          · rw [List.getElem?_append_left hjl] at hj
            exact hbs j b q hj hq
          · rw [List.getElem?_append_right (by omega)] at hj
            have ej : j - bs.length = 0 := by
              have := (List.getElem?_eq_some_iff.mp hj).1
              simp at this
              omega
            rw [ej] at hj
            have eb : b = !decide (l = []) := (Option.some.inj hj).symm
            have ejj : j = i := by omega
            subst ejj
            rw [hkv] at hq
            cases hq
            exact ⟨pp, l, rfl, hl, eb⟩
      · rintro H5 ⟨s5, bs, hbl, hD5, hbs⟩
        refine ⟨s5 _ _ hd4, ?_⟩
        have s06 : Same H2 (upd H5 d (.dK kvs)) := lock_same' hd s5
        have hD6 : (upd H5 d (.dK kvs)) D = some (.lst (bs.map V.bl)) := by
          rw [upd_ne (Ne.symm (ne_of_none hd4 hD))]
          exact hD5
        generalize upd H5 d (.dK kvs) = H6 at s06 hD6
        have s6 := s2.trans s06
        refine ⟨D, bs, rfl, SqL.of hD6, _, rfl, ?_⟩
        by_cases hz : idxs hasC rows = []
        · rw [if_pos hz] at hfw
          have e : bs.any id = false := by
            rw [Bool.eq_false_iff]
            intro hany
            obtain ⟨b, hb, hbt⟩ := List.any_eq_true.mp hany
            obtain ⟨j, hj⟩ := List.getElem?_of_mem hb
            obtain ⟨q, hq⟩ : ∃ q, kvs[j]? = some q := ⟨_, List.getElem?_eq_getElem (by rw [← hbl]; exact (List.getElem?_eq_some_iff.mp hj).1)⟩
            obtain ⟨p, l, _, h2, h3⟩ := hbs j b q hj hq
            have hbt : b = true := hbt
            rw [hbt] at h3
            have : (p : Int) ∈ idxs hasC rows := idxs_mem.mpr ⟨p, _, rfl, h2, by cases l with | nil => simp at h3 | cons _ _ => rfl⟩
            rw [hz] at this
            cases this
          rw [e]
          exact iteF (kn hfw H6 s6)
        · rw [if_neg hz] at hfw
          have e : bs.any id = true := by
            obtain ⟨c, cr, hcr⟩ : ∃ c cr, idxs hasC rows = c :: cr := by
              cases hq : idxs hasC rows with
              | nil => exact absurd hq hz
              | cons c cr => exact ⟨c, cr, rfl⟩
            obtain ⟨p, row, _, h1, h2⟩ := idxs_mem.mp (show c ∈ idxs hasC rows by rw [hcr]; exact List.mem_cons_self)
            obtain ⟨y, rest, rfl⟩ := hasC_cons h2
            obtain ⟨r, hv, _⟩ := hDR.yes p _ h1
            obtain ⟨q, hq, eq⟩ := List.mem_map.mp (valV_in hv)
            obtain ⟨j, hj⟩ := List.getElem?_of_mem hq
            obtain ⟨b, hb⟩ : ∃ b, bs[j]? = some b := ⟨_, List.getElem?_eq_getElem (by rw [hbl]; exact (List.getElem?_eq_some_iff.mp hj).1)⟩
            obtain ⟨p', l, h3, h4, h5⟩ := hbs j b q hb hj
            have epp : p' = p := by
              rw [h3] at eq
              injection eq with eq
              omega
            subst epp
            rw [h1] at h4
            have el : l = y :: rest := (Option.some.inj (Option.some.inj h4)).symm
            refine List.any_eq_true.mpr ⟨b, List.mem_of_getElem? hb, ?_⟩
            rw [h5, el]
            rfl
          rw [e]
          refine iteT ⟨_, rfl, cl, _, rfl, .inl (SqL.of (s6 _ _ hcl)), (by show 2 ≤ sizeLine; decide), fun tp htp => ?_⟩
          have el : ((ts.map V.ref).length : Nat) = css.length := by rw [List.length_map, hCS.len]
          refine ks css.length 0 hfw tp _ (s6.trans (Same.new htp)) ?_
          rw [upd_same, el]
          rfl
end
end Toy

set_option Elab.async false
set_option linter.all false
set_option maxRecDepth 100000
set_option maxHeartbeats 4000000
namespace L2
open PySem PySem.Spec
theorem pi_tupK {X : Cx} {tg : Expr} (K : PySem.W.Frag) {l : Expr} {tl : TE} (hl : PE X l tl) (h : X.K = K := by rfl) : PI X tg l (iTup K tl) := h ▸ pi_tup hl
end L2
namespace Toy
open PySem L2
theorem kitBB {K : PySem.W.Frag} {u : Value} (h : RelV (.ty "bool") u) : PySem.W.kitOne K (.type "bool") u = some true := by
  cases h
  kernel_rfl
abbrev RV := Hp → V → Prop
def Mono (R : RV) : Prop := ∀ (H H' : Hp) (v : V), Same H H' → R H v → R H' v
def Val (te : TE) (σ : St) (H : Hp) (n : Nat) (R : RV) : Prop := ∀ Q : VK, (∀ a xs H', Same H H' → H' a = some (.lst xs) → xs.length ≤ n → (∀ x ∈ xs, R H' x) → Q (.ref a) H') → te σ H Q
def Sub (te : TE) (σ : St) (H : Hp) (n : Nat) (R : RV) : Prop := ∀ Q : VK, (∀ a xs H', Same H H' → H a = none → H' a = some (.lst xs) → xs.length ≤ n → (∀ x ∈ xs, R H' x) → Q (.ref a) H') → te σ H Q
theorem Sub.val {te : TE} {σ : St} {H : Hp} {n : Nat} {R : RV} (h : Sub te σ H n R) : Val te σ H n R := fun Q k => h Q fun a xs H' s _ e l r => k a xs H' s e l r
theorem Sub.le {te : TE} {σ : St} {H : Hp} {n m : Nat} {R : RV} (h : Sub te σ H n R) (l : n ≤ m) : Sub te σ H m R := fun Q k => h Q fun a xs H' s f e l' r => k a xs H' s f e (Nat.le_trans l' l) r
theorem Val.var {i : Nat} {σ : St} {H : Hp} {n : Nat} {R : RV} {a : Addr} {xs : List V} (hσ : σ[i]? = some (some (.ref a))) (ha : H a = some (.lst xs)) (hl : xs.length ≤ n) (hR : ∀ x ∈ xs, R H x) : Val (tVar i) σ H n R := fun Q k => ⟨_, hσ, k a xs H (Same.refl H) ha hl hR⟩
theorem cut_len {xs : List V} {lo hi : Option Int} : (cutV xs lo hi).length ≤ xs.length := by
  unfold cutV
  rw [List.length_take, List.length_drop]
  omega
theorem Sub.cut {K : PySem.W.Frag} {i : Nat} {σ : St} {H : Hp} {n : Nat} {R : RV} {a : Addr} {xs : List V} {lo hi : TO} (m : Mono R) (hσ : σ[i]? = some (some (.ref a))) (ha : H a = some (.lst xs)) (hl : xs.length ≤ n) (hR : ∀ x ∈ xs, R H x)
    (hlo : ∀ R' : Option Int → Hp → Prop, (∀ z, R' z H) → lo σ H R') (hhi : ∀ R' : Option Int → Hp → Prop, (∀ z, R' z H) → hi σ H R') : Sub (tSl (rSlL K) (tVar i) lo hi) σ H n R :=
  fun Q k => ⟨_, hσ, hlo _ fun z => hhi _ fun z' => ⟨a, xs, rfl, SqL.of ha, fun p hp => k p _ _ (Same.new hp) hp upd_same (Nat.le_trans cut_len hl) fun x hx => m _ _ _ (Same.new hp) (hR x (cut_mem hx))⟩⟩
theorem Sub.rev {K : PySem.W.Frag} {i : Nat} {σ : St} {H : Hp} {n : Nat} {R : RV} {a : Addr} {xs : List V} (m : Mono R) (hσ : σ[i]? = some (some (.ref a))) (ha : H a = some (.lst xs)) (hl : xs.length ≤ n) (hR : ∀ x ∈ xs, R H x) : Sub (tRev K (tVar i)) σ H n R :=
  fun Q k => ⟨_, hσ, a, xs, rfl, SqL.of ha, fun p hp => k p _ _ (Same.new hp) hp upd_same (by rw [List.length_reverse]; exact hl) fun x hx => m _ _ _ (Same.new hp) (hR x (List.mem_reverse.mp hx))⟩
theorem Sub.cat {ta tb : TE} {σ : St} {H : Hp} {n n' : Nat} {R : RV} (m : Mono R) (h1 : Val ta σ H n R) (h2 : ∀ H1, Same H H1 → Val tb σ H1 n' R) (hs : n + n' ≤ 1000) : Sub (tOp rCat ta tb) σ H (n + n') R :=
  fun Q k => h1 _ fun a xs H1 s1 ha la ra => h2 H1 s1 _ fun b ys H2 s2 hb lb rb => ⟨a, b, xs, ys, rfl, rfl, s2 _ _ ha, hb, Nat.le_trans (show xs.length + ys.length ≤ 1000 by omega) (by decide), fun p hp =>
    k p _ _ ((s1.trans s2).trans (Same.new hp)) ((s1.trans s2).free hp) upd_same (by rw [List.length_append]; omega) fun x hx => m _ _ _ (Same.new hp) ((List.mem_append.mp hx).elim (fun h => m _ _ _ s2 (ra x h)) (fun h => rb x h))⟩
theorem Sub.nil {σ : St} {H : Hp} {R : RV} : Sub (tLst tNil) σ H 0 R := fun Q k => ⟨Nat.zero_le _, fun p hp => k p [] _ (Same.new hp) hp upd_same (Nat.le_refl _) fun x hx => by simp at hx⟩
theorem Sub.one {te : TE} {σ : St} {H : Hp} {R : RV} (m : Mono R) (h : ∀ Q : VK, (∀ v H', Same H H' → R H' v → Q v H') → te σ H Q) : Sub (tLst (tCons te tNil)) σ H 1 R :=
  fun Q k => h _ fun v H' s r => ⟨(by show 1 ≤ sizeLine; decide), fun p hp => k p [v] _ (s.trans (Same.new hp)) (s.free hp) upd_same (Nat.le_refl _) fun x hx => by
    rw [List.mem_singleton.mp hx]
    exact m _ _ _ (Same.new hp) r⟩
def Itm (n : Nat) (R : RV) (H0 H : Hp) (v : V) : Prop := ∃ a xs, v = .ref a ∧ H0 a = none ∧ H a = some (.lst xs) ∧ xs.length ≤ n ∧ ∀ x ∈ xs, R H x
def SubA (ta : TA) (σ : St) (H : Hp) (k n : Nat) (R : RV) : Prop := ∀ Q : List V → Hp → Prop, (∀ vs H', Same H H' → vs.length = k → (∀ v ∈ vs, Itm n R H H' v) → Q vs H') → ta σ H Q
theorem SubA.nil {σ : St} {H : Hp} {n : Nat} {R : RV} : SubA tNil σ H 0 n R := fun Q c => c [] H (Same.refl H) rfl fun v hv => by simp at hv
theorem SubA.cons {te : TE} {ta : TA} {σ : St} {H : Hp} {k n : Nat} {R : RV} (m : Mono R) (h1 : Sub te σ H n R) (h2 : ∀ H1, Same H H1 → SubA ta σ H1 k n R) : SubA (tCons te ta) σ H (k + 1) n R :=
  fun Q c => h1 _ fun a xs H1 s1 h0 ha la ra => h2 H1 s1 _ fun vs H2 s2 hv hI => c _ H2 (s1.trans s2) (by rw [List.length_cons, hv]) fun v hv => (List.mem_cons.mp hv).elim (fun e => ⟨a, xs, e, h0, s2 _ _ ha, la, fun x hx => m _ _ _ s2 (ra x hx)⟩)
    (fun e => let ⟨b, ys, e1, e2, e3⟩ := hI v e; ⟨b, ys, e1, s1.free e2, e3⟩)
theorem SubA.lst {ta : TA} {σ : St} {H : Hp} {k n : Nat} {R : RV} {Q : VK} (m : Mono R) (h : SubA ta σ H k n R) (hk : k ≤ 1000) (c : ∀ (F : Addr) (vs : List V) (H1 H' : Hp), Same H H1 → H1 F = none → H' = L2.upd H1 F (.lst vs) → vs.length = k → (∀ v ∈ vs, Itm n R H H1 v) → Q (.ref F) H') : tLst ta σ H Q :=
  h _ fun vs H1 s1 hv hI => ⟨Nat.le_trans (show vs.length ≤ 1000 by omega) (by decide), fun F hF => c F vs H1 _ s1 hF rfl hv hI⟩
def CDc : RV := fun H v => ∃ (u : Addr) (q : Call), v = .ref u ∧ H u = some (.tup [.int q.1, .int q.2.1, .bl q.2.2])
def RDc (n : Nat) : RV := fun H v => ∃ (t : Addr) (xs : List V), v = .ref t ∧ H t = some (.lst xs) ∧ xs.length ≤ n ∧ ∀ x ∈ xs, CDc H x
def SPc (n k : Nat) : RV := fun H v => ∃ (t : Addr) (xs : List V), v = .ref t ∧ H t = some (.lst xs) ∧ xs.length ≤ k ∧ ∀ x ∈ xs, RDc n H x
theorem CDc.mono : Mono CDc := fun H H' v s ⟨u, q, e, h⟩ => ⟨u, q, e, s _ _ h⟩
theorem RDc.mono {n : Nat} : Mono (RDc n) := fun H H' v s ⟨t, xs, e, h, l, r⟩ => ⟨t, xs, e, s _ _ h, l, fun x hx => CDc.mono _ _ _ s (r x hx)⟩
theorem SPc.mono {n k : Nat} : Mono (SPc n k) := fun H H' v s ⟨t, xs, e, h, l, r⟩ => ⟨t, xs, e, s _ _ h, l, fun x hx => RDc.mono _ _ _ s (r x hx)⟩
theorem CDc.put {H : Hp} {v : V} {R : Addr} {ys : List V} {o : HO} (h : CDc H v) (hR : H R = some (.lst ys)) : CDc (L2.upd H R o) v := by
  obtain ⟨u, q, e, h⟩ := h
  refine ⟨u, q, e, ?_⟩
  rw [upd_ne (fun z => by rw [z, hR] at h; cases h)]
  exact h
def RDx (R : Addr) (n : Nat) : RV := fun H v => ∃ (t : Addr) (xs : List V), v = .ref t ∧ t ≠ R ∧ H t = some (.lst xs) ∧ xs.length ≤ n ∧ ∀ x ∈ xs, CDc H x
theorem RDx.mono {R : Addr} {n : Nat} : Mono (RDx R n) := fun H H' v s ⟨t, xs, e, z, h, l, r⟩ => ⟨t, xs, e, z, s _ _ h, l, fun x hx => CDc.mono _ _ _ s (r x hx)⟩
theorem RDx.rd {R : Addr} {n : Nat} {H : Hp} {v : V} : RDx R n H v → RDc n H v := fun ⟨t, xs, e, _, h, l, r⟩ => ⟨t, xs, e, h, l, r⟩
theorem RDx.put {H : Hp} {v : V} {R : Addr} {n : Nat} {ys : List V} {o : HO} (h : RDx R n H v) (hR : H R = some (.lst ys)) : RDx R n (L2.upd H R o) v := by
  obtain ⟨t, xs, e, z, h, l, r⟩ := h
  exact ⟨t, xs, e, z, (by rw [upd_ne z]; exact h), l, fun x hx => (r x hx).put hR⟩
theorem CL.cd {H : Hp} {us : List Addr} {cs : List Call} (h : CL H us cs) : ∀ x ∈ us.map V.ref, CDc H x := by
  intro x hx
  obtain ⟨i, hi⟩ := List.getElem?_of_mem hx
  obtain ⟨u, hu, rfl⟩ := ref_get hi
  obtain ⟨q, hq⟩ : ∃ q, cs[i]? = some q := ⟨_, List.getElem?_eq_getElem (by rw [← h.len]; exact (List.getElem?_eq_some_iff.mp hu).1)⟩
  exact ⟨u, q, rfl, h.at' i u q hu hq⟩
theorem CS.rd {H : Hp} {ts : List Addr} {css : List (List Call)} {n : Nat} (h : CS H ts css) (hn : ∀ cs ∈ css, cs.length ≤ n) : ∀ x ∈ ts.map V.ref, RDc n H x := by
  intro x hx
  obtain ⟨i, hi⟩ := List.getElem?_of_mem hx
  obtain ⟨t, ht, rfl⟩ := ref_get hi
  obtain ⟨cs, hcs⟩ : ∃ cs, css[i]? = some cs := ⟨_, List.getElem?_eq_getElem (by rw [← h.len]; exact (List.getElem?_eq_some_iff.mp ht).1)⟩
  obtain ⟨us, hu, hC⟩ := h.at' i t cs ht hcs
  exact ⟨t, _, rfl, hu, by rw [List.length_map, hC.len]; exact hn cs (List.mem_of_getElem? hcs), hC.cd⟩
theorem cd_cl {H : Hp} : ∀ {xs : List V}, (∀ x ∈ xs, CDc H x) → ∃ (us : List Addr) (cs : List Call), xs = us.map V.ref ∧ CL H us cs
  | [], _ => ⟨[], [], rfl, CL.nil⟩
  | x :: xs, h => by
    obtain ⟨us, cs, rfl, hC⟩ := cd_cl (xs := xs) fun y hy => h y (List.mem_cons_of_mem _ hy)
    obtain ⟨u, q, rfl, hu⟩ := h x List.mem_cons_self
    refine ⟨u :: us, q :: cs, rfl, by rw [List.length_cons, List.length_cons, hC.len], fun p t c hp hc => ?_⟩
    cases p with
    | zero =>
      cases hp
      cases hc
      exact hu
    | succ p => exact hC.at' p t c hp hc
theorem rd_cs {H : Hp} {n : Nat} : ∀ {xs : List V}, (∀ x ∈ xs, RDc n H x) → ∃ (ts : List Addr) (css : List (List Call)), xs = ts.map V.ref ∧ CS H ts css ∧ ∀ cs ∈ css, cs.length ≤ n
  | [], _ => ⟨[], [], rfl, ⟨rfl, fun i t cs h _ => by simp at h⟩, by simp⟩
  | x :: xs, h => by
    obtain ⟨ts, css, rfl, hC, hn⟩ := rd_cs (xs := xs) fun y hy => h y (List.mem_cons_of_mem _ hy)
    obtain ⟨t, ys, rfl, ht, hl, hy⟩ := h x List.mem_cons_self
    obtain ⟨us, cs, rfl, hc⟩ := cd_cl hy
    refine ⟨t :: ts, cs :: css, rfl, ⟨by rw [List.length_cons, List.length_cons, hC.len], fun i t' cs' hp hq => ?_⟩, fun c hc' => ?_⟩
    · cases i with
      | zero =>
        cases hp
        cases hq
        exact ⟨us, ht, hc⟩
      | succ i => exact hC.at' i t' cs' hp hq
    · rcases List.mem_cons.mp hc' with rfl | hc'
      · rw [← hc.len, ← List.length_map (f := V.ref)]
        exact hl
      · exact hn c hc'
theorem CS.dpAll {K : PySem.W.Frag} {H : Hp} : ∀ {ts : List Addr} {css : List (List Call)}, CS H ts css → DpAll K H (ts.map V.ref) (css.map fun cs => .list (cs.map callD))
  | [], [], _ => .nil
  | [], _ :: _, h => absurd h.len (by simp)
  | _ :: _, [], h => absurd h.len (by simp)
  | t :: ts, cs :: css, h => by
    obtain ⟨us, p, q⟩ := h.at' 0 t cs rfl rfl
    exact .cons (dp_calls p q) (CS.dpAll ⟨by have := h.len; simpa using this, fun i t c hp hc => h.at' (i + 1) t c hp hc⟩)
theorem eqv_roundsN (css : List (List Call)) : PyData.eqv (roundsD css) (.list []) = decide (css = []) := Enc.rounds.eq css []
def MkC (te : TE) (σ : St) (H : Hp) : Prop := ∀ Q : VK, (∀ v H', Same H H' → CDc H' v → Q v H') → te σ H Q
theorem MkC.tup {ta : TA} {σ : St} {H : Hp} (h : ∀ Q' : List V → Hp → Prop, (∀ (a b : Int) (c : Bool), Q' [.int a, .int b, .bl c] H) → ta σ H Q') : MkC (tTup ta) σ H :=
  fun Q k => h _ fun a b c => ⟨(by show 3 ≤ sizeLine; decide), fun p hp => k _ _ (Same.new hp) ⟨p, (a, b, c), rfl, upd_same⟩⟩
def AllA (ta : TA) (σ : St) (H : Hp) (k : Nat) : Prop := ∀ Q : List V → Hp → Prop, (∀ vs H', Same H H' → vs.length = k → (∀ v ∈ vs, CDc H' v) → Q vs H') → ta σ H Q
theorem AllA.nil {σ : St} {H : Hp} : AllA tNil σ H 0 := fun Q c => c [] H (Same.refl H) rfl fun v hv => by simp at hv
theorem AllA.cons {te : TE} {ta : TA} {σ : St} {H : Hp} {k : Nat} (h1 : MkC te σ H) (h2 : ∀ H1, Same H H1 → AllA ta σ H1 k) : AllA (tCons te ta) σ H (k + 1) :=
  fun Q c => h1 _ fun v H1 s1 hv => h2 H1 s1 _ fun vs H2 s2 hl hI => c _ H2 (s1.trans s2) (by rw [List.length_cons, hl]) fun x hx => (List.mem_cons.mp hx).elim (fun e => e ▸ CDc.mono _ _ _ s2 hv) (hI x)
theorem AllA.lst {ta : TA} {σ : St} {H : Hp} {k : Nat} {Q : VK} (h : AllA ta σ H k) (hk : k ≤ 1000) (c : ∀ (F : Addr) (vs : List V) (H' : Hp), Same H H' → H F = none → H' F = some (.lst vs) → vs.length = k → (∀ v ∈ vs, CDc H' v) → Q (.ref F) H') : tLst ta σ H Q :=
  h _ fun vs H1 s1 hv hI => ⟨Nat.le_trans (show vs.length ≤ 1000 by omega) (by decide), fun F hF => c F vs _ (s1.trans (Same.new hF)) (s1.free hF) upd_same hv fun v hv => CDc.mono _ _ _ (Same.new hF) (hI v hv)⟩
section
variable {P : Program} {w : World} {K : PySem.W.Frag} {mg : Str → Option Value} {base : Heap} {A : Adr}
def spSays : Sp := fun vs H Q _ => ∃ a b : Bool, vs = [.bl a, .bl b] ∧ Q (.bl (decide (a = b))) H
theorem sc_law_says : FnScope ["_law_said", "_law_due"] ["_law_said", "_law_due"] (defScope s_law_says) := ⟨rfl, rfl, rfl, by decide +kernel, rfl, by decide +kernel, by decide +kernel⟩
theorem ok_law_says (T : Txt K mg A) : FnOk P w K mg base CX0 1 A.f_law_says A.d_law_says ["_law_said", "_law_due"] spSays := by
  refine T.f_law_says.ok sc_law_says (fun vs H Q E h => ?_) (fun cdv A' outer s H vs Q E hr h => ?_)
  · obtain ⟨a, b, rfl, _⟩ := h
    rfl
  · obtain ⟨a, b, rfl, k⟩ := h
    refine ⟨_, (pss_one (ps_ret (pe_and (pe_callB (cr_isiK K) (by rfl) T.n_isinstance (by decide +kernel) (@pa_cons _ _ _ _ _ (pv 0) (@pa_cons _ _ _ _ _ (pe_bltn (v := .ty "bool") (by rfl) T.n_bool (by decide +kernel) rfl) pa_nil (by rfl)) (by rfl))) (pe_one (pe_cmpR op_eq (pv 0) (pv 1) (nomark _)))))), ?_⟩
    refine ⟨_, rfl, .bl a, .ty "bool", _, true, rfl, .bl a, (fun u hu => kitBB hu), true, rfl, ?_⟩
    refine iteT ⟨_, rfl, _, rfl, rfl, ?_⟩
    have e : decide (V.bl a = V.bl b) = decide (a = b) := Bool.eq_iff_iff.mpr (by simp)
    rw [e]
    exact k
end
end Toy

set_option Elab.async false
set_option linter.all false
set_option maxRecDepth 100000
set_option maxHeartbeats 4000000
namespace Toy
open PySem L2
theorem small1k {n : Nat} (h : n ≤ 1000) : n < sizeLine := Nat.lt_of_le_of_lt h (by decide)
theorem SubA.set {ta : TA} {σ : St} {H : Hp} {k n : Nat} {R : RV} {g : TG} {rest : TS} {D : Ends} (m : Mono R) (h : SubA ta σ H k n R) (hk : k ≤ 1000) (c : ∀ (F : Addr) (vs : List V) (H1 H' : Hp), Same H H1 → H1 F = none → H' = L2.upd H1 F (.lst vs) → vs.length = k → (∀ v ∈ vs, Itm n R H H1 v) → g (.ref F) σ H' fun σ2 H2 => rest D σ2 H2) : tSeq (tAsg (tLst ta) g) rest D σ H :=
  SubA.lst (Q := fun v H1 => g v σ H1 fun σ2 H2 => rest D σ2 H2) m h hk c
theorem AllA.loop {K : PySem.W.Frag} {ta : TA} {σ : St} {H : Hp} {k : Nat} {g : TG} {tb rest : TS} {D : Ends} (h : AllA ta σ H k) (hk : k ≤ 1000) (c : ∀ (F : Addr) (vs : List V) (H' : Hp), Same H H' → H F = none → H' F = some (.lst vs) → vs.length = k → (∀ v ∈ vs, CDc H' v) → tSeq (tFor (iList K (tC (.ref F))) g tb) rest D σ H') : tSeq (tFor (iList K (tLst ta)) g tb) rest D σ H :=
  show tLst ta σ H (fun x H1 => tSeq (tFor (iList K (tC x)) g tb) rest D σ H1) from AllA.lst h hk c
theorem Sub.runO {r : R2} {ta tb : TE} {σ : St} {H : Hp} {n : Nat} {R : RV} {Q : VK} (h : Sub (tOp r ta tb) σ H n R) (k : ∀ a xs H', Same H H' → H a = none → H' a = some (.lst xs) → xs.length ≤ n → (∀ x ∈ xs, R H' x) → Q (.ref a) H') : tOp r ta tb σ H Q := h Q k
theorem Sub.runA {te : TE} {σ : St} {H : Hp} {n : Nat} {R : RV} {Q : List V → Hp → Prop} (h : Sub te σ H n R) (k : ∀ a xs H', Same H H' → H a = none → H' a = some (.lst xs) → xs.length ≤ n → (∀ x ∈ xs, R H' x) → Q [.ref a] H') : tCons te tNil σ H Q := h _ k
section
variable {P : Program} {w : World} {K : PySem.W.Frag} {mg : Str → Option Value} {base : Heap} {A : Adr}
def spSpoils : Sp := fun vs H Q _ => ∃ (cl : Addr) (ts : List Addr) (css : List (List Call)) (wh : Int), vs = [.ref cl, .int wh] ∧ H cl = some (.lst (ts.map V.ref)) ∧ CS H ts css ∧ css.length ≤ 40 ∧ (∀ cs ∈ css, cs ≠ [] ∧ cs.length ≤ 40) ∧
  ∀ (f : Addr) (zs : List V) (H' : Hp), Same H H' → H' f = some (.lst zs) → zs.length ≤ 100 → (∀ z ∈ zs, SPc 100 100 H' z) → Q (.ref f) H'
theorem sc_law_spoils : FnScope ["_law_calls", "_law_whole", "_law_found", "_law_at", "_law_turn", "_law_spot", "_law_rows", "_law_call", "_law_caller", "_law_person", "_law_answered", "_law_row"] ["_law_calls", "_law_whole"] (defScope s_law_spoils) := ⟨rfl, rfl, rfl, by decide +kernel, rfl, by decide +kernel, by decide +kernel⟩
theorem ok_law_spoils (T : Txt K mg A) : FnOk P w K mg base CX0 1 A.f_law_spoils A.d_law_spoils ["_law_calls", "_law_whole"] spSpoils := by
  refine T.f_law_spoils.ok sc_law_spoils (fun vs H Q E h => ?_) (fun cdv A' outer s H vs Q E hr h => ?_)
  · obtain ⟨cl, ts, css, wh, rfl, _⟩ := h
    rfl
  · obtain ⟨cl, ts, css, wh, rfl, hcl, hCS, hk40, hn40, k⟩ := h
    have mR : Mono (RDc 100) := RDc.mono
    have hl : (ts.map V.ref).length ≤ 40 := by rw [List.length_map, hCS.len]; exact hk40
    have hRD : ∀ H1, Same H H1 → ∀ x ∈ ts.map V.ref, RDc 100 H1 x := fun H1 s1 => (hCS.mono s1).rd fun cs h => Nat.le_trans (hn40 cs h).2 (by decide)
    refine ⟨_, (@pss_cons _ _ _ _ _ (@ps_set _ _ 2 _ _ _ _ sc_law_spoils.nd rfl (Or.inl rfl) (@pe_lst _ _ _ _ (@pa_cons _ _ _ _ _ (pe_slice (sl_listK K) (pv 0) po_none (po_some (pe_un un_neg pe_int))) (@pa_cons _ _ _ _ _ (pe_slice (sl_listK K) (pv 0) (po_some pe_int) po_none) (@pa_cons _ _ _ _ _ (pe_op op_cat (pv 0) (@pe_lst _ _ _ _ (@pa_cons _ _ _ _ _ (@pe_lst _ _ _ _ pa_nil) pa_nil (by rfl)))) (@pa_cons _ _ _ _ _ (pe_op op_cat (pv 0) (pe_slice (sl_listK K) (pv 0) (po_some (pe_un un_neg pe_int)) po_none)) (@pa_cons _ _ _ _ _ (pe_rev (pv 0)) (@pa_cons _ _ _ _ _ (@pe_lst _ _ _ _ pa_nil) (@pa_cons _ _ _ _ _ (@pe_lst _ _ _ _ (@pa_cons _ _ _ _ _ (@pe_lst _ _ _ _ pa_nil) pa_nil (by rfl))) pa_nil (by rfl)) (by rfl)) (by rfl)) (by rfl)) (by rfl)) (by rfl)) (by rfl))) (by rfl) (by first | exact .inl rfl | exact .inr rfl))
      (pss_cons (ps_if (pt_cmpR (op_eqDK K hr.units) (pv 0) (@pe_lst _ _ _ _ pa_nil) (nomark _)) (pss_one (ps_ret (pv 2))) pss_nil)
      (pss_cons (ps_for PassesOwn.never rfl (pi_tupK K (@pe_tup _ _ _ _ _ (@pa_cons _ _ _ _ _ (pe_op op_mod (pv 1) (pe_callB (call_len_seqK K) (by rfl) T.n_len PySem.boot_len (@pa_cons _ _ _ _ _ (pv 0) pa_nil (by rfl)))) (@pa_cons _ _ _ _ _ (pe_op op_sub (pe_callB (call_len_seqK K) (by rfl) T.n_len PySem.boot_len (@pa_cons _ _ _ _ _ (pv 0) pa_nil (by rfl))) pe_int) pa_nil (by rfl)) (by rfl)))) (pg_name (i := 3) sc_law_spoils.nd rfl (Or.inr rfl)) (pss_cons (ps_set (i := 4) sc_law_spoils.nd rfl (Or.inl rfl) (pe_ix (ix_listK K) (pv 0) (pv 3) (fun _ _ => rfl)))
      (pss_cons (ps_set (i := 5) sc_law_spoils.nd rfl (Or.inl rfl) (pe_op op_mod (pe_op op_fdiv (pv 1) pe_int) (pe_callB (call_len_seqK K) (by rfl) T.n_len PySem.boot_len (@pa_cons _ _ _ _ _ (pv 4) pa_nil (by rfl)))))
      (pss_cons (ps_asg (pe_ix (ix_listK K) (pv 4) (pv 5) (fun _ _ => rfl)) (pg_tupK K (n := 3) (by rfl) (pgs_cons (pg_name (i := 8) sc_law_spoils.nd rfl (Or.inl rfl)) (pgs_cons (pg_name (i := 9) sc_law_spoils.nd rfl (Or.inl rfl)) (pgs_cons (pg_name (i := 10) sc_law_spoils.nd rfl (Or.inl rfl)) pgs_nil)))))
      (pss_cons (ps_set (i := 6) sc_law_spoils.nd rfl (Or.inl rfl) (@pe_lst _ _ _ _ (@pa_cons _ _ _ _ _ (pe_slice (sl_listK K) (pv 4) po_none (po_some (pe_un un_neg pe_int))) (@pa_cons _ _ _ _ _ (pe_slice (sl_listK K) (pv 4) (po_some pe_int) po_none) (@pa_cons _ _ _ _ _ (pe_op op_cat (pv 4) (pe_slice (sl_listK K) (pv 4) (po_some (pe_un un_neg pe_int)) po_none)) (@pa_cons _ _ _ _ _ (pe_rev (pv 4)) (@pa_cons _ _ _ _ _ (pe_op op_cat (pv 4) (@pe_lst _ _ _ _ (@pa_cons _ _ _ _ _ (@pe_tup _ _ _ _ _ (@pa_cons _ _ _ _ _ pe_int (@pa_cons _ _ _ _ _ pe_int (@pa_cons _ _ _ _ _ pe_bl pa_nil (by rfl)) (by rfl)) (by rfl))) pa_nil (by rfl)))) pa_nil (by rfl)) (by rfl)) (by rfl)) (by rfl)) (by rfl))))
      (pss_cons (ps_for PassesOwn.never rfl (pi_listK K (@pe_lst _ _ _ _ (@pa_cons _ _ _ _ _ (@pe_tup _ _ _ _ _ (@pa_cons _ _ _ _ _ (pv 8) (@pa_cons _ _ _ _ _ (pv 9) (@pa_cons _ _ _ _ _ (pe_not (pv 10)) pa_nil (by rfl)) (by rfl)) (by rfl))) (@pa_cons _ _ _ _ _ (@pe_tup _ _ _ _ _ (@pa_cons _ _ _ _ _ (pe_op op_add (pv 8) pe_int) (@pa_cons _ _ _ _ _ (pv 9) (@pa_cons _ _ _ _ _ (pv 10) pa_nil (by rfl)) (by rfl)) (by rfl))) (@pa_cons _ _ _ _ _ (@pe_tup _ _ _ _ _ (@pa_cons _ _ _ _ _ (pv 8) (@pa_cons _ _ _ _ _ (pe_op op_add (pv 9) pe_int) (@pa_cons _ _ _ _ _ (pv 10) pa_nil (by rfl)) (by rfl)) (by rfl))) pa_nil (by rfl)) (by rfl)) (by rfl)))) (pg_name (i := 7) sc_law_spoils.nd rfl (Or.inl rfl)) (pss_one (ps_expr (pe_bmK K PySem.F.plainAttrs_list PySem.F.slot_list_append PySem.F.type_list_append mt_append (pv 6) (@pa_cons _ _ _ _ _ (pe_op op_cat (pe_op op_cat (pe_slice (sl_listK K) (pv 4) po_none (po_some (pv 5))) (@pe_lst _ _ _ _ (@pa_cons _ _ _ _ _ (pv 7) pa_nil (by rfl)))) (pe_slice (sl_listK K) (pv 4) (po_some (pe_op op_add (pv 5) pe_int)) po_none)) pa_nil (by rfl))))))
      (pss_cons (ps_for PassesOwn.never rfl (pi_listK K (@pe_lst _ _ _ _ (@pa_cons _ _ _ _ _ (@pe_tup _ _ _ _ _ (@pa_cons _ _ _ _ _ (pv 9) (@pa_cons _ _ _ _ _ (pv 8) (@pa_cons _ _ _ _ _ (pv 10) pa_nil (by rfl)) (by rfl)) (by rfl))) (@pa_cons _ _ _ _ _ (@pe_tup _ _ _ _ _ (@pa_cons _ _ _ _ _ (pe_un un_neg pe_int) (@pa_cons _ _ _ _ _ (pv 9) (@pa_cons _ _ _ _ _ (pv 10) pa_nil (by rfl)) (by rfl)) (by rfl))) (@pa_cons _ _ _ _ _ (@pe_tup _ _ _ _ _ (@pa_cons _ _ _ _ _ (pv 8) (@pa_cons _ _ _ _ _ (pe_op op_pow pe_int pe_int) (@pa_cons _ _ _ _ _ pe_bl pa_nil (by rfl)) (by rfl)) (by rfl))) pa_nil (by rfl)) (by rfl)) (by rfl)))) (pg_name (i := 7) sc_law_spoils.nd rfl (Or.inl rfl)) (pss_one (ps_expr (pe_bmK K PySem.F.plainAttrs_list PySem.F.slot_list_append PySem.F.type_list_append mt_append (pv 6) (@pa_cons _ _ _ _ _ (pe_op op_cat (pe_op op_cat (pe_slice (sl_listK K) (pv 4) po_none (po_some (pv 5))) (@pe_lst _ _ _ _ (@pa_cons _ _ _ _ _ (pv 7) pa_nil (by rfl)))) (pe_slice (sl_listK K) (pv 4) (po_some (pe_op op_add (pv 5) pe_int)) po_none)) pa_nil (by rfl))))))
      (pss_cons (ps_set (i := 2) sc_law_spoils.nd rfl (Or.inl rfl) (pe_op op_cat (pv 2) (pe_lc (own := [("_law_row", 11)]) rfl sc_law_spoils.nd (pi_listK K (pv 6)) (blkOk_by (own := [("_law_row", 11)]) (by kernel_rfl)) (fun _ _ _ _ _ => (pg_name (i := 11) sc_law_spoils.nd rfl (Or.inl rfl))) (fun _ _ _ _ _ => pts_nil) (fun _ _ _ _ _ => (pe_op op_cat (pe_op op_cat (pe_slice (sl_listK K) (pv 0) po_none (po_some (pv 3))) (@pe_lst _ _ _ _ (@pa_cons _ _ _ _ _ (pv 11) pa_nil (by rfl)))) (pe_slice (sl_listK K) (pv 0) (po_some (pe_op op_add (pv 3) pe_int)) po_none))))))
      (pss_one (ps_expr (pe_bmK K PySem.F.plainAttrs_list PySem.F.slot_list_append PySem.F.type_list_append mt_append (pv 2) (@pa_cons _ _ _ _ _ (pe_op op_cat (pe_slice (sl_listK K) (pv 0) po_none (po_some (pv 3))) (pe_slice (sl_listK K) (pv 0) (po_some (pe_op op_add (pv 3) pe_int)) po_none)) pa_nil (by rfl)))))))))))))
      (pss_one (ps_ret (pv 2)))))), ?_⟩
    refine SubA.set (k := 7) (n := 100) mR ?_ (by decide) fun F vs H0 H1 s0 hF e1 hvl hvs => ?_
    · refine SubA.cons (k := 6) mR ((Sub.cut mR rfl hcl hl (hRD _ (Same.refl H)) toNone (fun R h => ⟨_, rfl, _, rfl, h _⟩)).le (by decide)) fun H1 s1 => ?_
      refine SubA.cons (k := 5) mR ((Sub.cut mR rfl (s1 _ _ hcl) hl (hRD _ s1) toInt toNone).le (by decide)) fun H2 s2 => ?_
      have s2 := s1.trans s2
      refine SubA.cons (k := 4) mR ((Sub.cat mR (Val.var rfl (s2 _ _ hcl) hl (hRD _ s2)) (fun H3 s3 => (Sub.one mR fun Q c => Sub.nil (R := CDc) Q fun a xs H' s _ e l r => c _ _ s ⟨a, xs, rfl, e, Nat.le_trans l (by decide), r⟩).val) (by decide)).le (by decide)) fun H3 s3 => ?_
      have s3 := s2.trans s3
      refine SubA.cons (k := 3) mR ((Sub.cat mR (Val.var rfl (s3 _ _ hcl) hl (hRD _ s3)) (fun H4 s4 => (Sub.cut mR rfl ((s3.trans s4) _ _ hcl) hl (hRD _ (s3.trans s4)) (fun R h => ⟨_, rfl, _, rfl, h _⟩) toNone).val) (by decide)).le (by decide)) fun H4 s4 => ?_
      have s4 := s3.trans s4
      refine SubA.cons (k := 2) mR ((Sub.rev mR rfl (s4 _ _ hcl) hl (hRD _ s4)).le (by decide)) fun H5 s5 => ?_
      refine SubA.cons (k := 1) mR (Sub.nil.le (by decide)) fun H6 s6 => ?_
      exact SubA.cons (k := 0) mR ((Sub.one mR fun Q c => Sub.nil (R := CDc) Q fun a xs H' s _ e l r => c _ _ s ⟨a, xs, rfl, e, Nat.le_trans l (by decide), r⟩).le (by decide)) fun H7 s7 => SubA.nil
    have s1 : Same H H1 := by rw [e1]; exact s0.trans (Same.new hF)
    have hF1 : H1 F = some (.lst vs) := by rw [e1]; exact upd_same
    have hvs1 : ∀ z ∈ vs, SPc 100 100 H1 z := fun z hz => by
      obtain ⟨a, xs, e, _, h1, h2, h3⟩ := hvs z hz
      rw [e1]
      exact SPc.mono _ _ _ (Same.new hF) ⟨a, xs, e, h1, h2, h3⟩
    clear hvs e1 hF s0
    refine ⟨_, rfl, Nat.zero_le _, fun e he => ?_⟩
    have m2 : Same H1 (upd H1 e (.lst [])) := Same.new he
    have he2 : (upd H1 e (.lst [])) e = some (.lst []) := upd_same
    generalize upd H1 e (.lst []) = H2 at m2 he2
    have s2 := s1.trans m2
    refine ⟨_, _, .lst (SqL.of (s2 _ _ hcl)) (hCS.mono s2).dpAll, .lst (SqL.of he2) .nil, Enc.rounds.shaped (by decide) css, shaped_nil, _, rfl, ?_⟩
    rw [eqv_roundsN]
    by_cases hc0 : css = []
    · rw [decide_eq_true hc0]
      refine iteT ⟨_, rfl, ?_⟩
      exact k F vs H2 s2 (m2 _ _ hF1) (by omega) fun z hz => SPc.mono _ _ _ m2 (hvs1 z hz)
    rw [decide_eq_false hc0]
    have hlp : 0 < css.length := List.length_pos_iff.mpr hc0
    have hll : (ts.map V.ref).length = css.length := by rw [List.length_map, hCS.len]
    refine iteF ?_
    refine ⟨_, rfl, _, rfl, cl, _, rfl, .inl (SqL.of (s2 _ _ hcl)), _, _, rfl, rfl, (by show (0 : Int) < (((ts.map V.ref).length : Nat) : Int); omega), ?_⟩
    refine ⟨_, rfl, cl, _, rfl, .inl (SqL.of (s2 _ _ hcl)), _, _, rfl, rfl, (by show 2 ≤ sizeLine; decide), fun tp htp => ?_⟩
    rw [hll]
    obtain ⟨p1, hp1, hp1l⟩ : ∃ p : Nat, wh % ((css.length : Nat) : Int) = p ∧ p < css.length := ⟨(wh % ((css.length : Nat) : Int)).toNat, by
      have := Int.emod_nonneg wh (show ((css.length : Nat) : Int) ≠ 0 by omega)
      omega, by
      have := Int.emod_lt_of_pos wh (show (0 : Int) < ((css.length : Nat) : Int) by omega)
      have := Int.emod_nonneg wh (show ((css.length : Nat) : Int) ≠ 0 by omega)
      omega⟩
    have hp2 : ((css.length : Nat) : Int) - 1 = ((css.length - 1 : Nat) : Int) := by omega
    have m3 : Same H2 (upd H2 tp (.tup [.int (wh % ((css.length : Nat) : Int)), .int (((css.length : Nat) : Int) - 1)])) := Same.new htp
    have htp3 : (upd H2 tp (.tup [.int (wh % ((css.length : Nat) : Int)), .int (((css.length : Nat) : Int) - 1)])) tp = some (.tup [.int (wh % ((css.length : Nat) : Int)), .int (((css.length : Nat) : Int) - 1)]) := upd_same
    generalize upd H2 tp (.tup [.int (wh % ((css.length : Nat) : Int)), .int (((css.length : Nat) : Int) - 1)]) = H3 at m3 htp3
    have s3 := s2.trans m3
    refine ⟨tp, rfl, ⟨_, SqT.of htp3⟩, ?_⟩
    refine for_tup (K := K) (a := tp) (xs := [.int (wh % ((css.length : Nat) : Int)), .int (((css.length : Nat) : Int) - 1)])
      (fun i σ H4 => ∃ (x3 x4 x5 x6 x7 x8 x9 x10 x11 : Option V) (F : Addr) (zs : List V), σ = [some (.ref cl), some (.int wh), some (.ref F), x3, x4, x5, x6, x7, x8, x9, x10, x11] ∧ Same H3 H4 ∧ H4 F = some (.lst zs) ∧ zs.length ≤ 7 + 12 * i ∧ ∀ z ∈ zs, SPc 100 100 H4 z)
      ⟨none, none, none, none, none, none, none, none, none, F, vs, rfl, Same.refl H3, m3 _ _ (m2 _ _ hF1), by omega, fun z hz => SPc.mono _ _ _ (m2.trans m3) (hvs1 z hz)⟩
      (fun i σ H4 _ ⟨_, _, _, _, _, _, _, _, _, _, _, _, s4, _⟩ => SqT.of (s4 _ _ htp3)) ?_ ?_
    · clear hvs1 hF1
      rintro i x σ H4 hx ⟨x3, x4, x5, x6, x7, x8, x9, x10, x11, F, zs, rfl, s34, hF4, hzl, hzs⟩
      have hi2 : i < 2 := (List.getElem?_eq_some_iff.mp hx).1
      obtain ⟨z, p, rfl, hz, hpl⟩ : ∃ (z : Int) (p : Nat), x = .int z ∧ z = p ∧ p < css.length := by
        match i, hi2 with
        | 0, _ =>
          cases hx
          exact ⟨_, p1, rfl, hp1, hp1l⟩
        | 1, _ =>
          cases hx
          exact ⟨_, css.length - 1, rfl, hp2, by omega⟩
      have s4 := s3.trans s34
      obtain ⟨t, ht⟩ : ∃ t, ts[p]? = some t := ⟨_, List.getElem?_eq_getElem (by rw [hCS.len]; exact hpl)⟩
      obtain ⟨cs, hcs⟩ : ∃ cs, css[p]? = some cs := ⟨_, List.getElem?_eq_getElem hpl⟩
      obtain ⟨us, htu, hC⟩ := (hCS.mono s4).at' p t cs ht hcs
      obtain ⟨hcn, hcl40⟩ := hn40 cs (List.mem_of_getElem? hcs)
      have hcp : 0 < cs.length := List.length_pos_iff.mpr hcn
      have hul : (us.map V.ref).length = cs.length := by rw [List.length_map, hC.len]
      refine ⟨_, rfl, _, rfl, cl, _, _, .ref t, rfl, rfl, SqL.of (s4 _ _ hcl), at_of (j := p) hz (by rw [List.getElem?_map, ht]; rfl), ?_⟩
      refine ⟨_, rfl, _, _, rfl, rfl, ⟨by decide, by decide⟩, _, rfl, t, _, rfl, .inl (SqL.of htu), _, _, rfl, rfl, (by show (0 : Int) < (((us.map V.ref).length : Nat) : Int); omega), ?_⟩
      rw [hul]
      obtain ⟨q, hq, hql⟩ : ∃ q : Nat, wh / 40 % ((cs.length : Nat) : Int) = q ∧ q < cs.length := ⟨(wh / 40 % ((cs.length : Nat) : Int)).toNat, by
        have := Int.emod_nonneg (wh / 40) (show ((cs.length : Nat) : Int) ≠ 0 by omega)
        omega, by
        have := Int.emod_lt_of_pos (wh / 40) (show (0 : Int) < ((cs.length : Nat) : Int) by omega)
        have := Int.emod_nonneg (wh / 40) (show ((cs.length : Nat) : Int) ≠ 0 by omega)
        omega⟩
      obtain ⟨u, hu⟩ : ∃ u, us[q]? = some u := ⟨_, List.getElem?_eq_getElem (by rw [hC.len]; exact hql)⟩
      obtain ⟨c, hc⟩ : ∃ c, cs[q]? = some c := ⟨_, List.getElem?_eq_getElem hql⟩
      refine ⟨_, rfl, _, rfl, t, _, _, .ref u, rfl, rfl, SqL.of htu, at_of (j := q) hq (by rw [List.getElem?_map, hu]; rfl), u, _, rfl, SqT.of (hC.at' q u c hu hc), rfl, ?_⟩
      have mC : Mono CDc := CDc.mono
      have hul40 : (us.map V.ref).length ≤ 40 := by omega
      have hCD : ∀ H5, Same H4 H5 → ∀ x ∈ us.map V.ref, CDc H5 x := fun H5 s5 => (hC.mono s5).cd
      refine ⟨_, _, rfl, _, _, rfl, _, _, rfl, rfl, ?_⟩
      dsimp only
      refine SubA.set (k := 5) (n := 100) mC ?_ (by decide) fun Rr rs H5 H6 s5 hRr e6 hrl hrs => ?_
      · refine SubA.cons (k := 4) mC ((Sub.cut mC rfl htu hul40 (hCD _ (Same.refl H4)) toNone (fun R h => ⟨_, rfl, _, rfl, h _⟩)).le (by decide)) fun H5 s5 => ?_
        refine SubA.cons (k := 3) mC ((Sub.cut mC rfl (s5 _ _ htu) hul40 (hCD _ s5) toInt toNone).le (by decide)) fun H6 s6 => ?_
        have s6 := s5.trans s6
        refine SubA.cons (k := 2) mC ((Sub.cat mC (Val.var rfl (s6 _ _ htu) hul40 (hCD _ s6)) (fun H7 s7 => (Sub.cut mC rfl ((s6.trans s7) _ _ htu) hul40 (hCD _ (s6.trans s7)) (fun R h => ⟨_, rfl, _, rfl, h _⟩) toNone).val) (by decide)).le (by decide)) fun H7 s7 => ?_
        have s7 := s6.trans s7
        refine SubA.cons (k := 1) mC ((Sub.rev mC rfl (s7 _ _ htu) hul40 (hCD _ s7)).le (by decide)) fun H8 s8 => ?_
        have s8 := s7.trans s8
        exact SubA.cons (k := 0) mC ((Sub.cat mC (Val.var rfl (s8 _ _ htu) hul40 (hCD _ s8)) (fun H9 s9 => (Sub.one mC (MkC.tup fun Q' k => k _ _ _)).val) (by decide)).le (by decide)) fun H9 s9 => SubA.nil
      have s46 : Same H4 H6 := by rw [e6]; exact s5.trans (Same.new hRr)
      have hR6 : H6 Rr = some (.lst rs) := by rw [e6]; exact upd_same
      have hR4 : H4 Rr = none := s5.free hRr
      have hrs6 : ∀ r ∈ rs, RDx Rr 100 H6 r := fun z hz => by
        obtain ⟨a, xs, e, _, h1, h2, h3⟩ := hrs z hz
        rw [e6]
        exact RDx.mono _ _ _ (Same.new hRr) ⟨a, xs, e, ne_of_none h1 hRr, h1, h2, h3⟩
      clear hrs e6 hRr s5
      have more : ∀ (H7 : Hp) (rs : List V) (σ : St) (Q : VK) (cv : V), Same H4 H7 → H7 Rr = some (.lst rs) → rs.length ≤ 200 → (∀ r ∈ rs, RDx Rr 100 H7 r) → CDc H7 cv → σ[4]? = some (some (.ref t)) → σ[5]? = some (some (.int (wh / 40 % ((cs.length : Nat) : Int)))) → σ[7]? = some (some cv) →
          (∀ (H8 H9 : Hp) (y : V), Same H7 H8 → H9 = L2.upd H8 Rr (.lst (rs ++ [y])) → (∀ r ∈ rs ++ [y], RDx Rr 100 H9 r) → Q .non H9) →
          tCons (tOp rCat (tOp rCat (tSl (rSlL K) (tVar 4) tNoPart (tPart (tVar 5))) (tLst (tCons (tVar 7) tNil))) (tSl (rSlL K) (tVar 4) (tPart (tOp (rI0 fun i j => .int (i + j)) (tVar 5) (tC (.int 1)))) tNoPart)) tNil σ H7 (fun ys H9 => rAppend (.ref Rr) ys H9 Q) := by
        intro H7 rs σ Q cv s7 hR7 hrl hrs hcv e4 e5 e7 kk
        refine Sub.runA (n := 41 + 40) (R := CDc) (Sub.cat mC (n := 41) (n' := 40) (Sub.cat mC (n := 40) (n' := 1) (Sub.cut mC e4 (s7 _ _ htu) hul40 (hCD _ s7) toNone (fun R h => ⟨_, e5, _, rfl, h _⟩)).val (fun H8 s8 => (Sub.one mC fun Q c => ⟨_, e7, c _ _ (Same.refl _) (CDc.mono _ _ _ s8 hcv)⟩).val) (by decide)).val (fun H8 s8 => (Sub.cut mC e4 ((s7.trans s8) _ _ htu) hul40 (hCD _ (s7.trans s8)) (fun R h => ⟨_, e5, _, _, rfl, rfl, _, rfl, h _⟩) toNone).val) (by decide)) fun a xs H8 s8 ha0 ha hal hax => ?_
        refine ⟨Rr, rs, _, rfl, rfl, s8 _ _ hR7, small1k (by omega), ?_⟩
        refine kk H8 _ (.ref a) s8 rfl fun r hr => ?_
        rcases List.mem_append.mp hr with hr | hr
        · exact (RDx.mono _ _ _ s8 (hrs r hr)).put (s8 _ _ hR7)
        · rw [List.mem_singleton.mp hr]
          exact RDx.put ⟨a, xs, rfl, Ne.symm (ne_of_none hR7 ha0), ha, Nat.le_trans hal (by decide), hax⟩ (s8 _ _ hR7)
      refine AllA.loop (k := 3) ?_ (by decide) fun L1 c1 H7 s67 hL1 hL17 hc1l hc1 => ?_
      · refine AllA.cons (k := 2) (MkC.tup fun Q' k => ⟨_, rfl, _, rfl, _, rfl, _, rfl, k _ _ _⟩) fun _ _ => ?_
        refine AllA.cons (k := 1) (MkC.tup fun Q' k => ⟨_, rfl, _, _, rfl, rfl, _, rfl, _, rfl, k _ _ _⟩) fun _ _ => ?_
        exact AllA.cons (k := 0) (MkC.tup fun Q' k => ⟨_, rfl, _, rfl, _, _, rfl, rfl, _, rfl, k _ _ _⟩) fun _ _ => AllA.nil
      have hne1 : L1 ≠ Rr := Ne.symm (ne_of_none hR6 hL1)
      refine ⟨L1, rfl, ⟨_, SqL.of hL17⟩, ?_⟩
      refine for_list (K := K) (a := L1) (xs := c1)
        (fun j σ H8 => ∃ (x7 : Option V) (rs : List V), σ = [some (.ref cl), some (.int wh), some (.ref F), some (.int z), some (.ref t), some (.int (wh / 40 % ((cs.length : Nat) : Int))), some (.ref Rr), x7, some (.int c.1), some (.int c.2.1), some (.bl c.2.2), x11] ∧ Same H4 H8 ∧ H8 Rr = some (.lst rs) ∧ rs.length ≤ 5 + j ∧ (∀ r ∈ rs, RDx Rr 100 H8 r) ∧ H8 L1 = some (.lst c1) ∧ ∀ v ∈ c1, CDc H8 v)
        ⟨x7, rs, rfl, s46.trans s67, s67 _ _ hR6, by omega, fun r hr => RDx.mono _ _ _ s67 (hrs6 r hr), hL17, hc1⟩
        (fun j σ H8 _ ⟨_, _, _, _, _, _, _, h, _⟩ => SqL.of h) ?_ ?_
      · clear hrs6 hR6 s46 hrl
        rintro j v σ H8 hv ⟨x7, rs, rfl, s48, hR8, hrl, hrs, hL8, hcs8⟩
        have hj3 : j < 3 := by rw [← hc1l]; exact (List.getElem?_eq_some_iff.mp hv).1
        refine ⟨_, rfl, .inl ⟨rfl, _, SqL.of hR8⟩, ?_⟩
        refine more H8 rs _ _ v s48 hR8 (by omega) hrs (hcs8 v (List.mem_of_getElem? hv)) rfl rfl rfl fun H9 Ha y s89 ea hra => ?_
        refine ⟨some v, rs ++ [y], rfl, ?_, ?_, ?_, hra, ?_, fun v hv => ?_⟩
        · rw [ea]; exact (s48.trans s89).upd hR4
        · rw [ea]; exact upd_same
        · rw [List.length_append]; simp only [List.length_singleton]; omega
        · rw [ea, upd_ne hne1]; exact s89 _ _ hL8
        · rw [ea]; exact (CDc.mono _ _ _ s89 (hcs8 v hv)).put (s89 _ _ hR8)
      · clear hrs6 hR6 s46 hrl
        rintro σ H8 ⟨x7, rs, rfl, s48, hR8, hrl, hrs, _, _⟩
        rw [hc1l] at hrl
        dsimp only
        refine AllA.loop (k := 3) ?_ (by decide) fun L2 c2 H9 s89 hL2 hL29 hc2l hc2 => ?_
        · refine AllA.cons (k := 2) (MkC.tup fun Q' k => ⟨_, rfl, _, rfl, _, rfl, k _ _ _⟩) fun _ _ => ?_
          refine AllA.cons (k := 1) (MkC.tup fun Q' k => ⟨_, rfl, _, rfl, _, rfl, k _ _ _⟩) fun _ _ => ?_
          exact AllA.cons (k := 0) (MkC.tup fun Q' k => ⟨_, rfl, _, _, rfl, rfl, ⟨by decide, by decide, by decide⟩, k _ _ _⟩) fun _ _ => AllA.nil
        have hne2 : L2 ≠ Rr := Ne.symm (ne_of_none hR8 hL2)
        refine ⟨L2, rfl, ⟨_, SqL.of hL29⟩, ?_⟩
        refine for_list (K := K) (a := L2) (xs := c2)
          (fun j σ H8 => ∃ (x7 : Option V) (rs : List V), σ = [some (.ref cl), some (.int wh), some (.ref F), some (.int z), some (.ref t), some (.int (wh / 40 % ((cs.length : Nat) : Int))), some (.ref Rr), x7, some (.int c.1), some (.int c.2.1), some (.bl c.2.2), x11] ∧ Same H4 H8 ∧ H8 Rr = some (.lst rs) ∧ rs.length ≤ 8 + j ∧ (∀ r ∈ rs, RDx Rr 100 H8 r) ∧ H8 L2 = some (.lst c2) ∧ ∀ v ∈ c2, CDc H8 v)
          ⟨x7, rs, rfl, s48.trans s89, s89 _ _ hR8, by omega, fun r hr => RDx.mono _ _ _ s89 (hrs r hr), hL29, hc2⟩
          (fun j σ H8 _ ⟨_, _, _, _, _, _, _, h, _⟩ => SqL.of h) ?_ ?_
        · clear hrs hR8 hrl s48
          rintro j v σ H8 hv ⟨x7, rs, rfl, s48, hR8, hrl, hrs, hL8, hcs8⟩
          have hj3 : j < 3 := by rw [← hc2l]; exact (List.getElem?_eq_some_iff.mp hv).1
          refine ⟨_, rfl, .inl ⟨rfl, _, SqL.of hR8⟩, ?_⟩
          refine more H8 rs _ _ v s48 hR8 (by omega) hrs (hcs8 v (List.mem_of_getElem? hv)) rfl rfl rfl fun H9 Ha y s89 ea hra => ?_
          refine ⟨some v, rs ++ [y], rfl, ?_, ?_, ?_, hra, ?_, fun v hv => ?_⟩
          · rw [ea]; exact (s48.trans s89).upd hR4
          · rw [ea]; exact upd_same
          · rw [List.length_append]; simp only [List.length_singleton]; omega
          · rw [ea, upd_ne hne2]; exact s89 _ _ hL8
          · rw [ea]; exact (CDc.mono _ _ _ s89 (hcs8 v hv)).put (s89 _ _ hR8)
        · clear hrs hR8 hrl s48
          rintro σ H8 ⟨x7, rs, rfl, s48, hR8, hrl, hrs, _, _⟩
          rw [hc2l] at hrl
          have s8 := s4.trans s48
          have m8 : Mono (fun _ x => RDc 100 H8 x) := fun _ _ _ _ h => h
          refine ⟨_, rfl, _, rfl, Rr, rfl, ⟨_, SqL.of hR8⟩, fun D hD => ?_⟩
          refine lc_list (K := K) (a := Rr) (xs := rs) (fun j H9 => Same H8 H9 ∧ ∃ ds, H9 D = some (.lst ds) ∧ ds.length = j ∧ ∀ d ∈ ds, ∃ a xs, d = V.ref a ∧ a ≠ D ∧ H9 a = some (.lst xs) ∧ xs.length ≤ 100 ∧ ∀ x ∈ xs, RDc 100 H8 x)
            ⟨Same.new hD, [], upd_same, rfl, fun d hd => by simp at hd⟩ (fun j H9 _ ⟨s9, _⟩ => SqL.of (s9 _ _ hR8)) ?_ ?_
          · rintro j r H9 hr ⟨s9, ds, hD9, hdl, hds⟩
            have hjl := (List.getElem?_eq_some_iff.mp hr).1
            have s09 := s8.trans s9
            refine ⟨rfl, yesT ?_⟩
            refine Sub.runO (n := 41 + 40) (R := fun _ x => RDc 100 H8 x) (Sub.cat m8 (n := 41) (n' := 40) (Sub.cat m8 (n := 40) (n' := 1) (Sub.cut m8 rfl (s09 _ _ hcl) hl (hRD _ s8) toNone (fun R h => ⟨_, rfl, _, rfl, h _⟩)).val (fun H8 s8 => (Sub.one m8 fun Q c => ⟨_, rfl, c _ _ (Same.refl _) (hrs r (List.mem_of_getElem? hr)).rd⟩).val) (by decide)).val (fun Hc sc => (Sub.cut m8 rfl ((s09.trans sc) _ _ hcl) hl (hRD _ s8) (fun R h => ⟨_, rfl, _, _, rfl, rfl, _, rfl, h _⟩) toNone).val) (by decide)) fun a xs Ha sa ha0 ha hal hax => ?_
            refine ⟨ds, sa _ _ hD9, small1k (by omega), (s9.trans sa).upd hD, ds ++ [.ref a], upd_same, by rw [List.length_append, hdl]; rfl, fun d hd => ?_⟩
            rcases List.mem_append.mp hd with hd | hd
            · obtain ⟨a', xs', rfl, ne, h, l, r⟩ := hds d hd
              exact ⟨a', xs', rfl, ne, by rw [upd_ne ne]; exact sa _ _ h, l, r⟩
            · have hne : a ≠ D := Ne.symm (ne_of_none hD9 ha0)
              exact ⟨a, xs, List.mem_singleton.mp hd, hne, by rw [upd_ne hne]; exact ha, Nat.le_trans hal (by decide), hax⟩
          · rintro H9 ⟨s9, ds, hD9, hdl, hds⟩
            have s09 := s8.trans s9
            refine ⟨F, D, zs, ds, rfl, rfl, (s48.trans s9) _ _ hF4, hD9, Nat.le_of_lt (small1k (by omega)), fun F2 hF2 => ?_⟩
            have ma : Same H9 (upd H9 F2 (.lst (zs ++ ds))) := Same.new hF2
            have hF2a : (upd H9 F2 (.lst (zs ++ ds))) F2 = some (.lst (zs ++ ds)) := upd_same
            generalize upd H9 F2 (.lst (zs ++ ds)) = Ha at ma hF2a
            refine ⟨_, rfl, .inl ⟨rfl, _, SqL.of hF2a⟩, ?_⟩
            have m9 : Mono (fun _ x => RDc 100 H9 x) := fun _ _ _ _ h => h
            refine Sub.runA (n := 40 + 40) (R := fun _ x => RDc 100 H9 x) (Sub.cat m9 (n := 40) (n' := 40) (Sub.cut m9 rfl ((s09.trans ma) _ _ hcl) hl (hRD _ s09) toNone (fun R h => ⟨_, rfl, _, rfl, h _⟩)).val (fun Hc sc => (Sub.cut m9 rfl (((s09.trans ma).trans sc) _ _ hcl) hl (hRD _ s09) (fun R h => ⟨_, rfl, _, _, rfl, rfl, _, rfl, h _⟩) toNone).val) (by decide)) fun a xs Hb sb ha0 ha hal hax => ?_
            refine ⟨F2, _, _, rfl, rfl, sb _ _ hF2a, small1k (by rw [List.length_append]; omega), ?_⟩
            have sAll : Same H9 (upd Hb F2 (.lst (zs ++ ds ++ [.ref a]))) := (ma.trans sb).upd hF2
            refine ⟨_, _, _, _, _, _, _, _, _, F2, zs ++ ds ++ [.ref a], rfl, ((s34.trans s48).trans s9).trans sAll, upd_same, ?_, fun z hz => ?_⟩
            · rw [List.length_append, List.length_append]
              simp only [List.length_singleton]
              omega
            · rcases List.mem_append.mp hz with hz | hz
              · rcases List.mem_append.mp hz with hz | hz
                · exact SPc.mono _ _ _ ((s48.trans s9).trans sAll) (hzs z hz)
                · obtain ⟨a', xs', rfl, _, h, l, r⟩ := hds z hz
                  exact SPc.mono _ _ _ sAll ⟨a', xs', rfl, h, l, fun x hx => RDc.mono _ _ _ s9 (r x hx)⟩
              · exact ⟨a, xs, List.mem_singleton.mp hz, by rw [upd_ne (Ne.symm (ne_of_none hF2a ha0))]; exact ha, Nat.le_trans hal (by decide), fun x hx => RDc.mono _ _ _ sAll (hax x hx)⟩
    · rintro σ H4 ⟨x3, x4, x5, x6, x7, x8, x9, x10, x11, F, zs, rfl, s34, hF4, hzl, hzs⟩
      have hzl : zs.length ≤ 7 + 12 * 2 := hzl
      exact ⟨_, rfl, k F zs H4 (s3.trans s34) hF4 (by omega) hzs⟩
end
end Toy

set_option Elab.async false
set_option linter.all false
set_option maxRecDepth 100000
set_option maxHeartbeats 4000000
namespace Toy
open PySem L2
def PD : RV := fun H v => ∃ (u : Addr) (a b : Int), v = .ref u ∧ H u = some (.tup [.int a, .int b])
theorem PD.mono : Mono PD := fun H H' v s ⟨u, a, b, e, h⟩ => ⟨u, a, b, e, s _ _ h⟩
def MkP (te : TE) (σ : St) (H : Hp) : Prop := ∀ Q : VK, (∀ v H', Same H H' → PD H' v → Q v H') → te σ H Q
theorem MkP.tup {ta : TA} {σ : St} {H : Hp} (h : ∀ Q' : List V → Hp → Prop, (∀ (a b : Int), Q' [.int a, .int b] H) → ta σ H Q') : MkP (tTup ta) σ H :=
  fun Q k => h _ fun a b => ⟨(by show 2 ≤ sizeLine; decide), fun p hp => k _ _ (Same.new hp) ⟨p, a, b, rfl, upd_same⟩⟩
def AllP (ta : TA) (σ : St) (H : Hp) (k : Nat) : Prop := ∀ Q : List V → Hp → Prop, (∀ vs H', Same H H' → vs.length = k → (∀ v ∈ vs, PD H' v) → Q vs H') → ta σ H Q
theorem AllP.nil {σ : St} {H : Hp} : AllP tNil σ H 0 := fun Q c => c [] H (Same.refl H) rfl fun v hv => by simp at hv
theorem AllP.cons {te : TE} {ta : TA} {σ : St} {H : Hp} {k : Nat} (h1 : MkP te σ H) (h2 : ∀ H1, Same H H1 → AllP ta σ H1 k) : AllP (tCons te ta) σ H (k + 1) :=
  fun Q c => h1 _ fun v H1 s1 hv => h2 H1 s1 _ fun vs H2 s2 hl hI => c _ H2 (s1.trans s2) (by rw [List.length_cons, hl]) fun x hx => (List.mem_cons.mp hx).elim (fun e => e ▸ PD.mono _ _ _ s2 hv) (hI x)
theorem AllP.set {ta : TA} {σ : St} {H : Hp} {k i : Nat} {rest : TS} {D : Ends} (h : AllP ta σ H k) (hk : k ≤ 1000) (c : ∀ (F : Addr) (vs : List V) (H' : Hp), Same H H' → H' F = some (.lst vs) → vs.length = k → (∀ v ∈ vs, PD H' v) → rest D (σ.set i (some (.ref F))) H') : tSeq (tAsg (tLst ta) (gName i)) rest D σ H :=
  h _ fun vs H1 s1 hv hI => ⟨Nat.le_trans (show vs.length ≤ 1000 by omega) (by decide), fun F hF => c F vs _ (s1.trans (Same.new hF)) upd_same hv fun v hv => PD.mono _ _ _ (Same.new hF) (hI v hv)⟩
theorem AllP.loop {K : PySem.W.Frag} {ta : TA} {σ : St} {H : Hp} {k i : Nat} {g : TG} {tb : TS} {D : Ends} {l : Addr} {xs : List V} (hσ : σ[i]? = some (some (.ref l))) (hl : H l = some (.lst xs)) (hx : ∀ x ∈ xs, PD H x) (h : AllP ta σ H k) (hk : xs.length + k ≤ 1000)
    (c : ∀ (F : Addr) (vs : List V) (H' : Hp), Same H H' → H' F = some (.lst vs) → (∀ v ∈ vs, PD H' v) → tFor (iList K (tC (.ref F))) g tb D σ H') : tFor (iList K (tOp rCat (tVar i) (tLst ta))) g tb D σ H :=
  ⟨_, hσ, h _ fun vs H1 s1 hv hI => ⟨Nat.le_trans (show vs.length ≤ 1000 by omega) (by decide), fun F hF => ⟨l, F, xs, vs, rfl, rfl, (s1.trans (Same.new hF)) _ _ hl, upd_same, Nat.le_trans (show xs.length + vs.length ≤ 1000 by omega) (by decide), fun p hp =>
    c p (xs ++ vs) _ (s1.trans ((Same.new hF).trans (Same.new hp))) upd_same fun v hv => (List.mem_append.mp hv).elim (fun e => PD.mono _ _ _ (s1.trans ((Same.new hF).trans (Same.new hp))) (hx v e)) (fun e => PD.mono _ _ _ ((Same.new hF).trans (Same.new hp)) (hI v e))⟩⟩⟩
def WV (H : Hp) (v : V) (o : Option (Nat × Nat)) : Prop := (o = none ∧ v = .non) ∨ ∃ (t k : Nat) (tp : Addr), o = some (t, k) ∧ v = .ref tp ∧ H tp = some (.tup [.int t, .int k])
theorem WV.mono {H H' : Hp} {v : V} {o : Option (Nat × Nat)} (h : WV H v o) (s : Same H H') : WV H' v o := h.elim .inl fun ⟨t, k, tp, a, b, c⟩ => .inr ⟨t, k, tp, a, b, s _ _ c⟩
theorem WV.isN {H : Hp} {v : V} {o : Option (Nat × Nat)} (h : WV H v o) : decide (v = .non) = o.isNone := by
  rcases h with ⟨rfl, rfl⟩ | ⟨t, k, tp, rfl, rfl, _⟩
  · rfl
  · exact decide_eq_false fun z => by cases z
theorem WV.dp {K : PySem.W.Frag} {H : Hp} {v : V} {o : Option (Nat × Nat)} (h : WV H v o) : ∃ d, Dp K H v d ∧ SeqAt.shaped d = true ∧ ∀ p : Pr, PyData.eqv d (prD p) = decide (o.map (fun z => ((z.1 : Int), (z.2 : Int))) = some p) := by
  rcases h with ⟨rfl, rfl⟩ | ⟨t, k, tp, rfl, rfl, h⟩
  · exact ⟨.none, .non, rfl, fun p => by rw [eqv_none_pr]; rfl⟩
  · refine ⟨prD ((t : Int), (k : Int)), dp_pr (p := ((t : Int), (k : Int))) h, Enc.pr.shaped (by decide) _, fun p => ?_⟩
    rw [Enc.pr.eq]
    exact Bool.eq_iff_iff.mpr (by simp)
theorem fw_run {o cl : Addr} {xs : List V} {os : List (List Int)} {ts : List Addr} {css : List (List Call)} {H : Hp} {Q : VK} {E : XK} (ho : H o = some (.lst xs)) (hO : OL H xs os) (g : GoodO os) (hcl : H cl = some (.lst (ts.map V.ref))) (hCS : CS H ts css) (h1 : css.length ≤ 900) (h2 : ∀ cs ∈ css, cs.length ≤ 900)
    (k : ∀ v H', Same H H' → WV H' v (fwM os (firstM os) 0 css) → Q v H') : spFW [.ref o, .ref cl] H Q E :=
  ⟨o, cl, xs, os, ts, css, rfl, ho, hO, g, hcl, hCS, h1, h2, fun e H' s => k _ _ s (.inl ⟨e, rfl⟩), fun t kk e tp H' s h => k _ _ s (.inr ⟨t, kk, tp, e, rfl, h⟩)⟩
theorem gn {i : Nat} {v : V} {σ : St} {H : Hp} {Q : St → Hp → Prop} (h : Q (σ.set i (some v)) H) : gName i v σ H Q := h
theorem fw_set {i j l : Nat} {σ : St} {rest : TS} {D : Ends} {o cl : Addr} {xs : List V} {os : List (List Int)} {ts : List Addr} {css : List (List Call)} {H : Hp} {E : XK} (hi : σ[i]? = some (some (.ref o))) (hj : σ[j]? = some (some (.ref cl))) (ho : H o = some (.lst xs)) (hO : OL H xs os) (g : GoodO os) (hcl : H cl = some (.lst (ts.map V.ref))) (hCS : CS H ts css) (h1 : css.length ≤ 900) (h2 : ∀ cs ∈ css, cs.length ≤ 900)
    (k : ∀ v H', Same H H' → WV H' v (fwM os (firstM os) 0 css) → rest D (σ.set l (some v)) H') : tSeq (tAsg (tCall spFW [] E (tCons (tVar i) (tCons (tVar j) tNil))) (gName l)) rest D σ H :=
  ⟨_, hi, _, hj, fw_run (E := E) ho hO g hcl hCS h1 h2 k⟩
theorem pick_at {i : Nat} {σ : St} {H : Hp} {v : V} {o : Option (Nat × Nat)} {g : TG} {rest : TS} {D : Ends} (hv : WV H v o) (hσ : σ[i]? = some (some v)) (k : ∀ (a b : Int) (tp : Addr) (H' : Hp), Same H H' → H' tp = some (.tup [.int a, .int b]) → g (.ref tp) σ H' fun σ2 H2 => rest D σ2 H2) :
    tSeq (tAsg (tIf (tTest (tOp (fun x y H Q => y = .non ∧ Q (.bl (!decide (x = .non))) H) (tVar i) (tC .non))) (tVar i) (tTup (tCons (tC (.int 0)) (tCons (tC (.int 0)) tNil)))) g) rest D σ H := by
  refine ⟨v, hσ, rfl, _, rfl, ?_⟩
  rw [hv.isN]
  rcases hv with ⟨rfl, rfl⟩ | ⟨t, kk, tp, rfl, rfl, h⟩
  · exact iteF ⟨(by show 2 ≤ sizeLine; decide), fun p hp => k 0 0 p _ (Same.new hp) upd_same⟩
  · exact iteT ⟨_, hσ, k t kk tp H (Same.refl H) h⟩
theorem wlk_rounds {os : List (List Int)} {as : List Int} (g : GoodO os) (hA : ∀ a ∈ as, 0 < a) : ∀ cs ∈ wlk os as, cs ≠ [] ∧ cs.length ≤ 40 := by
  intro cs hc
  refine ⟨fun z => ?_, ?_⟩
  · obtain ⟨i, hi⟩ := List.getElem?_of_mem hc
    have hil := (List.getElem?_eq_some_iff.mp hi).1
    obtain ⟨rows, w, hs, _⟩ := WAt.at g hA i (Nat.le_of_lt hil)
    obtain ⟨hne, e⟩ := hs hil
    rw [hi, z] at e
    have e1 := (next_wk g w.wk).1
    rw [← Option.some.inj e] at e1
    exact hne e1.symm
  · have h1 := nodup_len (n := os.length) (wlk_all g hA).1 fun x hx => by
      have := ((wlk_all g hA).2 x).mp hx
      omega
    unfold calledOf at h1
    rw [List.length_map] at h1
    have h2 := (List.sublist_flatten_of_mem hc).length_le
    have := g.n40
    omega
theorem CL.cons {H : Hp} {u : Addr} {q : Call} {us : List Addr} {cs : List Call} (hu : H u = some (.tup [.int q.1, .int q.2.1, .bl q.2.2])) (h : CL H us cs) : CL H (u :: us) (q :: cs) :=
  ⟨by rw [List.length_cons, List.length_cons, h.len], fun p t c hp hc => by
    cases p with
    | zero => cases hp; cases hc; exact hu
    | succ p => exact h.at' p t c hp hc⟩
theorem CS.nil {H : Hp} : CS H [] [] := ⟨rfl, fun i t cs h _ => by simp at h⟩
theorem CS.cons {H : Hp} {t : Addr} {us : List Addr} {cs : List Call} {ts : List Addr} {css : List (List Call)} (ht : H t = some (.lst (us.map V.ref))) (hC : CL H us cs) (h : CS H ts css) : CS H (t :: ts) (cs :: css) :=
  ⟨by rw [List.length_cons, List.length_cons, h.len], fun p t' c hp hc => by
    cases p with
    | zero => cases hp; cases hc; exact ⟨us, ht, hC⟩
    | succ p => exact h.at' p t' c hp hc⟩
def os3 : List (List Int) := [[1, 2], [], []]
theorem good3 : GoodO os3 := good_of (by decide)
theorem fx1 : fwM os3 (firstM os3) 0 [[(0, 1, false)]] = some (1, 0) := by decide +kernel
theorem fx2 : fwM os3 (firstM os3) 0 [[(0, 1, true), (0, 1, true)]] = some (0, 1) := by decide +kernel
theorem fx3 : fwM os3 (firstM os3) 0 [[(0, 1, false)], [(0, 2, false)]] = none := by decide +kernel
theorem fx4 : fwM os3 (firstM os3) 0 [[]] = some (0, 0) := by decide +kernel
section
variable {P : Program} {w : World} {K : PySem.W.Frag} {mg : Str → Option Value} {base : Heap} {A : Adr}
def spLaw (K : PySem.W.Frag) : Sp := fun vs H Q _ => ∃ (a : Addr) (ns : List Int), vs = [.ref a] ∧ SqL K H a (ns.map V.int) ∧ ns.length ≤ 63 ∧ ∀ H', Q (.bl true) H'
theorem sc_law : FnScope ["_law_script", "_law_whole", "_law_orders_here", "_law_calls", "_law_some", "_law_star", "_law_wrong_here", "_law_rows", "_law_at", "_law_spot", "_law_one", "_law_other", "_law_built"] ["_law_script"] (defScope s_law) := ⟨rfl, rfl, rfl, by decide +kernel, rfl, by decide +kernel, by decide +kernel⟩
theorem ok_law (T : Txt K mg A) : FnOk P w K mg base CX0 9 A.f_law A.d_law ["_law_script"] (spLaw K) := by
  have G_law_orders := ok_law_orders (P := P) (w := w) (base := base) T
  have G_law_absent := ok_law_absent (P := P) (w := w) (base := base) T
  have G_law_walk := ok_law_walk (P := P) (w := w) (base := base) T
  have G_law_spoils := ok_law_spoils (P := P) (w := w) (base := base) T
  have G_law_wrong := ok_law_wrong (P := P) (w := w) (base := base) T
  have G_law_says := ok_law_says (P := P) (w := w) (base := base) T
  have G_Right_shows := ok_Right_shows (P := P) (w := w) (base := base) T
  have G_Wrong_init := ok_Wrong_init (P := P) (w := w) (base := base) T
  have G_Wrong_shows := ok_Wrong_shows (P := P) (w := w) (base := base) T
  refine T.f_law.ok sc_law (fun vs H Q E h => ?_) (fun cdv A' outer s H vs Q E hr h => ?_)
  · obtain ⟨a, ns, rfl, _⟩ := h
    rfl
  · obtain ⟨a, ns, rfl, hS, hlen, k⟩ := h
    refine ⟨_, (pss_cons (ps_set (i := 1) sc_law.nd rfl (Or.inl rfl) (pe_callB (cr_sumK K rfl) (by rfl) T.n_sum (by decide +kernel) (@pa_cons _ _ _ _ _ (pe_slice (sl_listK K) (pv 0) po_none (po_some pe_int)) pa_nil (by rfl))))
      (pss_cons (ps_set (i := 2) sc_law.nd rfl (Or.inl rfl) (pe_call G_law_orders (hr.mono (by decide)) (by rfl) T.m_law_orders T.k_law_orders T.b_law_orders .nil pass0 (@pa_cons _ _ _ _ _ (pv 0) (@pa_cons _ _ _ _ _ pe_int (@pa_cons _ _ _ _ _ pe_int pa_nil (by rfl)) (by rfl)) (by rfl))))
      (pss_cons (ps_set (i := 3) sc_law.nd rfl (Or.inl rfl) (pe_call G_law_walk (hr.mono (by decide)) (by rfl) T.m_law_walk T.k_law_walk T.b_law_walk .nil pass0 (@pa_cons _ _ _ _ _ (pv 2) (@pa_cons _ _ _ _ _ (pe_call G_law_absent (hr.mono (by decide)) (by rfl) T.m_law_absent T.k_law_absent T.b_law_absent .nil pass0 (@pa_cons _ _ _ _ _ (pv 0) (@pa_cons _ _ _ _ _ pe_int (@pa_cons _ _ _ _ _ (pe_callB (call_len_seqK K) (by rfl) T.n_len PySem.boot_len (@pa_cons _ _ _ _ _ (pv 2) pa_nil (by rfl))) pa_nil (by rfl)) (by rfl)) (by rfl))) pa_nil (by rfl)) (by rfl))))
      (pss_cons (ps_for PassesOwn.never rfl (pi_listK K (pe_op op_cat (@pe_lst _ _ _ _ (@pa_cons _ _ _ _ _ (pv 3) pa_nil (by rfl))) (pe_step2 K (pe_call G_law_spoils (hr.mono (by decide)) (by rfl) T.m_law_spoils T.k_law_spoils T.b_law_spoils .nil pass0 (@pa_cons _ _ _ _ _ (pv 3) (@pa_cons _ _ _ _ _ (pe_op op_fdiv (pv 1) pe_int) pa_nil (by rfl)) (by rfl))) (pe_op op_mod (pv 1) pe_int)))) (pg_name (i := 4) sc_law.nd rfl (Or.inl rfl)) (pss_cons (ps_set (i := 6) sc_law.nd rfl (Or.inl rfl) (pe_call G_law_wrong (hr.mono (by decide)) (by rfl) T.m_law_wrong T.k_law_wrong T.b_law_wrong .nil pass0 (@pa_cons _ _ _ _ _ (pv 2) (@pa_cons _ _ _ _ _ (pv 4) pa_nil (by rfl)) (by rfl))))
      (pss_cons (ps_if (pt_not (pt_val (pe_call G_law_says (hr.mono (by decide)) (by rfl) T.m_law_says T.k_law_says T.b_law_says .nil pass0 (@pa_cons _ _ _ _ _ (pe_meth (pe_new0 T.k0_Right (by rfl) T.c_Right) T.cl_Right T.mt_Right_shows G_Right_shows (hr.mono (by decide)) T.b_Right_shows .nil pass0 (@pa_cons _ _ _ _ _ (pv 2) (@pa_cons _ _ _ _ _ (pv 4) pa_nil (by rfl)) (by rfl))) (@pa_cons _ _ _ _ _ (pe_cmpR op_isN (pv 6) pe_non (nomark _)) pa_nil (by rfl)) (by rfl))))) (pss_one (ps_ret pe_bl)) pss_nil)
      (pss_cons (ps_asg (pe_ifExp (pt_cmpR op_notN (pv 6) pe_non (nomark _)) (pv 6) (@pe_tup _ _ _ _ _ (@pa_cons _ _ _ _ _ pe_int (@pa_cons _ _ _ _ _ pe_int pa_nil (by rfl)) (by rfl)))) (pg_tupK K (n := 2) (by rfl) (pgs_cons (pg_name (i := 8) sc_law.nd rfl (Or.inl rfl)) (pgs_cons (pg_name (i := 9) sc_law.nd rfl (Or.inl rfl)) pgs_nil))))
      (@pss_cons _ _ _ _ _ (@ps_set _ _ 7 _ _ _ _ sc_law.nd rfl (Or.inl rfl) (@pe_lst _ _ _ _ (@pa_cons _ _ _ _ _ (@pe_tup _ _ _ _ _ (@pa_cons _ _ _ _ _ (pv 8) (@pa_cons _ _ _ _ _ (pv 9) pa_nil (by rfl)) (by rfl))) (@pa_cons _ _ _ _ _ (@pe_tup _ _ _ _ _ (@pa_cons _ _ _ _ _ (pe_op op_add (pv 8) pe_int) (@pa_cons _ _ _ _ _ (pv 9) pa_nil (by rfl)) (by rfl))) (@pa_cons _ _ _ _ _ (@pe_tup _ _ _ _ _ (@pa_cons _ _ _ _ _ (pe_op op_sub (pv 8) pe_int) (@pa_cons _ _ _ _ _ (pv 9) pa_nil (by rfl)) (by rfl))) (@pa_cons _ _ _ _ _ (@pe_tup _ _ _ _ _ (@pa_cons _ _ _ _ _ (pv 8) (@pa_cons _ _ _ _ _ (pe_op op_add (pv 9) pe_int) pa_nil (by rfl)) (by rfl))) (@pa_cons _ _ _ _ _ (@pe_tup _ _ _ _ _ (@pa_cons _ _ _ _ _ (pv 8) (@pa_cons _ _ _ _ _ (pe_op op_sub (pv 9) pe_int) pa_nil (by rfl)) (by rfl))) (@pa_cons _ _ _ _ _ (@pe_tup _ _ _ _ _ (@pa_cons _ _ _ _ _ (pe_un un_neg pe_int) (@pa_cons _ _ _ _ _ (pe_un un_neg pe_int) pa_nil (by rfl)) (by rfl))) (@pa_cons _ _ _ _ _ (@pe_tup _ _ _ _ _ (@pa_cons _ _ _ _ _ (pe_callB (call_len_seqK K) (by rfl) T.n_len PySem.boot_len (@pa_cons _ _ _ _ _ (pv 4) pa_nil (by rfl))) (@pa_cons _ _ _ _ _ pe_int pa_nil (by rfl)) (by rfl))) pa_nil (by rfl)) (by rfl)) (by rfl)) (by rfl)) (by rfl)) (by rfl)) (by rfl))) (by rfl) (by first | exact .inl rfl | exact .inr rfl))
      (pss_one (ps_for PassesOwn.never rfl (pi_listK K (pe_op op_cat (pv 7) (@pe_lst _ _ _ _ (@pa_cons _ _ _ _ _ (@pe_tup _ _ _ _ _ (@pa_cons _ _ _ _ _ (pe_op op_pow pe_int pe_int) (@pa_cons _ _ _ _ _ (pv 9) pa_nil (by rfl)) (by rfl))) (@pa_cons _ _ _ _ _ (@pe_tup _ _ _ _ _ (@pa_cons _ _ _ _ _ (pv 8) (@pa_cons _ _ _ _ _ (pe_op op_pow pe_int pe_int) pa_nil (by rfl)) (by rfl))) (@pa_cons _ _ _ _ _ (@pe_tup _ _ _ _ _ (@pa_cons _ _ _ _ _ (pv 9) (@pa_cons _ _ _ _ _ (pv 8) pa_nil (by rfl)) (by rfl))) pa_nil (by rfl)) (by rfl)) (by rfl))))) (pg_tupK K (n := 2) (by rfl) (pgs_cons (pg_name (i := 10) sc_law.nd rfl (Or.inl rfl)) (pgs_cons (pg_name (i := 11) sc_law.nd rfl (Or.inl rfl)) pgs_nil))) (pss_cons (ps_set (i := 12) sc_law.nd rfl (Or.inl rfl) (pe_make T.k_Wrong G_Wrong_init (hr.mono (by decide)) (by rfl) T.c_Wrong T.b_Wrong_init .nil pass0 (@pa_cons _ _ _ _ _ (pv 10) (@pa_cons _ _ _ _ _ (pv 11) pa_nil (by rfl)) (by rfl))))
      (pss_cons (ps_if (pt_cmpR (op_neDK K hr.units) (@pe_tup _ _ _ _ _ (@pa_cons _ _ _ _ _ (pe_fldK K (pv 12) rfl) (@pa_cons _ _ _ _ _ (pe_fldK K (pv 12) rfl) pa_nil (by rfl)) (by rfl))) (@pe_tup _ _ _ _ _ (@pa_cons _ _ _ _ _ (pv 10) (@pa_cons _ _ _ _ _ (pv 11) pa_nil (by rfl)) (by rfl))) (nomark _)) (pss_one (ps_ret pe_bl)) pss_nil)
      (pss_one (ps_if (pt_not (pt_val (pe_call G_law_says (hr.mono (by decide)) (by rfl) T.m_law_says T.k_law_says T.b_law_says .nil pass0 (@pa_cons _ _ _ _ _ (pe_meth (pv 12) T.cl_Wrong T.mt_Wrong_shows G_Wrong_shows (hr.mono (by decide)) T.b_Wrong_shows .nil pass0 (@pa_cons _ _ _ _ _ (pv 2) (@pa_cons _ _ _ _ _ (pv 4) pa_nil (by rfl)) (by rfl))) (@pa_cons _ _ _ _ _ (pe_cmpR (op_eqDK K hr.units) (pv 6) (@pe_tup _ _ _ _ _ (@pa_cons _ _ _ _ _ (pv 10) (@pa_cons _ _ _ _ _ (pv 11) pa_nil (by rfl)) (by rfl))) (nomark _)) pa_nil (by rfl)) (by rfl))))) (pss_one (ps_ret pe_bl)) pss_nil)))))))))))
      (pss_cons (ps_set (i := 5) sc_law.nd rfl (Or.inl rfl) (@pe_lst _ _ _ _ (@pa_cons _ _ _ _ _ (@pe_lst _ _ _ _ (@pa_cons _ _ _ _ _ pe_int (@pa_cons _ _ _ _ _ pe_int pa_nil (by rfl)) (by rfl))) (@pa_cons _ _ _ _ _ (@pe_lst _ _ _ _ pa_nil) (@pa_cons _ _ _ _ _ (@pe_lst _ _ _ _ pa_nil) pa_nil (by rfl)) (by rfl)) (by rfl))))
      (pss_cons (ps_if (pt_cmpR op_isnotB (pe_meth (pe_make T.k_Wrong G_Wrong_init (hr.mono (by decide)) (by rfl) T.c_Wrong T.b_Wrong_init .nil pass0 (@pa_cons _ _ _ _ _ pe_int (@pa_cons _ _ _ _ _ pe_int pa_nil (by rfl)) (by rfl))) T.cl_Wrong T.mt_Wrong_shows G_Wrong_shows (hr.mono (by decide)) T.b_Wrong_shows .nil pass0 (@pa_cons _ _ _ _ _ (pv 5) (@pa_cons _ _ _ _ _ (@pe_lst _ _ _ _ (@pa_cons _ _ _ _ _ (@pe_lst _ _ _ _ (@pa_cons _ _ _ _ _ (@pe_tup _ _ _ _ _ (@pa_cons _ _ _ _ _ pe_int (@pa_cons _ _ _ _ _ pe_int (@pa_cons _ _ _ _ _ pe_bl pa_nil (by rfl)) (by rfl)) (by rfl))) pa_nil (by rfl))) pa_nil (by rfl))) pa_nil (by rfl)) (by rfl))) pe_bl (nomark _)) (pss_one (ps_ret pe_bl)) pss_nil)
      (pss_cons (ps_if (pt_cmpR op_isnotB (pe_meth (pe_make T.k_Wrong G_Wrong_init (hr.mono (by decide)) (by rfl) T.c_Wrong T.b_Wrong_init .nil pass0 (@pa_cons _ _ _ _ _ pe_int (@pa_cons _ _ _ _ _ pe_int pa_nil (by rfl)) (by rfl))) T.cl_Wrong T.mt_Wrong_shows G_Wrong_shows (hr.mono (by decide)) T.b_Wrong_shows .nil pass0 (@pa_cons _ _ _ _ _ (pv 5) (@pa_cons _ _ _ _ _ (@pe_lst _ _ _ _ (@pa_cons _ _ _ _ _ (pe_op op_rep (@pe_lst _ _ _ _ (@pa_cons _ _ _ _ _ (@pe_tup _ _ _ _ _ (@pa_cons _ _ _ _ _ pe_int (@pa_cons _ _ _ _ _ pe_int (@pa_cons _ _ _ _ _ pe_bl pa_nil (by rfl)) (by rfl)) (by rfl))) pa_nil (by rfl))) pe_int) pa_nil (by rfl))) pa_nil (by rfl)) (by rfl))) pe_bl (nomark _)) (pss_one (ps_ret pe_bl)) pss_nil)
      (pss_one (ps_ret (pe_and (pe_cmpR op_isB (pe_meth (pe_new0 T.k0_Right (by rfl) T.c_Right) T.cl_Right T.mt_Right_shows G_Right_shows (hr.mono (by decide)) T.b_Right_shows .nil pass0 (@pa_cons _ _ _ _ _ (pv 5) (@pa_cons _ _ _ _ _ (@pe_lst _ _ _ _ (@pa_cons _ _ _ _ _ (@pe_lst _ _ _ _ (@pa_cons _ _ _ _ _ (@pe_tup _ _ _ _ _ (@pa_cons _ _ _ _ _ pe_int (@pa_cons _ _ _ _ _ pe_int (@pa_cons _ _ _ _ _ pe_bl pa_nil (by rfl)) (by rfl)) (by rfl))) pa_nil (by rfl))) (@pa_cons _ _ _ _ _ (@pe_lst _ _ _ _ (@pa_cons _ _ _ _ _ (@pe_tup _ _ _ _ _ (@pa_cons _ _ _ _ _ pe_int (@pa_cons _ _ _ _ _ pe_int (@pa_cons _ _ _ _ _ pe_bl pa_nil (by rfl)) (by rfl)) (by rfl))) pa_nil (by rfl))) pa_nil (by rfl)) (by rfl))) pa_nil (by rfl)) (by rfl))) pe_bl (nomark _)) (pe_one (pe_cmpR op_isB (pe_meth (pe_make T.k_Wrong G_Wrong_init (hr.mono (by decide)) (by rfl) T.c_Wrong T.b_Wrong_init .nil pass0 (@pa_cons _ _ _ _ _ pe_int (@pa_cons _ _ _ _ _ pe_int pa_nil (by rfl)) (by rfl))) T.cl_Wrong T.mt_Wrong_shows G_Wrong_shows (hr.mono (by decide)) T.b_Wrong_shows .nil pass0 (@pa_cons _ _ _ _ _ (pv 5) (@pa_cons _ _ _ _ _ (@pe_lst _ _ _ _ (@pa_cons _ _ _ _ _ (@pe_lst _ _ _ _ pa_nil) pa_nil (by rfl))) pa_nil (by rfl)) (by rfl))) pe_bl (nomark _))))))))))))), ?_⟩
    refine ⟨_, rfl, _, rfl, a, ns.map V.int, rfl, hS, fun cl0 hcl0 => ?_⟩
    rw [cut63 hlen]
    have m1 : Same H (upd H cl0 (.lst (ns.map V.int))) := Same.new hcl0
    have hcl1 : (upd H cl0 (.lst (ns.map V.int))) cl0 = some (.lst (ns.map V.int)) := upd_same
    generalize upd H cl0 (.lst (ns.map V.int)) = H1 at m1 hcl1
    refine ⟨cl0, ns, rfl, SqL.of hcl1, ?_⟩
    refine ⟨_, rfl, a, ns, _, _, rfl, m1.seq hS, hlen, by decide, by decide, by decide, by decide, fun ob rs os H2 s2 _ hob hL _ _ _ g hn10 => ?_⟩
    have n1 := g.n1
    have n40 := g.n40
    have hrl : rs.length = os.length := hL.1
    refine ⟨_, rfl, _, rfl, _, rfl, ob, _, rfl, .inl (SqL.of hob), ?_⟩
    rw [List.length_map, hrl]
    refine ⟨a, ns, _, _, rfl, (m1.trans s2).seq hS, hlen, by decide, by decide, by omega, by omega, fun ab as H3 s3 _ hab hA => ?_⟩
    have hA0 : ∀ a ∈ as, 0 < a := fun a ha => (hA.2 a ha).1
    refine ⟨ob, ab, _, os, as, rfl, s3 _ _ hob, (hL.mono s3).ol, g, hab, hA0, fun cl ts H4 s4 _ hcl hRS _ => ?_⟩
    have hCS : CS H4 ts (wlk os as) := ⟨hRS.len, fun i t cs a b => (hRS.at' i t cs a b).2⟩
    have hk40 : (wlk os as).length ≤ 40 := by have := wlk_len g hA0; omega
    have hn40 := wlk_rounds g hA0
    generalize wlk os as = css at hCS hk40 hn40
    have hob4 := (s3.trans s4) _ _ hob
    have hO4 := (hL.mono (s3.trans s4)).ol
    refine ⟨_, rfl, (by show 1 ≤ sizeLine; decide), fun c1 hc1 => ?_⟩
    have m5 : Same H4 (upd H4 c1 (.lst [.ref cl])) := Same.new hc1
    have hc15 : (upd H4 c1 (.lst [.ref cl])) c1 = some (.lst [.ref cl]) := upd_same
    generalize upd H4 c1 (.lst [.ref cl]) = H5 at m5 hc15
    refine ⟨_, rfl, _, rfl, _, _, rfl, rfl, ⟨by decide, by decide⟩, cl, ts, css, _, rfl, m5 _ _ hcl, hCS.mono m5, hk40, hn40, fun f zs H6 s6 hf hzl hzs => ?_⟩
    refine ⟨f, zs, rfl, _, rfl, _, _, rfl, rfl, (by show (0 : Int) < 2; decide), _, rfl, SqL.of hf, fun p ys hp hys hyl => ?_⟩
    have m7 : Same H6 (upd H6 p (.lst ys)) := Same.new hp
    have hp7 : (upd H6 p (.lst ys)) p = some (.lst ys) := upd_same
    generalize upd H6 p (.lst ys) = H7 at m7 hp7
    refine ⟨c1, p, _, _, rfl, rfl, (s6.trans m7) _ _ hc15, hp7, Nat.le_of_lt (small1k (by show 1 + ys.length ≤ 1000; omega)), fun q hq => ?_⟩
    have m8 : Same H7 (upd H7 q (.lst ([.ref cl] ++ ys))) := Same.new hq
    have hq8 : (upd H7 q (.lst ([.ref cl] ++ ys))) q = some (.lst ([.ref cl] ++ ys)) := upd_same
    generalize upd H7 q (.lst ([.ref cl] ++ ys)) = H8 at m8 hq8
    have s48 : Same H4 H8 := m5.trans (s6.trans (m7.trans m8))
    have hsp : ∀ z ∈ ([.ref cl] ++ ys : List V), SPc 100 100 H8 z := fun z hz => by
      rcases List.mem_append.mp hz with hz | hz
      · rw [List.mem_singleton.mp hz]
        exact ⟨cl, _, rfl, s48 _ _ hcl, by rw [List.length_map, hCS.len]; omega, (hCS.mono s48).rd fun cs h => Nat.le_trans (hn40 cs h).2 (by decide)⟩
      · exact SPc.mono _ _ _ (m7.trans m8) (hzs z (hys z hz))
    have hob8 := s48 _ _ hob4
    have hO8 := RL.mono hO4 s48
    refine ⟨q, rfl, ⟨_, SqL.of hq8⟩, ?_⟩
    refine for_list (K := K) (a := q) (xs := [.ref cl] ++ ys) (fun i σ H9 => ∃ (x4 x6 x7 x8 x9 x10 x11 x12 : Option V), σ = [some (.ref a), some (.int ns.sum), some (.ref ob), some (.ref cl), x4, none, x6, x7, x8, x9, x10, x11, x12] ∧ Same H8 H9)
      ⟨none, none, none, none, none, none, none, none, rfl, Same.refl _⟩ (fun i σ H9 _ ⟨_, _, _, _, _, _, _, _, _, s9⟩ => SqL.of (s9 _ _ hq8)) ?_ ?_
    · rintro i z σ H9 hz ⟨x4, x6, x7, x8, x9, x10, x11, x12, rfl, s9⟩
      obtain ⟨sc, zs', rfl, hsc, hzl', hzr⟩ := SPc.mono _ _ _ s9 (hsp z (List.mem_of_getElem? hz))
      obtain ⟨ts', css', rfl, hCS', hn'⟩ := rd_cs hzr
      have hl' : css'.length ≤ 900 := by rw [← hCS'.len, ← List.length_map (f := V.ref)]; omega
      have hn9 : ∀ cs ∈ css', cs.length ≤ 900 := fun cs h => Nat.le_trans (hn' cs h) (by decide)
      have hob9 := s9 _ _ hob8
      have hO9 := RL.mono hO8 s9
      refine gn ?_
      refine fw_set rfl rfl hob9 hO9 g hsc hCS' hl' hn9 fun v Ha sa hv => ?_
      refine fun x dx hx hdx ndx => ?_
      have t1 := mk_same (C := A.C_Right) hx hdx
      have sat := sa.trans t1
      refine ⟨x, dx, [], rfl, upd_same, rfl, _, rfl, _, rfl, x, ob, sc, _, os, ts', css', rfl, sat _ _ hob9, RL.mono hO9 sat, g, sat _ _ hsc, hCS'.mono sat, hl', hn9, fun Hb sb => ?_⟩
      refine ⟨_, rfl, rfl, _, _, rfl, _, rfl, ?_⟩
      rw [hv.isN, decide_eq_true (show (fwM os (firstM os) 0 css').isNone = (fwM os (firstM os) 0 css').isNone from rfl)]
      refine iteF ?_
      have s9b := sat.trans sb
      have hvb := hv.mono (t1.trans sb)
      try dsimp only
      refine pick_at hvb rfl fun a1 b1 tp Hc sc' htp => ?_
      refine ⟨tp, _, rfl, SqT.of htp, rfl, _, _, rfl, _, _, rfl, rfl, ?_⟩
      try dsimp only
      have s9c := s9b.trans sc'
      have hvc := hvb.mono sc'
      refine AllP.set (k := 7) ?_ (by decide) fun L lv Hd sd hL hlv hpd => ?_
      · refine AllP.cons (k := 6) (MkP.tup fun Q' k => ⟨_, rfl, _, rfl, k _ _⟩) fun E1 q1 => ?_
        refine AllP.cons (k := 5) (MkP.tup fun Q' k => ⟨_, rfl, _, _, rfl, rfl, _, rfl, k _ _⟩) fun E2 q2 => ?_
        refine AllP.cons (k := 4) (MkP.tup fun Q' k => ⟨_, rfl, _, _, rfl, rfl, _, rfl, k _ _⟩) fun E3 q3 => ?_
        refine AllP.cons (k := 3) (MkP.tup fun Q' k => ⟨_, rfl, _, rfl, _, _, rfl, rfl, k _ _⟩) fun E4 q4 => ?_
        refine AllP.cons (k := 2) (MkP.tup fun Q' k => ⟨_, rfl, _, rfl, _, _, rfl, rfl, k _ _⟩) fun E5 q5 => ?_
        refine AllP.cons (k := 1) (MkP.tup fun Q' k => ⟨_, rfl, _, rfl, k _ _⟩) fun E6 q6 => ?_
        exact AllP.cons (k := 0) (MkP.tup fun Q' k => ⟨_, rfl, sc, _, rfl, .inl (SqL.of ((s9c.trans (q1.trans (q2.trans (q3.trans (q4.trans (q5.trans q6)))))) _ _ hsc)), k _ _⟩) fun _ _ => AllP.nil
      refine AllP.loop (k := 3) rfl hL hpd ?_ (by omega) fun M mv He se hM hmv => ?_
      · refine AllP.cons (k := 2) (MkP.tup fun Q' k => ⟨_, _, rfl, rfl, ⟨by decide, by decide, by decide⟩, _, rfl, k _ _⟩) fun _ _ => ?_
        refine AllP.cons (k := 1) (MkP.tup fun Q' k => ⟨_, rfl, _, _, rfl, rfl, ⟨by decide, by decide, by decide⟩, k _ _⟩) fun _ _ => ?_
        exact AllP.cons (k := 0) (MkP.tup fun Q' k => ⟨_, rfl, _, rfl, k _ _⟩) fun _ _ => AllP.nil
      have s9e := s9c.trans (sd.trans se)
      have hve := hvc.mono (sd.trans se)
      refine ⟨M, rfl, ⟨_, SqL.of hM⟩, ?_⟩
      refine for_list (K := K) (a := M) (xs := mv) (fun j σ Hf => ∃ (x10 x11 x12 : Option V), σ = [some (.ref a), some (.int ns.sum), some (.ref ob), some (.ref cl), some (.ref sc), none, some v, some (.ref L), some (.int a1), some (.int b1), x10, x11, x12] ∧ Same He Hf)
        ⟨x10, x11, x12, rfl, Same.refl _⟩ (fun j σ Hf _ ⟨_, _, _, _, sf⟩ => SqL.of (sf _ _ hM)) ?_ ?_
      · rintro j y σ Hf hy ⟨x10, x11, x12, rfl, sf⟩
        obtain ⟨u, one, oth, rfl, hu⟩ := hmv y (List.mem_of_getElem? hy)
        refine ⟨u, _, rfl, SqT.of (sf _ _ hu), rfl, _, _, rfl, _, _, rfl, rfl, ?_⟩
        refine ⟨_, rfl, _, rfl, fun x dx hx hdx ndx => ?_⟩
        have t2 := mk_same (C := A.C_Wrong) hx hdx
        refine ⟨x, dx, one, oth, rfl, upd_same, fun Hg bg hxg => ⟨rfl, ?_⟩⟩
        have sfg : Same Hf Hg := mk_keep t2 hx bg
        refine ⟨_, rfl, x, A.C_Wrong, dx, _, _, rfl, hxg, T.cl_Wrong, T.na_Wrong_turn, fx_turn one oth, _, rfl, x, A.C_Wrong, dx, _, _, rfl, hxg, T.cl_Wrong, T.na_Wrong_spot, fx_spot one oth, (by show 2 ≤ sizeLine; decide), fun p1 hp1 => ?_⟩
        have mh : Same Hg (upd Hg p1 (.tup [.int one, .int oth])) := Same.new hp1
        have hp1h : (upd Hg p1 (.tup [.int one, .int oth])) p1 = some (.tup [.int one, .int oth]) := upd_same
        generalize upd Hg p1 (.tup [.int one, .int oth]) = Hh at mh hp1h
        refine ⟨_, rfl, _, rfl, (by show 2 ≤ sizeLine; decide), fun p2 hp2 => ?_⟩
        have mi : Same Hh (upd Hh p2 (.tup [.int one, .int oth])) := Same.new hp2
        have hp2i : (upd Hh p2 (.tup [.int one, .int oth])) p2 = some (.tup [.int one, .int oth]) := upd_same
        generalize upd Hh p2 (.tup [.int one, .int oth]) = Hi at mi hp2i
        refine ⟨prD (one, oth), prD (one, oth), dp_pr (p := (one, oth)) (mi _ _ hp1h), dp_pr (p := (one, oth)) hp2i, Enc.pr.shaped (by decide) _, Enc.pr.shaped (by decide) _, _, rfl, ?_⟩
        rw [Enc.pr.eq, decide_eq_true (show (one, oth) = (one, oth) from rfl)]
        refine iteF ?_
        have sgi := mh.trans mi
        have s9i := s9e.trans (sf.trans (sfg.trans sgi))
        refine ⟨_, rfl, x, dx, _, rfl, sgi _ _ hxg, fx_no one oth, _, rfl, _, rfl, x, dx, ob, sc, one, oth, _, os, ts', css', rfl, sgi _ _ hxg, s9i _ _ hob9, RL.mono hO9 s9i, g, s9i _ _ hsc, hCS'.mono s9i, hl', hn9, fun Hj sj => ?_⟩
        refine ⟨_, rfl, _, rfl, _, rfl, (by show 2 ≤ sizeLine; decide), fun p3 hp3 => ?_⟩
        have mk : Same Hj (upd Hj p3 (.tup [.int one, .int oth])) := Same.new hp3
        have hp3k : (upd Hj p3 (.tup [.int one, .int oth])) p3 = some (.tup [.int one, .int oth]) := upd_same
        generalize upd Hj p3 (.tup [.int one, .int oth]) = Hk at mk hp3k
        have sek : Same He Hk := sf.trans (sfg.trans (sgi.trans (sj.trans mk)))
        obtain ⟨d, hd1, hd2, hd3⟩ := (hve.mono sek).dp (K := K)
        refine ⟨d, prD (one, oth), hd1, dp_pr (p := (one, oth)) hp3k, hd2, Enc.pr.shaped (by decide) _, _, _, rfl, _, rfl, ?_⟩
        rw [hd3, decide_eq_true (show decide ((fwM os (firstM os) 0 css').map (fun z => ((z.1 : Int), (z.2 : Int))) = some (one, oth)) = decide ((fwM os (firstM os) 0 css').map (fun z => ((z.1 : Int), (z.2 : Int))) = some (one, oth)) from rfl)]
        exact iteF ⟨_, _, _, rfl, sek⟩
      · rintro σ Hf ⟨x10, x11, x12, rfl, sf⟩
        exact ⟨_, _, _, _, _, _, _, _, rfl, s9.trans (s9e.trans sf)⟩
    · rintro σ H9 ⟨x4, x6, x7, x8, x9, x10, x11, x12, rfl, s9⟩
      try dsimp only
      refine ⟨(by show 2 ≤ sizeLine; decide), fun p0 hp0 => ?_⟩
      have mp0 : Same H9 (upd H9 p0 (.lst [.int 1, .int 2])) := Same.new hp0
      have hq0 : (upd H9 p0 (.lst [.int 1, .int 2])) p0 = some (.lst [.int 1, .int 2]) := upd_same
      generalize upd H9 p0 (.lst [.int 1, .int 2]) = J0 at mp0 hq0
      refine ⟨(by show 0 ≤ sizeLine; decide), fun p1 hp1 => ?_⟩
      have mp1 : Same J0 (upd J0 p1 (.lst [])) := Same.new hp1
      have hq1 : (upd J0 p1 (.lst [])) p1 = some (.lst []) := upd_same
      generalize upd J0 p1 (.lst []) = J1 at mp1 hq1
      refine ⟨(by show 0 ≤ sizeLine; decide), fun p2 hp2 => ?_⟩
      have mp2 : Same J1 (upd J1 p2 (.lst [])) := Same.new hp2
      have hq2 : (upd J1 p2 (.lst [])) p2 = some (.lst []) := upd_same
      generalize upd J1 p2 (.lst []) = J2 at mp2 hq2
      refine ⟨(by show 3 ≤ sizeLine; decide), fun pa hpa0 => ?_⟩
      have mp3 : Same J2 (upd J2 pa (.lst [.ref p0, .ref p1, .ref p2])) := Same.new hpa0
      have hpa : (upd J2 pa (.lst [.ref p0, .ref p1, .ref p2])) pa = some (.lst [.ref p0, .ref p1, .ref p2]) := upd_same
      generalize upd J2 pa (.lst [.ref p0, .ref p1, .ref p2]) = J3 at mp3 hpa
      have hpL : LL J3 [p0, p1, p2] os3 := by
        refine ⟨rfl, fun p r os h1 h2 => ?_⟩
        rcases p with _ | _ | _ | p
        · cases h1; cases h2; exact mp3 _ _ (mp2 _ _ (mp1 _ _ hq0))
        · cases h1; cases h2; exact mp3 _ _ (mp2 _ _ hq1)
        · cases h1; cases h2; exact mp3 _ _ hq2
        · cases h1
      have hpa : J3 pa = some (.lst ([p0, p1, p2].map V.ref)) := hpa
      have hpO := hpL.ol
      refine fun x dx hx hdx ndx => ?_
      have t1 := mk_same (C := A.C_Wrong) hx hdx
      refine ⟨x, dx, 1, 0, rfl, upd_same, fun Ka ba hxa => ⟨rfl, x, dx, _, rfl, hxa, fx_no 1 0, _, rfl, (by show 3 ≤ sizeLine; decide), fun u hu => ?_⟩⟩
      have sa : Same J3 Ka := mk_keep t1 hx ba
      have mb : Same Ka (upd Ka u (.tup [.int 0, .int 1, .bl false])) := Same.new hu
      have hub : (upd Ka u (.tup [.int 0, .int 1, .bl false])) u = some (.tup [.int 0, .int 1, .bl false]) := upd_same
      generalize upd Ka u (.tup [.int 0, .int 1, .bl false]) = Kb at mb hub
      refine ⟨(by show 1 ≤ sizeLine; decide), fun t ht => ?_⟩
      have mc : Same Kb (upd Kb t (.lst [.ref u])) := Same.new ht
      have htc : (upd Kb t (.lst [.ref u])) t = some (.lst [.ref u]) := upd_same
      generalize upd Kb t (.lst [.ref u]) = Kc at mc htc
      refine ⟨(by show 1 ≤ sizeLine; decide), fun c hc => ?_⟩
      have md : Same Kc (upd Kc c (.lst [.ref t])) := Same.new hc
      have hcd : (upd Kc c (.lst [.ref t])) c = some (.lst [.ref t]) := upd_same
      generalize upd Kc c (.lst [.ref t]) = Kd at md hcd
      have sad := mb.trans (mc.trans md)
      have s3d := sa.trans sad
      refine ⟨x, dx, pa, c, 1, 0, _, os3, [t], [[(0, 1, false)]], rfl, sad _ _ hxa, s3d _ _ hpa, RL.mono hpO s3d, good3, hcd, CS.cons (us := [u]) (md _ _ htc) (CL.cons (q := (0, 1, false)) (md _ _ (mc _ _ hub)) CL.nil) CS.nil, by decide, by decide, fun Ke se => ?_⟩
      rw [fx1]
      refine ⟨_, true, rfl, rfl, false, by decide, iteF ?_⟩
      have s3e := s3d.trans se
      clear hxa sad s3d hub htc hcd mb mc md t1 ba sa hx hdx ndx hu ht hc
      clear x dx u t c
      try dsimp only
      refine fun x dx hx hdx ndx => ?_
      have t1 := mk_same (C := A.C_Wrong) hx hdx
      refine ⟨x, dx, 0, 1, rfl, upd_same, fun La ba hxa => ⟨rfl, x, dx, _, rfl, hxa, fx_no 0 1, _, rfl, (by show 3 ≤ sizeLine; decide), fun u hu => ?_⟩⟩
      have sa : Same Ke La := mk_keep t1 hx ba
      have mb : Same La (upd La u (.tup [.int 0, .int 1, .bl true])) := Same.new hu
      have hub : (upd La u (.tup [.int 0, .int 1, .bl true])) u = some (.tup [.int 0, .int 1, .bl true]) := upd_same
      generalize upd La u (.tup [.int 0, .int 1, .bl true]) = Lb at mb hub
      refine ⟨(by show 1 ≤ sizeLine; decide), fun t0 ht0 => ?_⟩
      have mx : Same Lb (upd Lb t0 (.lst [.ref u])) := Same.new ht0
      have htx : (upd Lb t0 (.lst [.ref u])) t0 = some (.lst [.ref u]) := upd_same
      generalize upd Lb t0 (.lst [.ref u]) = Lx at mx htx
      refine ⟨t0, 2, _, rfl, rfl, htx, by decide, by decide, (by show 2 ≤ sizeLine; decide), fun t ht => ?_⟩
      rw [show (List.replicate (Int.toNat 2) [V.ref u]).flatten = [V.ref u, V.ref u] from rfl]
      have mc : Same Lx (upd Lx t (.lst [.ref u, .ref u])) := Same.new ht
      have htc : (upd Lx t (.lst [.ref u, .ref u])) t = some (.lst [.ref u, .ref u]) := upd_same
      generalize upd Lx t (.lst [.ref u, .ref u]) = Lc at mc htc
      refine ⟨(by show 1 ≤ sizeLine; decide), fun c hc => ?_⟩
      have md : Same Lc (upd Lc c (.lst [.ref t])) := Same.new hc
      have hcd : (upd Lc c (.lst [.ref t])) c = some (.lst [.ref t]) := upd_same
      generalize upd Lc c (.lst [.ref t]) = Ld at md hcd
      have sad := mb.trans (mx.trans (mc.trans md))
      have s3d := s3e.trans (sa.trans sad)
      have hud := md _ _ (mc _ _ (mx _ _ hub))
      refine ⟨x, dx, pa, c, 0, 1, _, os3, [t], [[(0, 1, true), (0, 1, true)]], rfl, sad _ _ hxa, s3d _ _ hpa, RL.mono hpO s3d, good3, hcd, CS.cons (us := [u, u]) (md _ _ htc) (CL.cons (q := (0, 1, true)) hud (CL.cons (q := (0, 1, true)) hud CL.nil)) CS.nil, by decide, by decide, fun Le se => ?_⟩
      rw [fx2]
      refine ⟨_, true, rfl, rfl, false, by decide, iteF ?_⟩
      have s3l := s3d.trans se
      clear hxa sad s3d hub htc hcd mb mc md t1 ba sa hx hdx ndx hu ht hc htx mx ht0 hud
      clear x dx u t c t0
      try dsimp only
      refine fun x dx hx hdx ndx => ?_
      have t1 := mk_same (C := A.C_Right) hx hdx
      refine ⟨x, dx, [], rfl, upd_same, rfl, _, rfl, (by show 3 ≤ sizeLine; decide), fun u1 hu1 => ?_⟩
      have hx1 : (upd (upd Le dx (.own x)) x (.ins A.C_Right dx [])) x = some (.ins A.C_Right dx []) := upd_same
      generalize upd (upd Le dx (.own x)) x (.ins A.C_Right dx []) = Ma at t1 hx1 hu1
      have mb : Same Ma (upd Ma u1 (.tup [.int 0, .int 1, .bl false])) := Same.new hu1
      have hub : (upd Ma u1 (.tup [.int 0, .int 1, .bl false])) u1 = some (.tup [.int 0, .int 1, .bl false]) := upd_same
      generalize upd Ma u1 (.tup [.int 0, .int 1, .bl false]) = Mb at mb hub
      refine ⟨(by show 1 ≤ sizeLine; decide), fun r1 hr1 => ?_⟩
      have mc : Same Mb (upd Mb r1 (.lst [.ref u1])) := Same.new hr1
      have hrc : (upd Mb r1 (.lst [.ref u1])) r1 = some (.lst [.ref u1]) := upd_same
      generalize upd Mb r1 (.lst [.ref u1]) = Mc at mc hrc
      refine ⟨(by show 3 ≤ sizeLine; decide), fun u2 hu2 => ?_⟩
      have md : Same Mc (upd Mc u2 (.tup [.int 0, .int 2, .bl false])) := Same.new hu2
      have hud : (upd Mc u2 (.tup [.int 0, .int 2, .bl false])) u2 = some (.tup [.int 0, .int 2, .bl false]) := upd_same
      generalize upd Mc u2 (.tup [.int 0, .int 2, .bl false]) = Md at md hud
      refine ⟨(by show 1 ≤ sizeLine; decide), fun r2 hr2 => ?_⟩
      have me : Same Md (upd Md r2 (.lst [.ref u2])) := Same.new hr2
      have hre : (upd Md r2 (.lst [.ref u2])) r2 = some (.lst [.ref u2]) := upd_same
      generalize upd Md r2 (.lst [.ref u2]) = Me at me hre
      refine ⟨(by show 2 ≤ sizeLine; decide), fun c hc => ?_⟩
      have mf : Same Me (upd Me c (.lst [.ref r1, .ref r2])) := Same.new hc
      have hcf : (upd Me c (.lst [.ref r1, .ref r2])) c = some (.lst [.ref r1, .ref r2]) := upd_same
      generalize upd Me c (.lst [.ref r1, .ref r2]) = Mf at mf hcf
      have s3f := s3l.trans (t1.trans (mb.trans (mc.trans (md.trans (me.trans mf)))))
      refine ⟨x, pa, c, _, os3, [r1, r2], [[(0, 1, false)], [(0, 2, false)]], rfl, s3f _ _ hpa, RL.mono hpO s3f, good3, hcf, CS.cons (us := [u1]) (mf _ _ (me _ _ (md _ _ hrc))) (CL.cons (q := (0, 1, false)) (mf _ _ (me _ _ (md _ _ (mc _ _ hub)))) CL.nil) (CS.cons (us := [u2]) (mf _ _ hre) (CL.cons (q := (0, 2, false)) (mf _ _ (me _ _ hud)) CL.nil) CS.nil), by decide, by decide, fun Na sn => ?_⟩
      rw [fx3]
      refine ⟨_, true, rfl, rfl, true, by decide, iteT ?_⟩
      have s3n := s3f.trans sn
      clear hx1 hub hrc hud hre hcf
      clear mb mc md me mf t1 hx hdx ndx
      refine fun x dx hx hdx ndx => ?_
      have t1 := mk_same (C := A.C_Wrong) hx hdx
      refine ⟨x, dx, 0, 0, rfl, upd_same, fun Oa ba hxa => ⟨rfl, x, dx, _, rfl, hxa, fx_no 0 0, _, rfl, (by show 0 ≤ sizeLine; decide), fun t ht => ?_⟩⟩
      have sa : Same Na Oa := mk_keep t1 hx ba
      have mc : Same Oa (upd Oa t (.lst [])) := Same.new ht
      have htc : (upd Oa t (.lst [])) t = some (.lst []) := upd_same
      generalize upd Oa t (.lst []) = Oc at mc htc
      refine ⟨(by show 1 ≤ sizeLine; decide), fun c hc => ?_⟩
      have md : Same Oc (upd Oc c (.lst [.ref t])) := Same.new hc
      have hcd : (upd Oc c (.lst [.ref t])) c = some (.lst [.ref t]) := upd_same
      generalize upd Oc c (.lst [.ref t]) = Od at md hcd
      have sad := mc.trans md
      have s3d := s3n.trans (sa.trans sad)
      refine ⟨x, dx, pa, c, 0, 0, _, os3, [t], [[]], rfl, sad _ _ hxa, s3d _ _ hpa, RL.mono hpO s3d, good3, hcd, CS.cons (us := []) (md _ _ htc) CL.nil CS.nil, by decide, by decide, fun Oe se => ?_⟩
      rw [fx4]
      exact ⟨_, true, rfl, rfl, k _⟩
end
end Toy

namespace Toy
open PySem L2 PyProof.Rows
theorem all_mk {l : PySem.W.OpenLaw} {w : World} {K : PySem.W.Frag} {h : Heap} {mg : Str → Option Value} {fa : Addr}
    {f_is_number : Addr} {od_is_number an_is_number : Option Addr} {sl_is_number : Array (Option Value)} {oc_is_number kV_is_number dc_is_number pm_is_number cd_is_number ct_is_number : Value}
    {f_copied : Addr} {od_copied an_copied : Option Addr} {sl_copied : Array (Option Value)} {oc_copied kV_copied dc_copied pm_copied cd_copied ct_copied : Value}
    {f_first_rows : Addr} {od_first_rows an_first_rows : Option Addr} {sl_first_rows : Array (Option Value)} {oc_first_rows kV_first_rows dc_first_rows pm_first_rows cd_first_rows ct_first_rows : Value}
    {f_callers : Addr} {od_callers an_callers : Option Addr} {sl_callers : Array (Option Value)} {oc_callers kV_callers dc_callers pm_callers cd_callers ct_callers : Value}
    {f_next_round : Addr} {od_next_round an_next_round : Option Addr} {sl_next_round : Array (Option Value)} {oc_next_round kV_next_round dc_next_round pm_next_round cd_next_round ct_next_round : Value}
    {f_first_wrong : Addr} {od_first_wrong an_first_wrong : Option Addr} {sl_first_wrong : Array (Option Value)} {oc_first_wrong kV_first_wrong dc_first_wrong pm_first_wrong cd_first_wrong ct_first_wrong : Value}
    {f_first_unlike : Addr} {od_first_unlike an_first_unlike : Option Addr} {sl_first_unlike : Array (Option Value)} {oc_first_unlike kV_first_unlike dc_first_unlike pm_first_unlike cd_first_unlike ct_first_unlike : Value}
    {f_law_number : Addr} {od_law_number an_law_number : Option Addr} {sl_law_number : Array (Option Value)} {oc_law_number kV_law_number dc_law_number pm_law_number cd_law_number ct_law_number : Value}
    {f_law_says : Addr} {od_law_says an_law_says : Option Addr} {sl_law_says : Array (Option Value)} {oc_law_says kV_law_says dc_law_says pm_law_says cd_law_says ct_law_says : Value}
    {f_law_ups : Addr} {od_law_ups an_law_ups : Option Addr} {sl_law_ups : Array (Option Value)} {oc_law_ups kV_law_ups dc_law_ups pm_law_ups cd_law_ups ct_law_ups : Value}
    {f_law_orders : Addr} {od_law_orders an_law_orders : Option Addr} {sl_law_orders : Array (Option Value)} {oc_law_orders kV_law_orders dc_law_orders pm_law_orders cd_law_orders ct_law_orders : Value}
    {f_law_absent : Addr} {od_law_absent an_law_absent : Option Addr} {sl_law_absent : Array (Option Value)} {oc_law_absent kV_law_absent dc_law_absent pm_law_absent cd_law_absent ct_law_absent : Value}
    {f_law_walk : Addr} {od_law_walk an_law_walk : Option Addr} {sl_law_walk : Array (Option Value)} {oc_law_walk kV_law_walk dc_law_walk pm_law_walk cd_law_walk ct_law_walk : Value}
    {f_law_wrong : Addr} {od_law_wrong an_law_wrong : Option Addr} {sl_law_wrong : Array (Option Value)} {oc_law_wrong kV_law_wrong dc_law_wrong pm_law_wrong cd_law_wrong ct_law_wrong : Value}
    {f_law_spoils : Addr} {od_law_spoils an_law_spoils : Option Addr} {sl_law_spoils : Array (Option Value)} {oc_law_spoils kV_law_spoils dc_law_spoils pm_law_spoils cd_law_spoils ct_law_spoils : Value}
    {f_law : Addr} {od_law an_law : Option Addr} {sl_law : Array (Option Value)} {oc_law kV_law dc_law pm_law cd_law ct_law : Value}
    {C_Right : Addr}
    {C_Wrong : Addr}
    {f_Right_shows : Addr} {od_Right_shows an_Right_shows : Option Addr} {sl_Right_shows : Array (Option Value)} {oc_Right_shows kV_Right_shows dc_Right_shows pm_Right_shows cd_Right_shows ct_Right_shows : Value}
    {f_Wrong_init : Addr} {od_Wrong_init an_Wrong_init : Option Addr} {sl_Wrong_init : Array (Option Value)} {oc_Wrong_init kV_Wrong_init dc_Wrong_init pm_Wrong_init cd_Wrong_init ct_Wrong_init : Value}
    {f_Wrong_shows : Addr} {od_Wrong_shows an_Wrong_shows : Option Addr} {sl_Wrong_shows : Array (Option Value)} {oc_Wrong_shows kV_Wrong_shows dc_Wrong_shows pm_Wrong_shows cd_Wrong_shows ct_Wrong_shows : Value}
    (X : K.In h) (G : h.Ns mainGlobals mg) (hfa : mg "law" = some (.ref fa))
    (z_any : PySem.W.nsIn K mainGlobals "any" = some none)
    (z_bool : PySem.W.nsIn K mainGlobals "bool" = some none)
    (z_enumerate : PySem.W.nsIn K mainGlobals "enumerate" = some none)
    (z_int : PySem.W.nsIn K mainGlobals "int" = some none)
    (z_isinstance : PySem.W.nsIn K mainGlobals "isinstance" = some none)
    (z_len : PySem.W.nsIn K mainGlobals "len" = some none)
    (z_list : PySem.W.nsIn K mainGlobals "list" = some none)
    (z_min : PySem.W.nsIn K mainGlobals "min" = some none)
    (z_range : PySem.W.nsIn K mainGlobals "range" = some none)
    (z_sorted : PySem.W.nsIn K mainGlobals "sorted" = some none)
    (z_sum : PySem.W.nsIn K mainGlobals "sum" = some none)
    (z_zip : PySem.W.nsIn K mainGlobals "zip" = some none)
    (a_is_number : PySem.W.nsIn K mainGlobals "is_number" = some (some (.ref f_is_number)))
    (l_is_number : K.lookup f_is_number = some ⟨oc_is_number, od_is_number, .func (PySem.W.fnOf "is_number" "is_number" (defArgs s_is_number) (defBody s_is_number) (defScope s_is_number) .none kV_is_number dc_is_number pm_is_number an_is_number cd_is_number ct_is_number), sl_is_number⟩)
    (cc_is_number : PySem.W.codeIn K cd_is_number "is_number" = true)
    (k_is_number : PySem.W.keepIn K (.ref f_is_number) = true)
    (a_copied : PySem.W.nsIn K mainGlobals "copied" = some (some (.ref f_copied)))
    (l_copied : K.lookup f_copied = some ⟨oc_copied, od_copied, .func (PySem.W.fnOf "copied" "copied" (defArgs s_copied) (defBody s_copied) (defScope s_copied) .none kV_copied dc_copied pm_copied an_copied cd_copied ct_copied), sl_copied⟩)
    (cc_copied : PySem.W.codeIn K cd_copied "copied" = true)
    (k_copied : PySem.W.keepIn K (.ref f_copied) = true)
    (a_first_rows : PySem.W.nsIn K mainGlobals "first_rows" = some (some (.ref f_first_rows)))
    (l_first_rows : K.lookup f_first_rows = some ⟨oc_first_rows, od_first_rows, .func (PySem.W.fnOf "first_rows" "first_rows" (defArgs s_first_rows) (defBody s_first_rows) (defScope s_first_rows) .none kV_first_rows dc_first_rows pm_first_rows an_first_rows cd_first_rows ct_first_rows), sl_first_rows⟩)
    (cc_first_rows : PySem.W.codeIn K cd_first_rows "first_rows" = true)
    (k_first_rows : PySem.W.keepIn K (.ref f_first_rows) = true)
    (a_callers : PySem.W.nsIn K mainGlobals "callers" = some (some (.ref f_callers)))
    (l_callers : K.lookup f_callers = some ⟨oc_callers, od_callers, .func (PySem.W.fnOf "callers" "callers" (defArgs s_callers) (defBody s_callers) (defScope s_callers) .none kV_callers dc_callers pm_callers an_callers cd_callers ct_callers), sl_callers⟩)
    (cc_callers : PySem.W.codeIn K cd_callers "callers" = true)
    (k_callers : PySem.W.keepIn K (.ref f_callers) = true)
    (a_next_round : PySem.W.nsIn K mainGlobals "next_round" = some (some (.ref f_next_round)))
    (l_next_round : K.lookup f_next_round = some ⟨oc_next_round, od_next_round, .func (PySem.W.fnOf "next_round" "next_round" (defArgs s_next_round) (defBody s_next_round) (defScope s_next_round) .none kV_next_round dc_next_round pm_next_round an_next_round cd_next_round ct_next_round), sl_next_round⟩)
    (cc_next_round : PySem.W.codeIn K cd_next_round "next_round" = true)
    (k_next_round : PySem.W.keepIn K (.ref f_next_round) = true)
    (a_first_wrong : PySem.W.nsIn K mainGlobals "first_wrong" = some (some (.ref f_first_wrong)))
    (l_first_wrong : K.lookup f_first_wrong = some ⟨oc_first_wrong, od_first_wrong, .func (PySem.W.fnOf "first_wrong" "first_wrong" (defArgs s_first_wrong) (defBody s_first_wrong) (defScope s_first_wrong) .none kV_first_wrong dc_first_wrong pm_first_wrong an_first_wrong cd_first_wrong ct_first_wrong), sl_first_wrong⟩)
    (cc_first_wrong : PySem.W.codeIn K cd_first_wrong "first_wrong" = true)
    (k_first_wrong : PySem.W.keepIn K (.ref f_first_wrong) = true)
    (a_first_unlike : PySem.W.nsIn K mainGlobals "first_unlike" = some (some (.ref f_first_unlike)))
    (l_first_unlike : K.lookup f_first_unlike = some ⟨oc_first_unlike, od_first_unlike, .func (PySem.W.fnOf "first_unlike" "first_unlike" (defArgs s_first_unlike) (defBody s_first_unlike) (defScope s_first_unlike) .none kV_first_unlike dc_first_unlike pm_first_unlike an_first_unlike cd_first_unlike ct_first_unlike), sl_first_unlike⟩)
    (cc_first_unlike : PySem.W.codeIn K cd_first_unlike "first_unlike" = true)
    (k_first_unlike : PySem.W.keepIn K (.ref f_first_unlike) = true)
    (a_law_number : PySem.W.nsIn K mainGlobals "_law_number" = some (some (.ref f_law_number)))
    (l_law_number : K.lookup f_law_number = some ⟨oc_law_number, od_law_number, .func (PySem.W.fnOf "_law_number" "_law_number" (defArgs s_law_number) (defBody s_law_number) (defScope s_law_number) .none kV_law_number dc_law_number pm_law_number an_law_number cd_law_number ct_law_number), sl_law_number⟩)
    (cc_law_number : PySem.W.codeIn K cd_law_number "_law_number" = true)
    (k_law_number : PySem.W.keepIn K (.ref f_law_number) = true)
    (a_law_says : PySem.W.nsIn K mainGlobals "_law_says" = some (some (.ref f_law_says)))
    (l_law_says : K.lookup f_law_says = some ⟨oc_law_says, od_law_says, .func (PySem.W.fnOf "_law_says" "_law_says" (defArgs s_law_says) (defBody s_law_says) (defScope s_law_says) .none kV_law_says dc_law_says pm_law_says an_law_says cd_law_says ct_law_says), sl_law_says⟩)
    (cc_law_says : PySem.W.codeIn K cd_law_says "_law_says" = true)
    (k_law_says : PySem.W.keepIn K (.ref f_law_says) = true)
    (a_law_ups : PySem.W.nsIn K mainGlobals "_law_ups" = some (some (.ref f_law_ups)))
    (l_law_ups : K.lookup f_law_ups = some ⟨oc_law_ups, od_law_ups, .func (PySem.W.fnOf "_law_ups" "_law_ups" (defArgs s_law_ups) (defBody s_law_ups) (defScope s_law_ups) .none kV_law_ups dc_law_ups pm_law_ups an_law_ups cd_law_ups ct_law_ups), sl_law_ups⟩)
    (cc_law_ups : PySem.W.codeIn K cd_law_ups "_law_ups" = true)
    (k_law_ups : PySem.W.keepIn K (.ref f_law_ups) = true)
    (a_law_orders : PySem.W.nsIn K mainGlobals "_law_orders" = some (some (.ref f_law_orders)))
    (l_law_orders : K.lookup f_law_orders = some ⟨oc_law_orders, od_law_orders, .func (PySem.W.fnOf "_law_orders" "_law_orders" (defArgs s_law_orders) (defBody s_law_orders) (defScope s_law_orders) .none kV_law_orders dc_law_orders pm_law_orders an_law_orders cd_law_orders ct_law_orders), sl_law_orders⟩)
    (cc_law_orders : PySem.W.codeIn K cd_law_orders "_law_orders" = true)
    (k_law_orders : PySem.W.keepIn K (.ref f_law_orders) = true)
    (a_law_absent : PySem.W.nsIn K mainGlobals "_law_absent" = some (some (.ref f_law_absent)))
    (l_law_absent : K.lookup f_law_absent = some ⟨oc_law_absent, od_law_absent, .func (PySem.W.fnOf "_law_absent" "_law_absent" (defArgs s_law_absent) (defBody s_law_absent) (defScope s_law_absent) .none kV_law_absent dc_law_absent pm_law_absent an_law_absent cd_law_absent ct_law_absent), sl_law_absent⟩)
    (cc_law_absent : PySem.W.codeIn K cd_law_absent "_law_absent" = true)
    (k_law_absent : PySem.W.keepIn K (.ref f_law_absent) = true)
    (a_law_walk : PySem.W.nsIn K mainGlobals "_law_walk" = some (some (.ref f_law_walk)))
    (l_law_walk : K.lookup f_law_walk = some ⟨oc_law_walk, od_law_walk, .func (PySem.W.fnOf "_law_walk" "_law_walk" (defArgs s_law_walk) (defBody s_law_walk) (defScope s_law_walk) .none kV_law_walk dc_law_walk pm_law_walk an_law_walk cd_law_walk ct_law_walk), sl_law_walk⟩)
    (cc_law_walk : PySem.W.codeIn K cd_law_walk "_law_walk" = true)
    (k_law_walk : PySem.W.keepIn K (.ref f_law_walk) = true)
    (a_law_wrong : PySem.W.nsIn K mainGlobals "_law_wrong" = some (some (.ref f_law_wrong)))
    (l_law_wrong : K.lookup f_law_wrong = some ⟨oc_law_wrong, od_law_wrong, .func (PySem.W.fnOf "_law_wrong" "_law_wrong" (defArgs s_law_wrong) (defBody s_law_wrong) (defScope s_law_wrong) .none kV_law_wrong dc_law_wrong pm_law_wrong an_law_wrong cd_law_wrong ct_law_wrong), sl_law_wrong⟩)
    (cc_law_wrong : PySem.W.codeIn K cd_law_wrong "_law_wrong" = true)
    (k_law_wrong : PySem.W.keepIn K (.ref f_law_wrong) = true)
    (a_law_spoils : PySem.W.nsIn K mainGlobals "_law_spoils" = some (some (.ref f_law_spoils)))
    (l_law_spoils : K.lookup f_law_spoils = some ⟨oc_law_spoils, od_law_spoils, .func (PySem.W.fnOf "_law_spoils" "_law_spoils" (defArgs s_law_spoils) (defBody s_law_spoils) (defScope s_law_spoils) .none kV_law_spoils dc_law_spoils pm_law_spoils an_law_spoils cd_law_spoils ct_law_spoils), sl_law_spoils⟩)
    (cc_law_spoils : PySem.W.codeIn K cd_law_spoils "_law_spoils" = true)
    (k_law_spoils : PySem.W.keepIn K (.ref f_law_spoils) = true)
    (a_law : PySem.W.nsIn K mainGlobals "law" = some (some (.ref f_law)))
    (l_law : K.lookup f_law = some ⟨oc_law, od_law, .func (PySem.W.fnOf "law" "law" (defArgs s_law) (defBody s_law) (defScope s_law) .none kV_law dc_law pm_law an_law cd_law ct_law), sl_law⟩)
    (cc_law : PySem.W.codeIn K cd_law "law" = true)
    (k_law : PySem.W.keepIn K (.ref f_law) = true)
    (aC_Right : PySem.W.nsIn K mainGlobals "Right" = some (some (.ref C_Right)))
    (aC_Wrong : PySem.W.nsIn K mainGlobals "Wrong" = some (some (.ref C_Wrong)))
    (a_Right_shows : PySem.W.findIn K (.ref C_Right) "shows" = some (some (.ref f_Right_shows)))
    (i_Right_shows : PySem.W.isFn K (.ref f_Right_shows) = true)
    (l_Right_shows : K.lookup f_Right_shows = some ⟨oc_Right_shows, od_Right_shows, .func (PySem.W.fnOf "shows" "Right.shows" (defArgs s_Right_shows) (defBody s_Right_shows) (defScope s_Right_shows) .none kV_Right_shows dc_Right_shows pm_Right_shows an_Right_shows cd_Right_shows ct_Right_shows), sl_Right_shows⟩)
    (cc_Right_shows : PySem.W.codeIn K cd_Right_shows "Right.shows" = true)
    (k_Right_shows : PySem.W.keepIn K (.ref f_Right_shows) = true)
    (a_Wrong_init : PySem.W.findIn K (.ref C_Wrong) "__init__" = some (some (.ref f_Wrong_init)))
    (i_Wrong_init : PySem.W.isFn K (.ref f_Wrong_init) = true)
    (l_Wrong_init : K.lookup f_Wrong_init = some ⟨oc_Wrong_init, od_Wrong_init, .func (PySem.W.fnOf "__init__" "Wrong.__init__" (defArgs s_Wrong_init) (defBody s_Wrong_init) (defScope s_Wrong_init) .none kV_Wrong_init dc_Wrong_init pm_Wrong_init an_Wrong_init cd_Wrong_init ct_Wrong_init), sl_Wrong_init⟩)
    (cc_Wrong_init : PySem.W.codeIn K cd_Wrong_init "Wrong.__init__" = true)
    (k_Wrong_init : PySem.W.keepIn K (.ref f_Wrong_init) = true)
    (a_Wrong_shows : PySem.W.findIn K (.ref C_Wrong) "shows" = some (some (.ref f_Wrong_shows)))
    (i_Wrong_shows : PySem.W.isFn K (.ref f_Wrong_shows) = true)
    (l_Wrong_shows : K.lookup f_Wrong_shows = some ⟨oc_Wrong_shows, od_Wrong_shows, .func (PySem.W.fnOf "shows" "Wrong.shows" (defArgs s_Wrong_shows) (defBody s_Wrong_shows) (defScope s_Wrong_shows) .none kV_Wrong_shows dc_Wrong_shows pm_Wrong_shows an_Wrong_shows cd_Wrong_shows ct_Wrong_shows), sl_Wrong_shows⟩)
    (cc_Wrong_shows : PySem.W.codeIn K cd_Wrong_shows "Wrong.shows" = true)
    (k_Wrong_shows : PySem.W.keepIn K (.ref f_Wrong_shows) = true)
    (pg_Right : PySem.W.plainGet K C_Right Str.empty = true)
    (hd_Right : PySem.W.hasDictIn K C_Right = true)
    (po_Right : PySem.W.plainOver K C_Right = true)
    (sa_Right : PySem.W.findIn K (.ref C_Right) "__setattr__" = some (some (.builtin "object.__setattr__")))
    (mk_Right : PySem.W.makesIn K C_Right = true)
    (kc_Right : PySem.W.keepIn K (.ref C_Right) = true)
    (in_Right : PySem.W.findIn K (.ref C_Right) "__init__" = some (some (.builtin "object.__init__")))
    (pg_Wrong : PySem.W.plainGet K C_Wrong Str.empty = true)
    (hd_Wrong : PySem.W.hasDictIn K C_Wrong = true)
    (po_Wrong : PySem.W.plainOver K C_Wrong = true)
    (sa_Wrong : PySem.W.findIn K (.ref C_Wrong) "__setattr__" = some (some (.builtin "object.__setattr__")))
    (mk_Wrong : PySem.W.makesIn K C_Wrong = true)
    (kc_Wrong : PySem.W.keepIn K (.ref C_Wrong) = true)
    (na_Wrong_turn : PySem.W.findIn K (.ref C_Wrong) "turn" = some none)
    (na_Wrong_spot : PySem.W.findIn K (.ref C_Wrong) "spot" = some none)
    : ∃ fd : FuncData, (∀ (s : Shared) (u : Value), BindsTo s fd ⟨[u], []⟩ [("_law_script", u)]) ∧ ∀ base : Heap, K.In base → base.Ns mainGlobals mg → FnOk l.prog w K mg base CX0 9 fa fd ["_law_script"] (spLaw K) := by
  have e := hfa.symm.trans (PySem.W.mg_of X G a_law)
  cases e
  have F_is_number := fun_mk (st := s_is_number) l_is_number cc_is_number k_is_number
  have B_is_number := F_is_number.binds (ps := ["thing"]) fun _ _ _ _ _ _ us hl => match us, hl with | [_], _ => rfl
  have F_copied := fun_mk (st := s_copied) l_copied cc_copied k_copied
  have B_copied := F_copied.binds (ps := ["thing"]) fun _ _ _ _ _ _ us hl => match us, hl with | [_], _ => rfl
  have F_first_rows := fun_mk (st := s_first_rows) l_first_rows cc_first_rows k_first_rows
  have B_first_rows := F_first_rows.binds (ps := ["orders"]) fun _ _ _ _ _ _ us hl => match us, hl with | [_], _ => rfl
  have F_callers := fun_mk (st := s_callers) l_callers cc_callers k_callers
  have B_callers := F_callers.binds (ps := ["rows"]) fun _ _ _ _ _ _ us hl => match us, hl with | [_], _ => rfl
  have F_next_round := fun_mk (st := s_next_round) l_next_round cc_next_round k_next_round
  have B_next_round := F_next_round.binds (ps := ["orders", "rows", "absent"]) fun _ _ _ _ _ _ us hl => match us, hl with | [_, _, _], _ => rfl
  have F_first_wrong := fun_mk (st := s_first_wrong) l_first_wrong cc_first_wrong k_first_wrong
  have B_first_wrong := F_first_wrong.binds (ps := ["orders", "calls"]) fun _ _ _ _ _ _ us hl => match us, hl with | [_, _], _ => rfl
  have F_first_unlike := fun_mk (st := s_first_unlike) l_first_unlike cc_first_unlike k_first_unlike
  have B_first_unlike := F_first_unlike.binds (ps := ["ones", "others"]) fun _ _ _ _ _ _ us hl => match us, hl with | [_, _], _ => rfl
  have F_law_number := fun_mk (st := s_law_number) l_law_number cc_law_number k_law_number
  have B_law_number := F_law_number.binds (ps := ["_law_cell", "_law_at", "_law_whole"]) fun _ _ _ _ _ _ us hl => match us, hl with | [_, _, _], _ => rfl
  have F_law_says := fun_mk (st := s_law_says) l_law_says cc_law_says k_law_says
  have B_law_says := F_law_says.binds (ps := ["_law_said", "_law_due"]) fun _ _ _ _ _ _ us hl => match us, hl with | [_, _], _ => rfl
  have F_law_ups := fun_mk (st := s_law_ups) l_law_ups cc_law_ups k_law_ups
  have B_law_ups := F_law_ups.binds (ps := ["_law_script", "_law_by", "_law_most"]) fun _ _ _ _ _ _ us hl => match us, hl with | [_, _, _], _ => rfl
  have F_law_orders := fun_mk (st := s_law_orders) l_law_orders cc_law_orders k_law_orders
  have B_law_orders := F_law_orders.binds (ps := ["_law_script", "_law_by", "_law_most"]) fun _ _ _ _ _ _ us hl => match us, hl with | [_, _, _], _ => rfl
  have F_law_absent := fun_mk (st := s_law_absent) l_law_absent cc_law_absent k_law_absent
  have B_law_absent := F_law_absent.binds (ps := ["_law_script", "_law_by", "_law_people"]) fun _ _ _ _ _ _ us hl => match us, hl with | [_, _, _], _ => rfl
  have F_law_walk := fun_mk (st := s_law_walk) l_law_walk cc_law_walk k_law_walk
  have B_law_walk := F_law_walk.binds (ps := ["_law_orders_here", "_law_absent_here"]) fun _ _ _ _ _ _ us hl => match us, hl with | [_, _], _ => rfl
  have F_law_wrong := fun_mk (st := s_law_wrong) l_law_wrong cc_law_wrong k_law_wrong
  have B_law_wrong := F_law_wrong.binds (ps := ["_law_orders_here", "_law_calls"]) fun _ _ _ _ _ _ us hl => match us, hl with | [_, _], _ => rfl
  have F_law_spoils := fun_mk (st := s_law_spoils) l_law_spoils cc_law_spoils k_law_spoils
  have B_law_spoils := F_law_spoils.binds (ps := ["_law_calls", "_law_whole"]) fun _ _ _ _ _ _ us hl => match us, hl with | [_, _], _ => rfl
  have F_law := fun_mk (st := s_law) l_law cc_law k_law
  have B_law := F_law.binds (ps := ["_law_script"]) fun _ _ _ _ _ _ us hl => match us, hl with | [_], _ => rfl
  have F_Right_shows := fun_mk (st := s_Right_shows) l_Right_shows cc_Right_shows k_Right_shows
  have B_Right_shows := F_Right_shows.binds (ps := ["self", "orders", "calls"]) fun _ _ _ _ _ _ us hl => match us, hl with | [_, _, _], _ => rfl
  have F_Wrong_init := fun_mk (st := s_Wrong_init) l_Wrong_init cc_Wrong_init k_Wrong_init
  have B_Wrong_init := F_Wrong_init.binds (ps := ["self", "turn", "spot"]) fun _ _ _ _ _ _ us hl => match us, hl with | [_, _, _], _ => rfl
  have F_Wrong_shows := fun_mk (st := s_Wrong_shows) l_Wrong_shows cc_Wrong_shows k_Wrong_shows
  have B_Wrong_shows := F_Wrong_shows.binds (ps := ["self", "orders", "calls"]) fun _ _ _ _ _ _ us hl => match us, hl with | [_, _, _], _ => rfl
  have T : Txt K mg ⟨f_is_number, (PySem.W.fnOf "is_number" "is_number" (defArgs s_is_number) (defBody s_is_number) (defScope s_is_number) .none kV_is_number dc_is_number pm_is_number an_is_number cd_is_number ct_is_number), f_copied, (PySem.W.fnOf "copied" "copied" (defArgs s_copied) (defBody s_copied) (defScope s_copied) .none kV_copied dc_copied pm_copied an_copied cd_copied ct_copied), f_first_rows, (PySem.W.fnOf "first_rows" "first_rows" (defArgs s_first_rows) (defBody s_first_rows) (defScope s_first_rows) .none kV_first_rows dc_first_rows pm_first_rows an_first_rows cd_first_rows ct_first_rows), f_callers, (PySem.W.fnOf "callers" "callers" (defArgs s_callers) (defBody s_callers) (defScope s_callers) .none kV_callers dc_callers pm_callers an_callers cd_callers ct_callers), f_next_round, (PySem.W.fnOf "next_round" "next_round" (defArgs s_next_round) (defBody s_next_round) (defScope s_next_round) .none kV_next_round dc_next_round pm_next_round an_next_round cd_next_round ct_next_round), f_first_wrong, (PySem.W.fnOf "first_wrong" "first_wrong" (defArgs s_first_wrong) (defBody s_first_wrong) (defScope s_first_wrong) .none kV_first_wrong dc_first_wrong pm_first_wrong an_first_wrong cd_first_wrong ct_first_wrong), f_first_unlike, (PySem.W.fnOf "first_unlike" "first_unlike" (defArgs s_first_unlike) (defBody s_first_unlike) (defScope s_first_unlike) .none kV_first_unlike dc_first_unlike pm_first_unlike an_first_unlike cd_first_unlike ct_first_unlike), f_law_number, (PySem.W.fnOf "_law_number" "_law_number" (defArgs s_law_number) (defBody s_law_number) (defScope s_law_number) .none kV_law_number dc_law_number pm_law_number an_law_number cd_law_number ct_law_number), f_law_says, (PySem.W.fnOf "_law_says" "_law_says" (defArgs s_law_says) (defBody s_law_says) (defScope s_law_says) .none kV_law_says dc_law_says pm_law_says an_law_says cd_law_says ct_law_says), f_law_ups, (PySem.W.fnOf "_law_ups" "_law_ups" (defArgs s_law_ups) (defBody s_law_ups) (defScope s_law_ups) .none kV_law_ups dc_law_ups pm_law_ups an_law_ups cd_law_ups ct_law_ups), f_law_orders, (PySem.W.fnOf "_law_orders" "_law_orders" (defArgs s_law_orders) (defBody s_law_orders) (defScope s_law_orders) .none kV_law_orders dc_law_orders pm_law_orders an_law_orders cd_law_orders ct_law_orders), f_law_absent, (PySem.W.fnOf "_law_absent" "_law_absent" (defArgs s_law_absent) (defBody s_law_absent) (defScope s_law_absent) .none kV_law_absent dc_law_absent pm_law_absent an_law_absent cd_law_absent ct_law_absent), f_law_walk, (PySem.W.fnOf "_law_walk" "_law_walk" (defArgs s_law_walk) (defBody s_law_walk) (defScope s_law_walk) .none kV_law_walk dc_law_walk pm_law_walk an_law_walk cd_law_walk ct_law_walk), f_law_wrong, (PySem.W.fnOf "_law_wrong" "_law_wrong" (defArgs s_law_wrong) (defBody s_law_wrong) (defScope s_law_wrong) .none kV_law_wrong dc_law_wrong pm_law_wrong an_law_wrong cd_law_wrong ct_law_wrong), f_law_spoils, (PySem.W.fnOf "_law_spoils" "_law_spoils" (defArgs s_law_spoils) (defBody s_law_spoils) (defScope s_law_spoils) .none kV_law_spoils dc_law_spoils pm_law_spoils an_law_spoils cd_law_spoils ct_law_spoils), fa, (PySem.W.fnOf "law" "law" (defArgs s_law) (defBody s_law) (defScope s_law) .none kV_law dc_law pm_law an_law cd_law ct_law), f_Right_shows, (PySem.W.fnOf "shows" "Right.shows" (defArgs s_Right_shows) (defBody s_Right_shows) (defScope s_Right_shows) .none kV_Right_shows dc_Right_shows pm_Right_shows an_Right_shows cd_Right_shows ct_Right_shows), f_Wrong_init, (PySem.W.fnOf "__init__" "Wrong.__init__" (defArgs s_Wrong_init) (defBody s_Wrong_init) (defScope s_Wrong_init) .none kV_Wrong_init dc_Wrong_init pm_Wrong_init an_Wrong_init cd_Wrong_init ct_Wrong_init), f_Wrong_shows, (PySem.W.fnOf "shows" "Wrong.shows" (defArgs s_Wrong_shows) (defBody s_Wrong_shows) (defScope s_Wrong_shows) .none kV_Wrong_shows dc_Wrong_shows pm_Wrong_shows an_Wrong_shows cd_Wrong_shows ct_Wrong_shows), fa, C_Right, C_Wrong⟩ := {
    n_any := PySem.W.mg_none_of X G z_any
    n_bool := PySem.W.mg_none_of X G z_bool
    n_enumerate := PySem.W.mg_none_of X G z_enumerate
    n_int := PySem.W.mg_none_of X G z_int
    n_isinstance := PySem.W.mg_none_of X G z_isinstance
    n_len := PySem.W.mg_none_of X G z_len
    n_list := PySem.W.mg_none_of X G z_list
    n_min := PySem.W.mg_none_of X G z_min
    n_range := PySem.W.mg_none_of X G z_range
    n_sorted := PySem.W.mg_none_of X G z_sorted
    n_sum := PySem.W.mg_none_of X G z_sum
    n_zip := PySem.W.mg_none_of X G z_zip
    f_is_number := F_is_number
    b_is_number := B_is_number
    m_is_number := PySem.W.mg_of X G a_is_number
    k_is_number := k_is_number
    f_copied := F_copied
    b_copied := B_copied
    m_copied := PySem.W.mg_of X G a_copied
    k_copied := k_copied
    f_first_rows := F_first_rows
    b_first_rows := B_first_rows
    m_first_rows := PySem.W.mg_of X G a_first_rows
    k_first_rows := k_first_rows
    f_callers := F_callers
    b_callers := B_callers
    m_callers := PySem.W.mg_of X G a_callers
    k_callers := k_callers
    f_next_round := F_next_round
    b_next_round := B_next_round
    m_next_round := PySem.W.mg_of X G a_next_round
    k_next_round := k_next_round
    f_first_wrong := F_first_wrong
    b_first_wrong := B_first_wrong
    m_first_wrong := PySem.W.mg_of X G a_first_wrong
    k_first_wrong := k_first_wrong
    f_first_unlike := F_first_unlike
    b_first_unlike := B_first_unlike
    m_first_unlike := PySem.W.mg_of X G a_first_unlike
    k_first_unlike := k_first_unlike
    f_law_number := F_law_number
    b_law_number := B_law_number
    m_law_number := PySem.W.mg_of X G a_law_number
    k_law_number := k_law_number
    f_law_says := F_law_says
    b_law_says := B_law_says
    m_law_says := PySem.W.mg_of X G a_law_says
    k_law_says := k_law_says
    f_law_ups := F_law_ups
    b_law_ups := B_law_ups
    m_law_ups := PySem.W.mg_of X G a_law_ups
    k_law_ups := k_law_ups
    f_law_orders := F_law_orders
    b_law_orders := B_law_orders
    m_law_orders := PySem.W.mg_of X G a_law_orders
    k_law_orders := k_law_orders
    f_law_absent := F_law_absent
    b_law_absent := B_law_absent
    m_law_absent := PySem.W.mg_of X G a_law_absent
    k_law_absent := k_law_absent
    f_law_walk := F_law_walk
    b_law_walk := B_law_walk
    m_law_walk := PySem.W.mg_of X G a_law_walk
    k_law_walk := k_law_walk
    f_law_wrong := F_law_wrong
    b_law_wrong := B_law_wrong
    m_law_wrong := PySem.W.mg_of X G a_law_wrong
    k_law_wrong := k_law_wrong
    f_law_spoils := F_law_spoils
    b_law_spoils := B_law_spoils
    m_law_spoils := PySem.W.mg_of X G a_law_spoils
    k_law_spoils := k_law_spoils
    f_law := F_law
    b_law := B_law
    m_law := PySem.W.mg_of X G a_law
    k_law := k_law
    f_Right_shows := F_Right_shows
    b_Right_shows := B_Right_shows
    mt_Right_shows := ⟨a_Right_shows, i_Right_shows, k_Right_shows⟩
    f_Wrong_init := F_Wrong_init
    b_Wrong_init := B_Wrong_init
    f_Wrong_shows := F_Wrong_shows
    b_Wrong_shows := B_Wrong_shows
    mt_Wrong_shows := ⟨a_Wrong_shows, i_Wrong_shows, k_Wrong_shows⟩
    cl_Wrong := ⟨pg_Wrong, hd_Wrong, po_Wrong, sa_Wrong⟩
    k_Wrong := ⟨mk_Wrong, a_Wrong_init, i_Wrong_init, kc_Wrong⟩
    c_Wrong := PySem.W.mg_of X G aC_Wrong
    na_Wrong_turn := na_Wrong_turn
    na_Wrong_spot := na_Wrong_spot
    cl_Right := ⟨pg_Right, hd_Right, po_Right, sa_Right⟩
    k0_Right := ⟨mk_Right, in_Right, kc_Right⟩
    c_Right := PySem.W.mg_of X G aC_Right }
  exact ⟨_, fun s u => .of_eq rfl, fun base kb nb => ok_law T⟩
theorem walk {l : PySem.W.OpenLaw} {q : Program} {loose : List Str} {XP : (Str → Option Value) → Heap → Prop} {YP : World → Heap → Prop} {d : DefRec} {K : Params → PySem.W.Frag} (hn : l.most = some 63) (hdf : d.params.defaults = [])
    (hY : ∀ (w : World) (h : Heap), YP w h → (K w.params).In h)
    (F : ∀ (w : World) (mg : Str → Option Value) (fa : Addr) (h : Heap), (K w.params).In h → h.Ns mainGlobals mg → mg d.name = some (.ref fa) →
      ∃ fd : FuncData, (∀ (s : Shared) (u : Value), BindsTo s fd ⟨[u], []⟩ [("_law_script", u)]) ∧
        ∀ base : Heap, (K w.params).In base → base.Ns mainGlobals mg → FnOk l.prog w (K w.params) mg base CX0 9 fa fd ["_law_script"] (spLaw (K w.params))) :
    PySem.W.WalkO q loose XP YP l.row.toRowW d [] (fun f vs => PySem.call f vs) :=
  L2.walk_ofK (n := 63) (k := 9) (x := "_law_script") (CX := CX0) (sp := spLaw) hn (by decide) hdf ⟨rfl, by decide, by decide⟩ hY F (fun _ H a ns hl hO hS => ⟨a, ns, rfl, hS, hl, fun _ => rfl⟩) fun _ _ _ _ z => z
end Toy
open PySem PySem.W PyProof.Rows
set_option maxRecDepth 100000 in
set_option maxHeartbeats 0 in
theorem PySem.Challenge.cw_callchain_k06_judged_by_hand_holds : PySem.Challenge.rw_callchain_k06_judged_by_hand.Holds := by
  w_on; o_law; k_head; (case hw => w_witness2)
  k_fill
  refine Toy.walk (l := PySem.Challenge.rw_callchain_k06_judged_by_hand) rfl rfl (fun w h Y => by first | exact PySem.W.kIn_of Y | exact PySem.W.km_in_of Y) ?F
  case F =>
    intro w mg fa h KX G hmg
    refine' Toy.all_mk KX G hmg ?z_any ?z_bool ?z_enumerate ?z_int ?z_isinstance ?z_len ?z_list ?z_min ?z_range ?z_sorted ?z_sum ?z_zip ?a_is_number ?l_is_number ?cc_is_number ?k_is_number ?a_copied ?l_copied ?cc_copied ?k_copied ?a_first_rows ?l_first_rows ?cc_first_rows ?k_first_rows ?a_callers ?l_callers ?cc_callers ?k_callers ?a_next_round ?l_next_round ?cc_next_round ?k_next_round ?a_first_wrong ?l_first_wrong ?cc_first_wrong ?k_first_wrong ?a_first_unlike ?l_first_unlike ?cc_first_unlike ?k_first_unlike ?a_law_number ?l_law_number ?cc_law_number ?k_law_number ?a_law_says ?l_law_says ?cc_law_says ?k_law_says ?a_law_ups ?l_law_ups ?cc_law_ups ?k_law_ups ?a_law_orders ?l_law_orders ?cc_law_orders ?k_law_orders ?a_law_absent ?l_law_absent ?cc_law_absent ?k_law_absent ?a_law_walk ?l_law_walk ?cc_law_walk ?k_law_walk ?a_law_wrong ?l_law_wrong ?cc_law_wrong ?k_law_wrong ?a_law_spoils ?l_law_spoils ?cc_law_spoils ?k_law_spoils ?a_law ?l_law ?cc_law ?k_law ?aC_Right ?aC_Wrong ?a_Right_shows ?i_Right_shows ?l_Right_shows ?cc_Right_shows ?k_Right_shows ?a_Wrong_init ?i_Wrong_init ?l_Wrong_init ?cc_Wrong_init ?k_Wrong_init ?a_Wrong_shows ?i_Wrong_shows ?l_Wrong_shows ?cc_Wrong_shows ?k_Wrong_shows ?pg_Right ?hd_Right ?po_Right ?sa_Right ?mk_Right ?kc_Right ?in_Right ?pg_Wrong ?hd_Wrong ?po_Wrong ?sa_Wrong ?mk_Wrong ?kc_Wrong ?na_Wrong_turn ?na_Wrong_spot
    (case z_any => k_is)
    (case z_bool => k_is)
    (case z_enumerate => k_is)
    (case z_int => k_is)
    (case z_isinstance => k_is)
    (case z_len => k_is)
    (case z_list => k_is)
    (case z_min => k_is)
    (case z_range => k_is)
    (case z_sorted => k_is)
    (case z_sum => k_is)
    (case z_zip => k_is)
    (case a_is_number => k_is)
    (case l_is_number => k_is)
    (case cc_is_number => k_is)
    (case k_is_number => k_is)
    (case a_copied => k_is)
    (case l_copied => k_is)
    (case cc_copied => k_is)
    (case k_copied => k_is)
    (case a_first_rows => k_is)
    (case l_first_rows => k_is)
    (case cc_first_rows => k_is)
    (case k_first_rows => k_is)
    (case a_callers => k_is)
    (case l_callers => k_is)
    (case cc_callers => k_is)
    (case k_callers => k_is)
    (case a_next_round => k_is)
    (case l_next_round => k_is)
    (case cc_next_round => k_is)
    (case k_next_round => k_is)
    (case a_first_wrong => k_is)
    (case l_first_wrong => k_is)
    (case cc_first_wrong => k_is)
    (case k_first_wrong => k_is)
    (case a_first_unlike => k_is)
    (case l_first_unlike => k_is)
    (case cc_first_unlike => k_is)
    (case k_first_unlike => k_is)
    (case a_law_number => k_is)
    (case l_law_number => k_is)
    (case cc_law_number => k_is)
    (case k_law_number => k_is)
    (case a_law_says => k_is)
    (case l_law_says => k_is)
    (case cc_law_says => k_is)
    (case k_law_says => k_is)
    (case a_law_ups => k_is)
    (case l_law_ups => k_is)
    (case cc_law_ups => k_is)
    (case k_law_ups => k_is)
    (case a_law_orders => k_is)
    (case l_law_orders => k_is)
    (case cc_law_orders => k_is)
    (case k_law_orders => k_is)
    (case a_law_absent => k_is)
    (case l_law_absent => k_is)
    (case cc_law_absent => k_is)
    (case k_law_absent => k_is)
    (case a_law_walk => k_is)
    (case l_law_walk => k_is)
    (case cc_law_walk => k_is)
    (case k_law_walk => k_is)
    (case a_law_wrong => k_is)
    (case l_law_wrong => k_is)
    (case cc_law_wrong => k_is)
    (case k_law_wrong => k_is)
    (case a_law_spoils => k_is)
    (case l_law_spoils => k_is)
    (case cc_law_spoils => k_is)
    (case k_law_spoils => k_is)
    (case a_law => k_is)
    (case l_law => k_is)
    (case cc_law => k_is)
    (case k_law => k_is)
    (case aC_Right => k_is)
    (case aC_Wrong => k_is)
    (case a_Right_shows => k_is)
    (case i_Right_shows => k_is)
    (case l_Right_shows => k_is)
    (case cc_Right_shows => k_is)
    (case k_Right_shows => k_is)
    (case a_Wrong_init => k_is)
    (case i_Wrong_init => k_is)
    (case l_Wrong_init => k_is)
    (case cc_Wrong_init => k_is)
    (case k_Wrong_init => k_is)
    (case a_Wrong_shows => k_is)
    (case i_Wrong_shows => k_is)
    (case l_Wrong_shows => k_is)
    (case cc_Wrong_shows => k_is)
    (case k_Wrong_shows => k_is)
    (case pg_Right => k_is)
    (case hd_Right => k_is)
    (case po_Right => k_is)
    (case sa_Right => k_is)
    (case mk_Right => k_is)
    (case kc_Right => k_is)
    (case in_Right => k_is)
    (case pg_Wrong => k_is)
    (case hd_Wrong => k_is)
    (case po_Wrong => k_is)
    (case sa_Wrong => k_is)
    (case mk_Wrong => k_is)
    (case kc_Wrong => k_is)
    (case na_Wrong_turn => k_is)
    (case na_Wrong_spot => k_is)
