import PyProof.Rows.All
import Wide.All
import OpenK.AllK
import Wide.FinOn
import PyProof.EqAt
import PyProof.EqKinds
import PyProof.TupleCall
import KE.BitLaws
import PySem.Challenge.RW_callchain_k03_fewest_by_all
set_option Elab.async false
set_option linter.all false
set_option maxRecDepth 100000
namespace L2
open PySem PySem.Spec PyProof.Rows

abbrev Key := Sum Int Str
def keyIs : Key → Value → Bool
  | .inl k, v => Value.isInt k v
  | .inr x, v => Value.isStrOf x v
def keyH (w : World) : Key → Int
  | .inl k => hashInt k
  | .inr x => hashStr w x
theorem keyIs_shape : ∀ {k : Key} {v : Value}, keyIs k v = true → (∃ i t, k = Sum.inl i ∧ v = Value.int i t) ∨ (∃ x t, k = Sum.inr x ∧ v = Value.str x t)
  | .inl i, v, h => by
    obtain ⟨t, e⟩ := Value.isInt_shape (k := i) (v := v) h
    exact .inl ⟨i, t, rfl, e⟩
  | .inr x, v, h => by
    obtain ⟨t, e⟩ := Value.isStrOf_shape (x := x) (v := v) h
    exact .inr ⟨x, t, rfl, e⟩
theorem key_ll (a b : Int) : decide ((Sum.inl a : Key) = Sum.inl b) = (a == b) := by
  by_cases e : a = b
  · subst e; simp
  · have h : ¬ (Sum.inl a : Key) = Sum.inl b := fun q => e (Sum.inl.inj q)
    rw [decide_eq_false h]
    exact (beq_eq_false_iff_ne.mpr e).symm
theorem key_rr (a b : Str) : decide ((Sum.inr a : Key) = Sum.inr b) = decide (a = b) := by
  by_cases e : a = b
  · subst e; simp
  · have h : ¬ (Sum.inr a : Key) = Sum.inr b := fun q => e (Sum.inr.inj q)
    rw [decide_eq_false h, decide_eq_false e]
theorem key_lr (a : Int) (b : Str) : decide ((Sum.inl a : Key) = Sum.inr b) = false := decide_eq_false (fun q => nomatch q)
theorem key_rl (a : Str) (b : Int) : decide ((Sum.inr a : Key) = Sum.inl b) = false := decide_eq_false (fun q => nomatch q)

def mixKind (prog : Program) (w : World) : PySem.KeyKind prog w Key where
  is := keyIs
  hash := keyH w
  inj := fun v a b ha hb => by
    rcases keyIs_shape ha with ⟨i, t, rfl, rfl⟩ | ⟨x, t, rfl, rfl⟩
    · rcases keyIs_shape hb with ⟨j, u, rfl, e⟩ | ⟨y, u, rfl, e⟩
      · injection e with e1 _; rw [e1]
      · exact nomatch e
    · rcases keyIs_shape hb with ⟨j, u, rfl, e⟩ | ⟨y, u, rfl, e⟩
      · exact nomatch e
      · injection e with e1 _; rw [e1]
  byValue := fun k v h => by
    rcases keyIs_shape h with ⟨i, t, rfl, rfl⟩ | ⟨x, t, rfl, rfl⟩ <;> rfl
  pyHash := fun hv h => by
    rcases keyIs_shape hv with ⟨i, t, rfl, rfl⟩ | ⟨x, t, rfl, rfl⟩
    · exact wpAny_pyHash_int h
    · exact wpAny_pyHash_str h
  eqBool := fun hu hv h => by
    rcases keyIs_shape hu with ⟨i, t, rfl, rfl⟩ | ⟨x, t, rfl, rfl⟩
    · rcases keyIs_shape hv with ⟨j, u, rfl, rfl⟩ | ⟨y, u, rfl, rfl⟩
      · rw [key_ll] at h; exact wpAny_eqBool_int h
      · rw [key_lr] at h; exact SeqAt.EqAt.int_str i t y u _ _ _ _ h
    · rcases keyIs_shape hv with ⟨j, u, rfl, rfl⟩ | ⟨y, u, rfl, rfl⟩
      · rw [key_rl] at h; exact SeqAt.EqAt.str_int x t j u _ _ _ _ h
      · rw [key_rr] at h; exact wpAny_eqBool_str h
  «strs» := fun k x t v h => by
    rcases keyIs_shape h with ⟨i, u, rfl, e⟩ | ⟨y, u, rfl, e⟩
    · exact nomatch e
    · injection e with e1 _
      subst e1
      cases v <;> rfl

end L2

namespace L2
open PySem PySem.Spec PyProof.Rows

inductive V where
  | non | bl (b : Bool) | int (i : Int) | str (x : Str) | byt (b : Array UInt8) | flt (b : UInt64) | ref (a : Addr) | ty (n : String)
  deriving DecidableEq

def RelV : V → Value → Prop
  | .non, u => u = Value.none
  | .bl b, u => u = Value.bool b
  | .int i, u => ∃ t, u = Value.int i t
  | .str x, u => ∃ t, u = Value.str x t
  | .byt b, u => ∃ t, u = Value.bytes b t
  | .flt b, u => ∃ t, u = Value.float b t
  | .ref a, u => u = Value.ref a
  | .ty n, u => u = Value.type n

abbrev Vals : List V → List Value → Prop := Paired RelV
theorem Vals.length {xs : List V} {us : List Value} (r : Vals xs us) : xs.length = us.length := Paired.length r
theorem Vals.get : ∀ {xs : List V} {us : List Value} {i : Nat} {x : V}, Vals xs us → xs[i]? = some x → ∃ u, us[i]? = some u ∧ RelV x u
  | _, _, _, _, .nil, e => by simp at e
  | _, _, 0, _, .cons r _, e => by simp at e; subst e; exact ⟨_, rfl, r⟩
  | _, _, i + 1, x, .cons _ t, e => by
    obtain ⟨u, h1, h2⟩ := Vals.get (i := i) (x := x) t (by simpa using e)
    exact ⟨u, by simpa using h1, h2⟩
theorem Vals.set {x : V} {u : Value} (r : RelV x u) : ∀ {xs : List V} {us : List Value} (i : Nat), Vals xs us → Vals (xs.set i x) (us.set i u)
  | _, _, _, .nil => .nil
  | _, _, 0, .cons _ t => .cons r t
  | _, _, i + 1, .cons q t => .cons q (Vals.set r i t)
theorem Vals.append : ∀ {xs ys : List V} {us ws : List Value}, Vals xs us → Vals ys ws → Vals (xs ++ ys) (us ++ ws)
  | _, _, _, _, .nil, s => s
  | _, _, _, _, .cons r t, s => .cons r (Vals.append t s)
theorem Vals.take : ∀ {xs : List V} {us : List Value} (n : Nat), Vals xs us → Vals (xs.take n) (us.take n)
  | _, _, 0, _ => .nil
  | _, _, _ + 1, .nil => .nil
  | _, _, n + 1, .cons r t => .cons r (Vals.take n t)
theorem Vals.drop : ∀ {xs : List V} {us : List Value} (n : Nat), Vals xs us → Vals (xs.drop n) (us.drop n)
  | _, _, 0, r => r
  | _, _, _ + 1, .nil => .nil
  | _, _, n + 1, .cons _ t => Vals.drop n t
def RelO : Option V → Option Value → Prop
  | some v, some u => RelV v u
  | none, none => True
  | _, _ => False
def KV {κ : Type} : List (κ × V) → List (κ × Value) → Prop := Paired fun (p : κ × V) (q : κ × Value) => p.1 = q.1 ∧ RelV p.2 q.2

def kV : Key → V
  | .inl i => .int i
  | .inr x => .str x

inductive HO where
    | lst (xs : List V)
    | tup (xs : List V)
    | dK (kvs : List (Key × V)) | dT (kvs : List (List Key × V))
    | set (S : Int → Bool) (n : Nat)
    | ins (C dx : Addr) (fs : List (Str × V))
    | own (x : Addr)
    | xd (fs : List (Str × V))
    | met (f x : Addr)
    | rng (lo hi : Int)
    | frz (o : Obj) (u : HO)
    | tbl (ps : Array Value)
    | ext (φ : Heap → Prop)

abbrev Hp := Addr → Option HO
def upd (H : Hp) (a : Addr) (o : HO) : Hp := fun b => if b = a then some o else H b
theorem upd_same {H : Hp} {a : Addr} {o : HO} : upd H a o a = some o := by unfold upd; rw [if_pos rfl]
theorem upd_ne {H : Hp} {a b : Addr} {o : HO} (h : b ≠ a) : upd H a o b = H b := by unfold upd; rw [if_neg h]
theorem ne_of {H : Hp} {a b : Addr} {o u : HO} (h : H a = some o) (h' : H b = some u) (d : o ≠ u) : a ≠ b := by
  intro e; subst e; rw [h] at h'; exact d (Option.some.inj h')
theorem ne_of_none {H : Hp} {a b : Addr} {o : HO} (h : H a = some o) (h' : H b = none) : a ≠ b := by
  intro e; subst e; rw [h] at h'; cases h'

section
variable (P : Program) (w : World)
def ObjOk (H : Hp) (h : Heap) (a : Addr) : HO → Prop
  | .lst xs => xs.length ≤ sizeLine ∧ ∃ (its : List Value) (n : Nat), Vals xs its ∧ h.get? a = some { cls := .type "list", data := .seq its.toArray n }
  | .tup xs => xs.length ≤ sizeLine ∧ ∃ its : List Value, Vals xs its ∧ IsTup h a its.toArray
  | .dK kvs => kvs.length ≤ sizeLine ∧ (a == sysModules) = false ∧ ∃ vs, KV kvs vs ∧ h.DictOf (mixKind P w) a vs
  | .dT kvs => kvs.length ≤ sizeLine ∧ (a == sysModules) = false ∧ ∃ xs : List (List Key × Addr × Value),
      Paired (fun (p : List Key × V) (q : List Key × Addr × Value) => p.1 = q.1 ∧ H q.2.1 = some (.tup (p.1.map kV)) ∧ RelV p.2 q.2.2) kvs xs ∧
      ∃ o es ep, h.get? a = some o ∧ o.ExactDict ∧ o.data = .dict es ep ∧ es.toList = xs.map (entryOfKey (tupleKind (mixKind P w))) ∧ (xs.map (·.1)).Nodup
  | .set S n => h.SetOf (intKind P w) a S n
  | .ins C dx fs => H dx = some (.own a) ∧ fs.length ≤ 1000 ∧ dx ≠ a ∧ h.get? a = some (PySem.W.instObj C dx) ∧
      ∃ mA, h.Ns1 dx mA ∧ (∀ f, RelO (fs.lookup f) (mA f)) ∧ PySem.Within mA (fs.map (·.1))
  | .own _ => ∃ o, h.get? a = some o
  | .xd fs => ∃ mA, h.Ns1 a mA ∧ ∀ f, RelO (fs.lookup f) (mA f)
  | .rng lo hi => ∃ t u v, h.get? a = some { cls := .type "range", data := .fields #[.int lo t, .int hi u, .int 1 v] }
  | .frz o u => h.get? a = some o ∧ ObjOk H h a u
  | .tbl ps => h.get? a = some { cls := .none, data := .fields ps }
  | .met f x => h.get? a = some (PySem.W.methodObj (.ref f) (.ref x))
  | .ext φ => φ h ∧ (∃ o, h.get? a = some o) ∧ ∀ h1 h2 : Heap, φ h1 → (∀ o, h1.get? a = some o → h2.get? a = some o) → φ h2
def HOk (H : Hp) (h : Heap) : Prop := ∀ a o, H a = some o → ObjOk P w H h a o
end

section
variable {P : Program} {w : World} {H H' : Hp} {h h' : Heap} {a : Addr} {o : HO}
theorem ObjOk.lt (x : ObjOk P w H h a o) : a < h.objs.size := by
  cases o with
  | lst xs => obtain ⟨_, _, _, _, e⟩ := x; exact Heap.lt_size e
  | tup xs => obtain ⟨_, _, _, p⟩ := x; exact p.lt
  | dK kvs => obtain ⟨_, _, _, _, o, _, _, e, _⟩ := x; exact Heap.lt_size e
  | dT kvs => obtain ⟨_, _, _, _, o, _, _, e, _⟩ := x; exact Heap.lt_size e
  | set S n => obtain ⟨o, _, _, _, e, _⟩ := x; exact Heap.lt_size e
  | ins C dx fs => obtain ⟨_, _, _, e, _⟩ := x; exact Heap.lt_size e
  | own y => obtain ⟨_, e⟩ := x; exact Heap.lt_size e
  | xd fs => obtain ⟨_, ⟨_, _, _, e, _⟩, _⟩ := x; exact Heap.lt_size e
  | rng lo hi => obtain ⟨_, _, _, e⟩ := x; exact Heap.lt_size e
  | frz ob u => obtain ⟨e, _⟩ := x; exact Heap.lt_size e
  | tbl ps => exact Heap.lt_size (show h.get? a = some _ from x)
  | met f y => exact Heap.lt_size (show h.get? a = some _ from x)
  | ext φ => obtain ⟨_, ⟨_, e⟩, _⟩ := x; exact Heap.lt_size e
theorem Paired.mapP {α β : Type} {F G : α → β → Prop} : ∀ {l₁ : List α} {l₂ : List β}, Paired F l₁ l₂ → (∀ a b, F a b → G a b) → Paired G l₁ l₂
  | _, _, .nil, _ => .nil
  | _, _, .cons r t, f => .cons (f _ _ r) (Paired.mapP t f)
theorem ObjOk.stay (x : ObjOk P w H h a o) (k : ∀ b u, (b = a ∨ H b = some (.own a)) → h.get? b = some u → h'.get? b = some u)
    (ho : ∀ b, H b = some (.own a) → H' b = some (.own a)) (ht : ∀ b xs, H b = some (.tup xs) → H' b = some (.tup xs)) : ObjOk P w H' h' a o := by
  induction o with
  | lst xs => obtain ⟨z, its, n, r, e⟩ := x; exact ⟨z, its, n, r, k _ _ (.inl rfl) e⟩
  | tup xs => obtain ⟨z, its, r, ob, e, c⟩ := x; exact ⟨z, its, r, ob, k _ _ (.inl rfl) e, c⟩
  | dK kvs => obtain ⟨z, y, vs, r, ob, es, ep, e, c⟩ := x; exact ⟨z, y, vs, r, ob, es, ep, k _ _ (.inl rfl) e, c⟩
  | dT kvs =>
    obtain ⟨z, y, xs, r, ob, es, ep, e, c⟩ := x
    exact ⟨z, y, xs, Paired.mapP r fun p q z => ⟨z.1, ht _ _ z.2.1, z.2.2⟩, ob, es, ep, k _ _ (.inl rfl) e, c⟩
  | set S n => obtain ⟨ob, es, ep, t, e, c⟩ := x; exact ⟨ob, es, ep, t, k _ _ (.inl rfl) e, c⟩
  | ins C dx fs =>
    obtain ⟨d, z, ne, e, mA, ⟨od, es, ep, e2, c⟩, r⟩ := x
    exact ⟨ho _ d, z, ne, k _ _ (.inl rfl) e, mA, ⟨od, es, ep, k _ _ (.inr d) e2, c⟩, r⟩
  | own y => obtain ⟨ob, e⟩ := x; exact ⟨ob, k _ _ (.inl rfl) e⟩
  | xd fs => obtain ⟨mA, ⟨od, es, ep, e, c⟩, r⟩ := x; exact ⟨mA, ⟨od, es, ep, k _ _ (.inl rfl) e, c⟩, r⟩
  | rng lo hi => obtain ⟨t, u, v, e⟩ := x; exact ⟨t, u, v, k _ _ (.inl rfl) e⟩
  | frz ob u ih => obtain ⟨e, q⟩ := x; exact ⟨k _ _ (.inl rfl) e, ih q⟩
  | tbl ps =>
    have e : h.get? a = some { cls := .none, data := .fields ps } := x
    show h'.get? a = some { cls := .none, data := .fields ps }
    exact k a _ (.inl rfl) e
  | met f y =>
    have e : h.get? a = some (PySem.W.methodObj (.ref f) (.ref y)) := x
    show h'.get? a = some (PySem.W.methodObj (.ref f) (.ref y))
    exact k a _ (.inl rfl) e
  | ext φ => obtain ⟨p, ⟨o, e⟩, st⟩ := x; exact ⟨st _ _ p fun o q => k _ _ (.inl rfl) q, ⟨o, k _ _ (.inl rfl) e⟩, st⟩
theorem HOk.lt (x : HOk P w H h) (e : H a = some o) : a < h.objs.size := (x a o e).lt
theorem HOk.fresh (x : HOk P w H h) (e : h.objs.size ≤ a) : H a = none := by
  cases q : H a with
  | none => rfl
  | some u => exact absurd (Nat.lt_of_lt_of_le (x.lt q) e) (Nat.lt_irrefl _)
theorem HOk.kept (x : HOk P w H h) (k : ∀ b u, h.get? b = some u → h'.get? b = some u) : HOk P w H h' := fun a o e =>
  (x a o e).stay (fun b u _ q => k b u q) (fun _ q => q) fun _ _ q => q
theorem HOk.laid (x : HOk P w H h) (k : ∀ b u, h.get? b = some u → h'.get? b = some u) (hp : h.objs.size ≤ a) (new : ObjOk P w (upd H a o) h' a o) : HOk P w (upd H a o) h' := fun b u e => by
  have hn := x.fresh hp
  by_cases hb : b = a
  · subst hb; rw [upd_same] at e; cases e; exact new
  · rw [upd_ne hb] at e
    exact (x b u e).stay (fun c v _ q => k c v q) (fun c q => by rw [upd_ne (ne_of_none q hn)]; exact q) fun c xs q => by rw [upd_ne (ne_of_none q hn)]; exact q
end

def Rd (H : Hp) (a : Addr) (u : HO) : Prop := H a = some u ∨ ∃ o, H a = some (.frz o u)
theorem Rd.of {H : Hp} {a : Addr} {u : HO} (h : H a = some u) : Rd H a u := .inl h
theorem Rd.ok {P : Program} {w : World} {H : Hp} {h : Heap} {a : Addr} {u : HO} (r : Rd H a u) (x : HOk P w H h) : ObjOk P w H h a u := by
  rcases r with r | ⟨o, r⟩
  · exact x a u r
  · obtain ⟨_, q⟩ := x a _ r
    exact q
def Mut : Option HO → Prop
  | some (.lst _) => True
  | some (.dK _) => True
  | some (.dT _) => True
  | some (.set _ _) => True
  | some (.ins _ _ _) => True
  | some (.ext _) => True
  | _ => False
section
variable {P : Program} {w : World} {H : Hp} {h h' : Heap} {x e : Addr} {o' : HO}
theorem HOk.write (ok : HOk P w H h) (mu : Mut (H x)) (he : e = x ∨ H e = some (.own x)) (k : ∀ b u, b ≠ e → h.get? b = some u → h'.get? b = some u) (heo : ∃ u, h'.get? e = some u)
    (new : ObjOk P w (upd H x o') h' x o') : HOk P w (upd H x o') h' := fun b u q => by
  have nown : ∀ c y, H c = some (.own y) → c ≠ x := fun c y r z => by subst z; rw [r] at mu; exact mu
  have ntup : ∀ c xs, H c = some (.tup xs) → c ≠ x := fun c xs r z => by subst z; rw [r] at mu; exact mu
  by_cases hb : b = x
  · subst hb; rw [upd_same] at q; cases q; exact new
  · rw [upd_ne hb] at q
    by_cases hbe : b = e
    · have q' : H b = some (.own x) := by
        rcases he with z | z
        · exact absurd (hbe.trans z) hb
        · rw [hbe]; exact z
      rw [q] at q'; cases q'
      obtain ⟨v, hv⟩ := heo
      exact ⟨v, by rw [hbe]; exact hv⟩
    · refine (ok b u q).stay (fun c v hc r => k c v ?_ r) (fun c r => by rw [upd_ne (nown c b r)]; exact r) fun c xs r => by rw [upd_ne (ntup c xs r)]; exact r
      rcases hc with rfl | hc
      · exact hbe
      · rintro rfl
        rcases he with z | z
        · exact nown c b hc z
        · rw [hc] at z; cases z; exact hb rfl
end

structure Un (fs ex : List Addr) (H H' : Hp) (h h' : Heap) : Prop where
  keep : ∀ b o, h.get? b = some o → H b = none → b ∉ fs → b ∉ ex → h'.get? b = some o
  slot : ∀ b o, h.get? b = some o → H b = none → b ∈ fs → b ∉ ex → ∃ sl, h'.get? b = some { o with slots := sl }
  free : ∀ b o, h.get? b = some o → H b = none → b ∉ ex → H' b = none
  there : ∀ b o, h.get? b = some o → b ∉ ex → ∃ o', h'.get? b = some o'
  tups : ∀ b xs, H b = some (.tup xs) → H' b = some (.tup xs)
  frzs : ∀ b o u, H b = some (.frz o u) → H' b = some (.frz o u)
  tbls : ∀ b ps, H b = some (.tbl ps) → ∃ more, H' b = some (.tbl (ps ++ more))
section
variable {fs fs' ex ex' : List Addr} {H H1 H2 : Hp} {h h1 h2 h' : Heap} {a x e : Addr} {o : HO}
theorem Un.any (u : Un fs ex H H1 h h1) {b : Addr} {ob : Obj} (q : h.get? b = some ob) (n : H b = none) (hx : b ∉ ex) : ∃ sl, h1.get? b = some { ob with slots := sl } := by
  by_cases hb : b ∈ fs
  · exact u.slot b ob q n hb hx
  · exact ⟨ob.slots, u.keep b ob q n hb hx⟩
theorem Un.trans (a : Un fs ex H H1 h h1) (b : Un fs ex H1 H2 h1 h2) : Un fs ex H H2 h h2 where
  keep := fun c ob q n hc hx => b.keep c ob (a.keep c ob q n hc hx) (a.free c ob q n hx) hc hx
  slot := fun c ob q n hc hx => by
    obtain ⟨sl, e1⟩ := a.slot c ob q n hc hx
    obtain ⟨sl', e2⟩ := b.slot c _ e1 (a.free c ob q n hx) hc hx
    exact ⟨sl', e2⟩
  free := fun c ob q n hx => by
    obtain ⟨o', e1⟩ := a.there c ob q hx
    exact b.free c o' e1 (a.free c ob q n hx) hx
  there := fun c ob q hx => by
    obtain ⟨o', e1⟩ := a.there c ob q hx
    exact b.there c o' e1 hx
  tups := fun c xs q => b.tups c xs (a.tups c xs q)
  frzs := fun c ob xs q => b.frzs c ob xs (a.frzs c ob xs q)
  tbls := fun c ps q => by
    obtain ⟨m1, e1⟩ := a.tbls c ps q
    obtain ⟨m2, e2⟩ := b.tbls c _ e1
    exact ⟨m1 ++ m2, by rw [e2, Array.append_assoc]⟩
theorem Un.kept (k : ∀ b u, h.get? b = some u → h'.get? b = some u) : Un fs ex H H h h' :=
  ⟨fun b ob q _ _ _ => k b ob q, fun b ob q _ _ _ => ⟨ob.slots, k b ob q⟩, fun _ _ _ n _ => n, fun b ob q _ => ⟨ob, k b ob q⟩, fun _ _ q => q, fun _ _ _ q => q, fun _ ps q => ⟨#[], by rw [q]; simp⟩⟩
theorem Un.refl : Un fs ex H H h h := Un.kept fun _ _ q => q
theorem Un.laid (k : ∀ b u, h.get? b = some u → h'.get? b = some u) (hp : h.objs.size ≤ a) (hn : H a = none) : Un fs ex H (upd H a o) h h' where
  keep := fun b u q _ _ _ => k b u q
  slot := fun b u q _ _ _ => ⟨u.slots, k b u q⟩
  free := fun b u q n _ => by rw [upd_ne (Nat.ne_of_lt (Nat.lt_of_lt_of_le (Heap.lt_size q) hp))]; exact n
  there := fun b u q _ => ⟨u, k b u q⟩
  tups := fun b xs q => by rw [upd_ne (ne_of_none q hn)]; exact q
  frzs := fun b u xs q => by rw [upd_ne (ne_of_none q hn)]; exact q
  tbls := fun b ps q => ⟨#[], by rw [upd_ne (ne_of_none q hn), q]; simp⟩
theorem Un.write (mu : Mut (H x)) (he : e = x ∨ H e = some (.own x)) (k : ∀ b u, b ≠ e → h.get? b = some u → h'.get? b = some u) (heo : ∃ u, h'.get? e = some u) : Un fs ex H (upd H x o) h h' := by
  have hx : ∀ b, H b = none → b ≠ x := fun b n z => by subst z; rw [n] at mu; exact mu
  have hb : ∀ b, H b = none → b ≠ e := fun b n z => by
    subst z
    rcases he with r | r
    · exact hx b n r
    · rw [n] at r; cases r
  have hm : ∀ b u, H b = some u → ¬ Mut (some u) → b ≠ x := fun b u q nm z => by subst z; rw [q] at mu; exact nm mu
  refine ⟨fun b u q n _ _ => k b u (hb b n) q, fun b u q n _ _ => ⟨u.slots, k b u (hb b n) q⟩, fun b u q n _ => by rw [upd_ne (hx b n)]; exact n, fun b u q _ => ?_,
    fun b xs q => by rw [upd_ne (hm b _ q fun z => z)]; exact q, fun b u xs q => by rw [upd_ne (hm b _ q fun z => z)]; exact q, fun b ps q => ⟨#[], by rw [upd_ne (hm b _ q fun z => z), q]; simp⟩⟩
  by_cases hbe : b = e
  · subst hbe; exact heo
  · exact ⟨u, k b u hbe q⟩
theorem Un.mono (u : Un fs ex H H1 h h1) (hs : ∀ b ∈ fs, b ∈ fs') (hx : ∀ b ∈ ex, b ∈ ex') : Un fs' ex' H H1 h h1 :=
  ⟨fun b ob q n hb he => u.keep b ob q n (fun z => hb (hs b z)) fun z => he (hx b z), fun _ _ q n _ he => u.any q n fun z => he (hx _ z), fun b ob q n he => u.free b ob q n fun z => he (hx b z), fun b ob q he => u.there b ob q fun z => he (hx b z), u.tups, u.frzs, u.tbls⟩
end

def trk (h : Heap) (H : Hp) : List Addr := (List.range h.objs.size).filter fun a => (H a).isSome
def hidT (h : Heap) (H : Hp) : Heap := PySem.W.hideAll h (trk h H)
theorem hidT_size (h : Heap) (H : Hp) : (hidT h H).objs.size = h.objs.size := PySem.W.hideAll_size _ _
theorem hidT_get {h : Heap} {H : Hp} {b : Addr} {o : Obj} (e : h.get? b = some o) (n : H b = none) : (hidT h H).get? b = some o :=
  PySem.W.hideAll_get _ e fun hm => by
    have q : (H b).isSome = true := (List.mem_filter.mp hm).2
    rw [n] at q; simp at q
theorem of_hidT {h : Heap} {H : Hp} {b : Addr} {o : Obj} (e : (hidT h H).get? b = some o) : h.get? b = some o ∧ H b = none := by
  have e' : h.get? b = some o := PySem.W.of_hideAll (trk h H) e
  refine ⟨e', ?_⟩
  cases q : H b with
  | none => rfl
  | some x =>
    have hm : b ∈ trk h H := List.mem_filter.mpr ⟨List.mem_range.mpr (Heap.lt_size e'), by simp [q]⟩
    have z : (hidT h H).get? b = none := PySem.W.hideAll_none (trk h H) hm
    rw [z] at e; cases e

def allNews (g h : Heap) (L : Addr) : List (Addr × Obj) := (List.range h.objs.size).filterMap fun a => if a = L ∨ (g.get? a).isSome = true then none else (h.get? a).map fun o => (a, o)
def rest (g h : Heap) (L d : Addr) : List (Addr × Obj) := (allNews g h L).filter fun p => decide (p.1 ≠ d)
end L2

namespace L2
open PySem PySem.Spec PyProof.Rows

structure Mod (K : PySem.W.Frag) (mg : Str → Option Value) (base : Heap) : Prop where
  kin : K.In base
  glob : base.Ns mainGlobals mg
  blt : ∃ mb, base.Ns builtinsNs mb ∧ ∀ x : Str, x ≠ "__name__" → mb x = bootBuiltins x
  nolimit : base.NoLimit

structure Cx where
  prog : Program
  w : World
  K : PySem.W.Frag
  mg : Str → Option Value
  base : Heap
  A : Around
  N : List Str
  s_0 : Shared
  H_0 : Hp
  env : Env
  outer : List Env
  stack : List Env
  ex : List Addr
  fn : Str → Bool
  calm : Bool
  pn : List (Addr × Obj)
  xe : Value → Shared → Prop
def frs (l : List Env) : List Addr := l.filterMap (·.frame)
abbrev Cx.fs (X : Cx) : List Addr := frs X.outer

def Vis (sc : Scope) (x : Str) : Prop := sc.names.lookup x = some .local ∨ sc.names.lookup x = some .cell ∨ sc.names.lookup x = some .free
def Loc (sc : Scope) (x : Str) : Prop := sc.names.lookup x = some .local ∨ sc.names.lookup x = some .cell
def Look (env : Env) (h : Heap) (m : Str → Option Value) (x : Str) (u : Value) : Prop :=
  (env.kindOf x = some .local ∧ m x = some u) ∨ ((env.kindOf x = some .cell ∨ env.kindOf x = some .free) ∧ ∃ c, env.cells.lookup x = some c ∧ h.IsCell c (some u))

structure Cx.Ok (X : Cx) : Prop where
  mod : Mod X.K X.mg X.base
  kind : X.env.scope.kind = .function
  glob : X.env.globals = mainGlobals
  blt : X.env.builtins = builtinsNs
  above : X.s_0.heap.objs.size ≤ X.env.locals
  inj : ∀ x y c, X.env.cells.lookup x = some c → X.env.cells.lookup y = some c → x = y
  has : ∀ x, (X.env.kindOf x = some .cell ∨ X.env.kindOf x = some .free) → ∃ c, X.env.cells.lookup x = some c
  cab : ∀ x c, X.fn x = true → X.env.cells.lookup x = some c → X.s_0.heap.objs.size ≤ c
  hd : X.calm = true → X.A.handled = none
  frames : X.A.frames = some X.stack
  stk : X.stack = X.outer ∨ (X.stack = X.env :: X.outer ∧ X.env.frame = some X.env.locals)
  exf : ∀ b ∈ X.ex, b ≠ X.env.locals ∧ ∀ x c, X.env.cells.lookup x = some c → c ≠ b
  bs : ∀ b o, X.base.get? b = some o → X.s_0.heap.get? b = some o ∧ X.H_0 b = none
  bsz : X.base.objs.size ≤ X.s_0.heap.objs.size
  noex : ∀ b o, X.base.get? b = some o → b ∉ X.ex
  exfs : ∀ b ∈ X.ex, b ∉ X.fs
  funs : X.s_0.heap.FunFrames X.base X.outer
  frf : ∀ b ∈ X.fs, X.H_0 b = none

structure Inv (X : Cx) (pins : List (Addr × Obj)) (σ : List (Option V)) (H : Hp) (s : Shared) : Prop where
  ok : X.Ok
  os : s.os = X.s_0.os
  bare : AllBare s.gens
  base : Un X.fs X.ex X.H_0 H X.s_0.heap s.heap
  loc : ∃ m, s.heap.Ns X.env.locals m ∧ ∀ (i : Nat) (x : Str) (v : V), X.N[i]? = some x → σ[i]? = some (some v) → Vis X.env.scope x → ∃ u, RelV v u ∧ Look X.env s.heap m x u
  cell : ∀ x c, X.env.cells.lookup x = some c → ∃ v, s.heap.IsCell c v
  free : H X.env.locals = none
  freeC : ∀ x c, X.env.cells.lookup x = some c → H c = none
  pin : ∀ p ∈ X.pn ++ pins, s.heap.get? p.1 = some p.2 ∧ H p.1 = none ∧ p.1 ≠ X.env.locals ∧ p.1 ∉ X.fs ∧ ∀ v, p.2.data ≠ .cell v
  hok : HOk X.prog X.w H s.heap
  len : σ.length = X.N.length

section
variable {X : Cx} {pins : List (Addr × Obj)} {σ : List (Option V)} {H H' : Hp} {s : Shared} {h' : Heap}

theorem Cx.Ok.nofr (ok : X.Ok) {b : Addr} {o : Obj} (e : X.base.get? b = some o) : b ∉ X.fs := fun hb => by
  have := (ok.funs.mem hb).1
  rw [e] at this; cases this
theorem Inv.bs (I : Inv X pins σ H s) : ∀ b o, X.base.get? b = some o → s.heap.get? b = some o ∧ H b = none := fun b o e =>
  ⟨I.base.keep b o (I.ok.bs b o e).1 (I.ok.bs b o e).2 (I.ok.nofr e) (I.ok.noex b o e), I.base.free b o (I.ok.bs b o e).1 (I.ok.bs b o e).2 (I.ok.noex b o e)⟩
theorem Inv.bk (I : Inv X pins σ H s) : ∀ b o, X.base.get? b = some o → s.heap.get? b = some o := fun b o e => (I.bs b o e).1
theorem Inv.mod (I : Inv X pins σ H s) : Mod X.K X.mg X.base := I.ok.mod
theorem Inv.kIn (I : Inv X pins σ H s) : X.K.In s.heap := I.ok.mod.kin.keeps I.bk
theorem Inv.nolimit (I : Inv X pins σ H s) : s.heap.NoLimit := I.ok.mod.nolimit.keeps I.bk
theorem Inv.lt (I : Inv X pins σ H s) : X.env.locals < s.heap.objs.size := let ⟨_, hn, _⟩ := I.loc; hn.lt
theorem Inv.sz (I : Inv X pins σ H s) : X.s_0.heap.objs.size ≤ s.heap.objs.size := Nat.le_trans I.ok.above (Nat.le_of_lt I.lt)
theorem Inv.nofs (I : Inv X pins σ H s) {a : Addr} (h : s.heap.objs.size ≤ a) : a ∉ X.fs := fun hb => by
  obtain ⟨_, o, ho, _⟩ := I.ok.funs.mem hb
  exact absurd (Nat.lt_of_lt_of_le (Heap.lt_size ho) (Nat.le_trans I.sz h)) (Nat.lt_irrefl _)
theorem Inv.cne (I : Inv X pins σ H s) : ∀ x c, X.env.cells.lookup x = some c → c ≠ X.env.locals := fun x c e z => by
  obtain ⟨v, o, ho, hd⟩ := I.cell x c e
  obtain ⟨m, ⟨o', es, ep, ho', hd', _⟩, _⟩ := I.loc
  rw [z, ho'] at ho; cases ho; rw [hd'] at hd; cases hd
theorem Inv.funs (I : Inv X pins σ H s) : s.heap.FunFrames X.base X.outer := by
  have all : ∀ (l : List Env), (∀ b ∈ frs l, b ∈ X.fs) → X.s_0.heap.FunFrames X.base l → s.heap.FunFrames X.base l := by
    intro l
    induction l with
    | nil => intro _ _; trivial
    | cons env r ih =>
      intro hs hl
      obtain ⟨hk, ⟨L, o, hf, hn, ho, hd⟩, hr⟩ := hl
      have hL : L ∈ X.fs := hs L (by unfold frs; rw [List.filterMap_cons, hf]; exact List.mem_cons_self)
      obtain ⟨sl, e⟩ := I.base.slot L o ho (I.ok.frf L hL) hL fun z => I.ok.exfs L z hL
      exact ⟨hk, ⟨L, _, hf, hn, e, hd⟩, ih (fun b hb => hs b (by unfold frs; rw [List.filterMap_cons, hf]; exact List.mem_cons_of_mem _ hb)) hr⟩
  exact all X.outer (fun _ hb => hb) I.ok.funs

theorem Inv.stack (I : Inv X pins σ H s) : s.heap.FunFrames X.base X.stack := by
  rcases I.ok.stk with e | ⟨e, hf⟩
  · rw [e]; exact I.funs
  · rw [e]
    obtain ⟨m, hn, _⟩ := I.loc
    refine .cons (by rw [I.ok.kind]; decide) hf hn ?_ I.funs
    exact Heap.get?_none_of_le (Nat.le_trans I.ok.bsz I.ok.above)
theorem Inv.stkSub (I : Inv X pins σ H s) : ∀ b ∈ frs X.stack, b ∈ X.env.locals :: X.fs := fun b hb => by
  rcases I.ok.stk with e | ⟨e, hf⟩
  · rw [e] at hb; exact List.mem_cons_of_mem _ hb
  · rw [e] at hb
    unfold frs at hb
    rw [List.filterMap_cons, hf] at hb
    exact hb
theorem Inv.stkFree (I : Inv X pins σ H s) : ∀ b ∈ frs X.stack, H b = none := fun b hb => by
  rcases List.mem_cons.mp (I.stkSub b hb) with e | hb
  · rw [e]; exact I.free
  · obtain ⟨_, o, ho, _⟩ := I.ok.funs.mem hb
    exact I.base.free b o ho (I.ok.frf b hb) fun z => I.ok.exfs b z hb

theorem Inv.step {g' : Array GenState} {t' : Nat} {d' : Drawn} {ch : List Addr} (I : Inv X pins σ H s)
    (hch : ∀ b ∈ ch, (b ∈ X.ex ∨ X.s_0.heap.objs.size ≤ b) ∧ b ≠ X.env.locals ∧ (∀ x c, X.env.cells.lookup x = some c → c ≠ b) ∧ ∀ p ∈ X.pn ++ pins, p.1 ≠ b)
    (keep : ∀ b o, b ≠ X.env.locals → b ∉ X.fs → b ∉ ch → s.heap.get? b = some o → H b = none → h'.get? b = some o)
    (slot : ∀ b o, b ≠ X.env.locals → b ∈ X.fs → b ∉ ch → s.heap.get? b = some o → H b = none → ∃ sl, h'.get? b = some { o with slots := sl }) (free : ∀ b o, b ∉ ch → s.heap.get? b = some o → H b = none → H' b = none)
    (there : ∀ b o, b ∉ ch → s.heap.get? b = some o → ∃ o', h'.get? b = some o')
    (tups : ∀ b xs, H b = some (.tup xs) → H' b = some (.tup xs)) (frzs : ∀ b o u, H b = some (.frz o u) → H' b = some (.frz o u)) (tbls : ∀ b ps, H b = some (.tbl ps) → ∃ more, H' b = some (.tbl (ps ++ more)))
    (ns : ∀ m, s.heap.Ns X.env.locals m → h'.Ns X.env.locals m) (hok : HOk X.prog X.w H' h') (hg : AllBare g') :
    Inv X pins σ H' { s with heap := h', gens := g', drawn := d', toks := t' } := by
  have neL : ∀ b o, X.s_0.heap.get? b = some o → b ≠ X.env.locals := fun b o e => Nat.ne_of_lt (Nat.lt_of_lt_of_le (Heap.lt_size e) I.ok.above)
  have neC : ∀ b o, X.s_0.heap.get? b = some o → b ∉ X.ex → b ∉ ch := fun b o e hx hb => by
    rcases (hch b hb).1 with z | z
    · exact hx z
    · exact absurd (Nat.lt_of_lt_of_le (Heap.lt_size e) z) (Nat.lt_irrefl _)
  have cellK : ∀ x c, X.env.cells.lookup x = some c → ∀ v, s.heap.IsCell c v → h'.IsCell c v := fun x c e v ⟨o, ho, hd⟩ => by
    have nch : c ∉ ch := fun z => (hch c z).2.2.1 x c e rfl
    by_cases hc : c ∈ X.fs
    · obtain ⟨sl, q⟩ := slot c o (I.cne x c e) hc nch ho (I.freeC x c e)
      exact ⟨_, q, hd⟩
    · exact ⟨o, keep c o (I.cne x c e) hc nch ho (I.freeC x c e), hd⟩
  refine ⟨I.ok, I.os, hg, ⟨fun b o e n hb hx => ?_, fun b o e n hb hx => ?_, fun b o e n hx => ?_, fun b o e hx => ?_, fun b xs e => tups b xs (I.base.tups b xs e), fun b o xs e => frzs b o xs (I.base.frzs b o xs e), fun b ps e => ?_⟩, ?_, fun x c e => ?_, ?_, fun x c e => ?_, fun p hp => ?_, hok, I.len⟩
  · exact keep b o (neL b o e) hb (neC b o e hx) (I.base.keep b o e n hb hx) (I.base.free b o e n hx)
  · obtain ⟨sl, e1⟩ := I.base.slot b o e n hb hx
    obtain ⟨sl', e2⟩ := slot b _ (neL b o e) hb (neC b o e hx) e1 (I.base.free b o e n hx)
    exact ⟨sl', e2⟩
  · obtain ⟨o', e1⟩ := I.base.there b o e hx
    exact free b o' (neC b o e hx) e1 (I.base.free b o e n hx)
  · obtain ⟨o', e1⟩ := I.base.there b o e hx
    exact there b o' (neC b o e hx) e1
  · obtain ⟨m1, e1⟩ := I.base.tbls b ps e
    obtain ⟨m2, e2⟩ := tbls b _ e1
    exact ⟨m1 ++ m2, by rw [e2, Array.append_assoc]⟩
  · obtain ⟨m, hn, hl⟩ := I.loc
    refine ⟨m, ns m hn, fun i x v e1 e2 e3 => ?_⟩
    obtain ⟨u, r, l⟩ := hl i x v e1 e2 e3
    refine ⟨u, r, ?_⟩
    rcases l with l | ⟨k, c, e, z⟩
    · exact .inl l
    · exact .inr ⟨k, c, e, cellK x c e _ z⟩
  · obtain ⟨v, z⟩ := I.cell x c e
    exact ⟨v, cellK x c e v z⟩
  · obtain ⟨m, ⟨o, _, _, ho, _⟩, _⟩ := I.loc
    exact free _ o (fun z => (hch _ z).2.1 rfl) ho I.free
  · obtain ⟨v, o, ho, hd⟩ := I.cell x c e
    exact free c o (fun z => (hch c z).2.2.1 x c e rfl) ho (I.freeC x c e)
  · obtain ⟨e, n, ne, nf, d⟩ := I.pin p hp
    have nch : p.1 ∉ ch := fun z => (hch p.1 z).2.2.2 p hp rfl
    exact ⟨keep p.1 p.2 ne nf nch e n, free p.1 p.2 nch e n, ne, nf, d⟩
theorem Inv.un {t' : Nat} (I : Inv X pins σ H s) (u : Un X.fs [] H H' s.heap h') (hok : HOk X.prog X.w H' h') : Inv X pins σ H' { s with heap := h', toks := t' } := by
  obtain ⟨m, ⟨o, es, ep, ho, r⟩, _⟩ := id I.loc
  obtain ⟨sl, hL⟩ := u.any ho I.free (by simp)
  exact I.step (g' := s.gens) (d' := s.drawn) (ch := []) (fun _ z => nomatch z) (fun b o _ hb _ e n => u.keep b o e n hb (by simp)) (fun b o _ hb _ e n => u.slot b o e n hb (by simp)) (fun b o _ e n => u.free b o e n (by simp)) (fun b o _ e => u.there b o e (by simp)) u.tups u.frzs u.tbls (fun m' hm => by
    obtain ⟨o', es', ep', ho', r'⟩ := hm
    rw [ho] at ho'; cases ho'
    exact ⟨_, es', ep', hL, r'⟩) hok I.bare
theorem Inv.call {g' : Array GenState} {t' : Nat} {d' : Drawn} {ch : List Addr} (I : Inv X pins σ H s) (u : Un (frs X.stack) ch H H' s.heap h') (hok : HOk X.prog X.w H' h') (hg : AllBare g')
    (hch : ∀ b ∈ ch, (b ∈ X.ex ∨ X.s_0.heap.objs.size ≤ b) ∧ b ≠ X.env.locals ∧ (∀ x c, X.env.cells.lookup x = some c → c ≠ b) ∧ ∀ p ∈ X.pn ++ pins, p.1 ≠ b) :
    Inv X pins σ H' { s with heap := h', gens := g', drawn := d', toks := t' } := by
  obtain ⟨m, ⟨o, es, ep, ho, r⟩, _⟩ := id I.loc
  obtain ⟨sl, hL⟩ := u.any ho I.free fun z => (hch _ z).2.1 rfl
  exact I.step (ch := ch) hch (fun b o hL hb hc e n => u.keep b o e n (fun z => (List.mem_cons.mp (I.stkSub b z)).elim hL hb) hc) (fun b o _ _ hc e n => u.any e n hc) (fun b o hc e n => u.free b o e n hc) (fun b o hc e => u.there b o e hc) u.tups u.frzs u.tbls (fun m' hm => by
    obtain ⟨o', es', ep', ho', r'⟩ := hm
    rw [ho] at ho'; cases ho'
    exact ⟨_, es', ep', hL, r'⟩) hok hg
theorem Inv.turned {t' : Nat} {it : Addr} (I : Inv X pins σ H s) (k : ∀ b o, b ≠ it → s.heap.get? b = some o → h'.get? b = some o) (hn : H it = none) (hL : it ≠ X.env.locals)
    (h1 : it ∈ X.ex ∨ X.s_0.heap.objs.size ≤ it) (h2 : ∀ x c, X.env.cells.lookup x = some c → c ≠ it) (h3 : ∀ p ∈ X.pn ++ pins, p.1 ≠ it) : Inv X pins σ H { s with heap := h', toks := t' } := by
  have nit : ∀ b u, H b = some u → b ≠ it := fun b u e z => by rw [z, hn] at e; cases e
  refine I.step (g' := s.gens) (d' := s.drawn) (ch := [it]) (fun b hb => ?_) (fun b o _ _ hc e _ => k b o (fun z => hc (by simp [z])) e) (fun b o _ _ hc e _ => ⟨o.slots, k b o (fun z => hc (by simp [z])) e⟩) (fun _ _ _ _ n => n)
    (fun b o hc e => ⟨o, k b o (fun z => hc (by simp [z])) e⟩) (fun _ _ e => e) (fun _ _ _ e => e) (fun b ps e => ⟨#[], by rw [e]; simp⟩) (fun m hm => ?_) (fun b u e => ?_) I.bare
  · have e : b = it := by simpa using hb
    subst e
    exact ⟨h1, hL, h2, h3⟩
  · obtain ⟨o, es, ep, ho, r⟩ := hm
    exact ⟨o, es, ep, k _ o (Ne.symm hL) ho, r⟩
  · refine (I.hok b u e).stay (fun c v hc q => k c v ?_ q) (fun _ q => q) fun _ _ q => q
    rcases hc with z | z
    · rw [z]; exact nit b u e
    · exact nit c _ z
theorem Inv.tok (I : Inv X pins σ H s) (t : Nat) : Inv X pins σ H { s with toks := t } := I.un (h' := s.heap) (t' := t) Un.refl I.hok
theorem Inv.kept {t' : Nat} (I : Inv X pins σ H s) (k : ∀ b u, s.heap.get? b = some u → h'.get? b = some u) : Inv X pins σ H { s with heap := h', toks := t' } := I.un (Un.kept k) (I.hok.kept k)
theorem Inv.laid {a : Addr} {o : HO} {t' : Nat} (I : Inv X pins σ H s) (k : ∀ b u, s.heap.get? b = some u → h'.get? b = some u) (hp : s.heap.objs.size ≤ a) (new : ObjOk X.prog X.w (upd H a o) h' a o) :
    Inv X pins σ (upd H a o) { s with heap := h', toks := t' } := I.un (Un.laid k hp (I.hok.fresh hp)) (I.hok.laid k hp new)
theorem Inv.write {x e : Addr} {o : HO} {t' : Nat} (I : Inv X pins σ H s) (mu : Mut (H x)) (he : e = x ∨ H e = some (.own x)) (k : ∀ b u, b ≠ e → s.heap.get? b = some u → h'.get? b = some u) (heo : ∃ u, h'.get? e = some u)
    (new : ObjOk X.prog X.w (upd H x o) h' x o) : Inv X pins σ (upd H x o) { s with heap := h', toks := t' } := I.un (Un.write mu he k heo) (I.hok.write mu he k heo new)
theorem Inv.weak {σ' : List (Option V)} (I : Inv X pins σ H s) (hl : σ'.length = σ.length) (w : ∀ (i : Nat) v, σ'[i]? = some (some v) → σ[i]? = some (some v)) : Inv X pins σ' H s :=
  ⟨I.ok, I.os, I.bare, I.base, let ⟨m, hn, hl'⟩ := I.loc; ⟨m, hn, fun i x v e1 e2 e3 => hl' i x v e1 (w i v e2) e3⟩, I.cell, I.free, I.freeC, I.pin, I.hok, hl.trans I.len⟩
theorem Inv.pins_of {pins' : List (Addr × Obj)} (I : Inv X pins σ H s) (h : ∀ p ∈ pins', s.heap.get? p.1 = some p.2 ∧ H p.1 = none ∧ p.1 ≠ X.env.locals ∧ p.1 ∉ X.fs ∧ ∀ v, p.2.data ≠ .cell v) : Inv X pins' σ H s :=
  ⟨I.ok, I.os, I.bare, I.base, I.loc, I.cell, I.free, I.freeC, fun p hp => (List.mem_append.mp hp).elim (fun z => I.pin p (List.mem_append_left _ z)) (h p), I.hok, I.len⟩

theorem nodup_ix {N : List Str} (hN : N.Nodup) {i j : Nat} {x : Str} (a : N[i]? = some x) (b : N[j]? = some x) : i = j := by
  obtain ⟨h1, e1⟩ := List.getElem?_eq_some_iff.mp a
  obtain ⟨h2, e2⟩ := List.getElem?_eq_some_iff.mp b
  exact (List.getElem_inj hN).mp (e1.trans e2.symm)

theorem store_ok2 {M : Model} {A : Around} {E : Value → Shared → Prop} {i : Nat} {x : Str} {v : V} {u : Value} {Q : Unit → Shared → Prop} (I : Inv X pins σ H s) (hN : X.N.Nodup) (hi : X.N[i]? = some x) (hx : Loc X.env.scope x) (r : RelV v u)
    (h : ∀ s', Inv X pins (σ.set i (some v)) H s' → (∃ a, Heap.SameBut a s.heap s'.heap ∧ (a = X.env.locals ∨ X.env.cells.lookup x = some a)) → Q () s') (hf : X.fn x = true ∨ X.env.scope.names.lookup x = some .local := by first | exact .inl rfl | exact .inr rfl | assumption) : wpAny M A (storeName X.env x u) Q E s := by
  obtain ⟨m, hn, hl⟩ := id I.loc
  have hcls : (X.env.scope.kind == .class || (X.env.scope.kind == .module && X.env.locals != X.env.globals)) = false := by rw [I.ok.kind]; rfl
  have hiσ : i < σ.length := by rw [I.len]; exact (List.getElem?_eq_some_iff.mp hi).1
  have cne := I.cne
  have tracked : ∀ {a : Addr} {h' : Heap}, (∃ o, s.heap.get? a = some o ∧ H a = none) → Heap.SameBut a s.heap h' → HOk X.prog X.w H h' := fun {a h'} ha hs b ob e => by
    obtain ⟨_, _, hfree⟩ := ha
    refine (I.hok b ob e).stay (fun c w' hc q => (hs.2 c ?_).trans q) (fun _ q => q) fun _ _ q => q
    rintro rfl
    rcases hc with rfl | hc
    · rw [hfree] at e; cases e
    · rw [hfree] at hc; cases hc
  rcases hx with hk | hk
  · refine wpAny_storeName_local hk hn (fun h' hn' hs => ?_) hcls
    obtain ⟨oL, _, _, hoL, _⟩ := id hn
    refine h _ ⟨I.ok, I.os, I.bare, ⟨fun b o e n hb hx => ?_, fun b o e n hb hx => ?_, I.base.free, fun b o e hx => ?_, I.base.tups, I.base.frzs, I.base.tbls⟩, ⟨_, hn', fun j y v' e1 e2 e3 => ?_⟩, fun y c e => ?_, I.free, I.freeC, fun p hp => ?_, tracked ⟨oL, hoL, I.free⟩ hs, by simpa using I.len⟩ ⟨_, hs, .inl rfl⟩
    · exact (hs.2 b (Nat.ne_of_lt (Nat.lt_of_lt_of_le (Heap.lt_size e) I.ok.above))).trans (I.base.keep b o e n hb hx)
    · obtain ⟨sl, e1⟩ := I.base.slot b o e n hb hx
      exact ⟨sl, (hs.2 b (Nat.ne_of_lt (Nat.lt_of_lt_of_le (Heap.lt_size e) I.ok.above))).trans e1⟩
    · obtain ⟨o', e1⟩ := I.base.there b o e hx
      exact ⟨o', (hs.2 b (Nat.ne_of_lt (Nat.lt_of_lt_of_le (Heap.lt_size e) I.ok.above))).trans e1⟩
    · by_cases hj : j = i
      · subst hj
        rw [hi] at e1; cases e1
        rw [List.getElem?_set_self hiσ] at e2
        cases e2
        exact ⟨u, r, .inl ⟨hk, by simp⟩⟩
      · rw [List.getElem?_set_ne (Ne.symm hj)] at e2
        obtain ⟨u', r', q⟩ := hl j y v' e1 e2 e3
        refine ⟨u', r', ?_⟩
        rcases q with ⟨k, e⟩ | ⟨k, c, e, z⟩
        · refine .inl ⟨k, ?_⟩
          have : y ≠ x := fun e => hj (nodup_ix hN e1 (e ▸ hi))
          simp [this, e]
        · exact .inr ⟨k, c, e, z.sameBut hs (cne y c e)⟩
    · obtain ⟨w', z⟩ := I.cell y c e
      exact ⟨w', z.sameBut hs (cne y c e)⟩
    · obtain ⟨e, n, ne, nf, d⟩ := I.pin p hp
      exact ⟨(hs.2 p.1 ne).trans e, n, ne, nf, d⟩
  · have hfn : X.fn x = true := by
      rcases hf with z | z
      · exact z
      · rw [z] at hk; cases hk
    obtain ⟨c, hc⟩ := I.ok.has x (.inl hk)
    obtain ⟨w', z⟩ := I.cell x c hc
    refine wpAny_storeName_cell I.ok.kind hk hc z (fun h' hc' hs => ?_)
    obtain ⟨oc, hoc, hocd⟩ := id z
    refine h { s with heap := h' } ⟨I.ok, I.os, I.bare, ⟨fun b o e n hb hx => ?_, fun b o e n hb hx => ?_, I.base.free, fun b o e hx => ?_, I.base.tups, I.base.frzs, I.base.tbls⟩, ⟨m, hn.sameBut hs (Ne.symm (cne x c hc)), fun j y v' e1 e2 e3 => ?_⟩, fun y c' e => ?_, I.free, I.freeC, fun p hp => ?_, tracked ⟨oc, hoc, I.freeC x c hc⟩ hs, by simpa using I.len⟩ ⟨c, hs, .inr hc⟩
    · exact (hs.2 b (Nat.ne_of_lt (Nat.lt_of_lt_of_le (Heap.lt_size e) (I.ok.cab x c hfn hc)))).trans (I.base.keep b o e n hb hx)
    · obtain ⟨sl, e1⟩ := I.base.slot b o e n hb hx
      exact ⟨sl, (hs.2 b (Nat.ne_of_lt (Nat.lt_of_lt_of_le (Heap.lt_size e) (I.ok.cab x c hfn hc)))).trans e1⟩
    · obtain ⟨o', e1⟩ := I.base.there b o e hx
      exact ⟨o', (hs.2 b (Nat.ne_of_lt (Nat.lt_of_lt_of_le (Heap.lt_size e) (I.ok.cab x c hfn hc)))).trans e1⟩
    · by_cases hj : j = i
      · subst hj
        rw [hi] at e1; cases e1
        rw [List.getElem?_set_self hiσ] at e2
        cases e2
        exact ⟨u, r, .inr ⟨.inl hk, c, hc, hc'⟩⟩
      · rw [List.getElem?_set_ne (Ne.symm hj)] at e2
        obtain ⟨u', r', q⟩ := hl j y v' e1 e2 e3
        refine ⟨u', r', ?_⟩
        rcases q with q | ⟨k, c', e, z'⟩
        · exact .inl q
        · refine .inr ⟨k, c', e, z'.sameBut hs ?_⟩
          rintro rfl
          exact hj (nodup_ix hN e1 (I.ok.inj _ _ _ e hc ▸ hi))
    · by_cases hcc : c' = c
      · subst hcc; exact ⟨_, hc'⟩
      · obtain ⟨w2, z2⟩ := I.cell y c' e
        exact ⟨w2, z2.sameBut hs hcc⟩
    · obtain ⟨e, n, ne, nf, d⟩ := I.pin p hp
      refine ⟨(hs.2 p.1 ?_).trans e, n, ne, nf, d⟩
      intro q
      rw [q, hoc] at e
      have q' : oc = p.2 := Option.some.inj e
      exact d w' (by rw [← q']; exact hocd)
theorem store_ok {M : Model} {A : Around} {E : Value → Shared → Prop} {i : Nat} {x : Str} {v : V} {u : Value} {Q : Unit → Shared → Prop} (I : Inv X pins σ H s) (hN : X.N.Nodup) (hi : X.N[i]? = some x) (hx : Loc X.env.scope x) (r : RelV v u)
    (h : ∀ s', Inv X pins (σ.set i (some v)) H s' → Q () s') (hf : X.fn x = true ∨ X.env.scope.names.lookup x = some .local := by first | exact .inl rfl | exact .inr rfl | assumption) : wpAny M A (storeName X.env x u) Q E s :=
  store_ok2 I hN hi hx r (fun s' I' _ => h s' I') hf
theorem Inv.call' {s' : Shared} {ch : List Addr} (I : Inv X pins σ H s) (ho : s'.os = s.os) (u : Un (frs X.stack) ch H H' s.heap s'.heap) (hok : HOk X.prog X.w H' s'.heap) (hg : AllBare s'.gens)
    (hch : ∀ b ∈ ch, (b ∈ X.ex ∨ X.s_0.heap.objs.size ≤ b) ∧ b ≠ X.env.locals ∧ (∀ x c, X.env.cells.lookup x = some c → c ≠ b) ∧ ∀ p ∈ X.pn ++ pins, p.1 ≠ b) : Inv X pins σ H' s' := by
  obtain ⟨h', g', d', t', o'⟩ := s'
  have e : o' = s.os := ho
  subst e
  exact I.call (g' := g') (t' := t') (d' := d') u hok hg hch
end

abbrev XK := Value → Option Addr → Hp → Prop
abbrev St := List (Option V)
abbrev VK := V → Hp → Prop
abbrev TE := St → Hp → VK → Prop
abbrev TT := St → Hp → (Bool → Hp → Prop) → Prop
abbrev TA := St → Hp → (List V → Hp → Prop) → Prop
structure Ends where
  nx : St → Hp → Prop
  rt : VK
  bk : St → Hp → Prop := fun _ _ => False
  ct : St → Hp → Prop := fun _ _ => False
abbrev TS := Ends → St → Hp → Prop

def EP (X : Cx) (pins : List (Addr × Obj)) (σ : St) (Q : VK) (u : Value) (s' : Shared) : Prop := ∃ v H', Inv X pins σ H' s' ∧ RelV v u ∧ Q v H'
def TP (X : Cx) (pins : List (Addr × Obj)) (σ : St) (Q : Bool → Hp → Prop) (b : Bool) (s' : Shared) : Prop := ∃ H', Inv X pins σ H' s' ∧ Q b H'
def AP (X : Cx) (pins : List (Addr × Obj)) (σ : St) (Q : List V → Hp → Prop) (us : List Value) (s' : Shared) : Prop := ∃ vs H', Inv X pins σ H' s' ∧ Vals vs us ∧ Q vs H'
def SP (X : Cx) (pins : List (Addr × Obj)) (D : Ends) (f : Flow) (s' : Shared) : Prop :=
  match f with
  | .next => ∃ σ' H', Inv X pins σ' H' s' ∧ D.nx σ' H'
  | .brk => ∃ σ' H', Inv X pins σ' H' s' ∧ D.bk σ' H'
  | .cont => ∃ σ' H', Inv X pins σ' H' s' ∧ D.ct σ' H'
  | .ret u => ∃ v σ' H', Inv X pins σ' H' s' ∧ RelV v u ∧ D.rt v H'

def PE (X : Cx) (e : Expr) (t : TE) : Prop :=
  ∀ (pins : List (Addr × Obj)) (s : Shared) (σ : St) (H : Hp) (Q : VK), Inv X pins σ H s → t σ H Q → wpAny (model X.prog X.w) X.A (eval e X.env) (EP X pins σ Q) X.xe s
def PT (X : Cx) (e : Expr) (t : TT) : Prop :=
  ∀ (pins : List (Addr × Obj)) (s : Shared) (σ : St) (H : Hp) (Q : Bool → Hp → Prop), Inv X pins σ H s → t σ H Q → wpAny (model X.prog X.w) X.A (isTrue e X.env (eval e X.env)) (TP X pins σ Q) X.xe s
def PW (X : Cx) (e : Expr) (t : TT) : Prop :=
  ∀ (whole : Sem Value) (pins : List (Addr × Obj)) (s : Shared) (σ : St) (H : Hp) (Q : Bool → Hp → Prop), Inv X pins σ H s → t σ H Q → wpAny (model X.prog X.w) X.A (isTrue e X.env whole) (TP X pins σ Q) X.xe s
theorem PW.pt {X : Cx} {e : Expr} {t : TT} (h : PW X e t) : PT X e t := h _
def PA (X : Cx) (es : List Expr) (t : TA) : Prop :=
  ∀ (pos : Pos) (pins : List (Addr × Obj)) (s : Shared) (σ : St) (H : Hp) (Q : List V → Hp → Prop), Inv X pins σ H s → t σ H Q → wpAny (model X.prog X.w) X.A (spliced (backTo pos (starEach es X.env))) (AP X pins σ Q) X.xe s
def PS (X : Cx) (st : Stmt) (t : TS) : Prop :=
  ∀ (pins : List (Addr × Obj)) (s : Shared) (σ : St) (H : Hp) (D : Ends), Inv X pins σ H s → t D σ H → wpAny (model X.prog X.w) X.A (exec st X.env) (SP X pins D) X.xe s
def PSs (X : Cx) (st : List Stmt) (t : TS) : Prop :=
  ∀ (pins : List (Addr × Obj)) (s : Shared) (σ : St) (H : Hp) (D : Ends), Inv X pins σ H s → t D σ H → wpAny (model X.prog X.w) X.A (execs st X.env) (SP X pins D) X.xe s
theorem thn {α : Type} {t : Sem α} {Q Q' : α → Shared → Prop} {M : Model} {A : Around} {E : Value → Shared → Prop} {s : Shared} (h : wpAny M A t Q E s) (hQ : ∀ a s, Q a s → Q' a s) : wpAny M A t Q' E s := wpAny_mono h hQ fun _ _ x => x
end L2

namespace L2
open PySem PySem.Spec PyProof.Rows
section
variable {X : Cx}

def tVar (i : Nat) : TE := fun σ H Q => ∃ v, σ[i]? = some (some v) ∧ Q v H
def tC (v : V) : TE := fun _ H Q => Q v H
theorem pe_var {i : Nat} {x : Str} {pos : Pos} (hN : X.N[i]? = some x) (hv : Vis X.env.scope x) (hd : (x == ("__debug__" : Str)) = false := by decide) (hcd : (x == ("__classdict__" : Str)) = false := by decide) : PE X (.Name x pos) (tVar i) := by
  intro pins s σ H Q I h
  obtain ⟨v, e, h⟩ := h
  obtain ⟨m, hn, hl⟩ := I.loc
  obtain ⟨u, r, l⟩ := hl i x v hN e hv
  have fin : EP X pins σ Q u s := ⟨v, H, I, r, h⟩
  rcases l with ⟨hk, hm⟩ | ⟨hk, c, hc, hcell⟩
  · exact wpAny_Name (wpAny_loadName_local I.ok.kind hk hn hm fin) hd
  · rcases hk with hk | hk
    · exact wpAny_Name (wpAny_loadName_cell I.ok.kind hk hc hcell fin) hd
    · exact wpAny_Name (wpAny_loadName_free I.ok.kind hk hc hcell fin hcd) hd
theorem pe_int {i j pos} : PE X (.Constant (.int i) j pos) (tC (.int i)) := fun _ _ _ H _ I h => wpAny_Constant_int ⟨.int i, H, I.tok _, ⟨_, rfl⟩, h⟩
theorem pe_bl {b j pos} : PE X (.Constant (.bool b) j pos) (tC (.bl b)) := fun _ _ _ H _ I h => Constant_bool ⟨.bl b, H, I, rfl, h⟩
def Gl (X : Cx) (x : Str) : Prop := X.env.kindOf x = some .globalImplicit
theorem ld_glob {E : Value → Shared → Prop} {pins : List (Addr × Obj)} {s : Shared} {σ : St} {H : Hp} {x : Str} {u : Value} {pos : Pos} {Q : Value → Shared → Prop} (I : Inv X pins σ H s) (hg : Gl X x) (hm : X.mg x = some u) (h : Q u s)
    (hd : (x == ("__debug__" : Str)) = false := by decide) : wpAny (model X.prog X.w) X.A (eval (.Name x pos) X.env) Q E s :=
  Calls.Name_function_global I.ok.kind hg (Calls.loadGlobal_global (by rw [I.ok.glob]; exact I.mod.glob.keeps I.bk) hm h) hd
theorem ld_blt {E : Value → Shared → Prop} {pins : List (Addr × Obj)} {s : Shared} {σ : St} {H : Hp} {x : Str} {u : Value} {pos : Pos} {Q : Value → Shared → Prop} (I : Inv X pins σ H s) (hg : Gl X x) (hm : X.mg x = none) (hv : bootBuiltins x = some u) (h : Q u s)
    (hn : x ≠ "__name__" := by decide) (hd : (x == ("__debug__" : Str)) = false := by decide) : wpAny (model X.prog X.w) X.A (eval (.Name x pos) X.env) Q E s := by
  obtain ⟨mb, h1, h2⟩ := I.mod.blt
  exact Calls.Name_function_global I.ok.kind hg (Calls.loadGlobal_builtin (by rw [I.ok.glob]; exact I.mod.glob.keeps I.bk) hm (by rw [I.ok.blt]; exact h1.keeps I.bk) ((h2 x hn).trans hv) h) hd
theorem pe_glob {x : Str} {v : V} {u : Value} {pos : Pos} (hg : Gl X x) (hm : X.mg x = some u) (r : RelV v u) (hd : (x == ("__debug__" : Str)) = false := by decide) : PE X (.Name x pos) (tC v) :=
  fun _ _ _ H _ I h => ld_glob I hg hm ⟨v, H, I, r, h⟩ hd
theorem pe_bltn {x : Str} {v : V} {u : Value} {pos : Pos} (hg : Gl X x) (hm : X.mg x = none) (hv : bootBuiltins x = some u) (r : RelV v u) (hn : x ≠ "__name__" := by decide) (hd : (x == ("__debug__" : Str)) = false := by decide) : PE X (.Name x pos) (tC v) :=
  fun _ _ _ H _ I h => ld_blt I hg hm hv ⟨v, H, I, r, h⟩ hn hd

variable {a b : Expr} {ta tb : TE} {pos : Pos}
def tB (t : TE) : TT := fun σ H Q => t σ H fun x H1 => ∃ c, x = .bl c ∧ Q c H1
theorem pt_val {e : Expr} {t : TE} (h : PE X e t) (he : ∀ whole, isTrue e X.env whole = (do let v ← whole; standAt e.pos; holding [v] (truthy v)) := by intro _; rfl) : PT X e (tB t) := by
  intro pins s σ H Q I hw
  refine isTrue_plain (thn (h pins s σ H _ I hw) fun v s1 ⟨x, H1, I1, r1, q1⟩ => ?_) (he _)
  obtain ⟨d, rfl, q⟩ := q1
  cases r1
  exact wpAny_truthy_bool ⟨H1, I1, q⟩

variable {tA tB' : TT} {rest : List Expr}
def tOr (t u : TT) : TT := fun σ H Q => t σ H fun c H1 => if c = true then Q true H1 else u σ H1 Q
def tNot (t : TT) : TT := fun σ H Q => t σ H fun c H1 => Q (!c) H1
theorem pw_or1 (ha : PT X a tA) : PW X (.BoolOp .Or [a] pos) tA := by
  intro wh pins s σ H Q I h
  refine isTrue_or (thn (ha pins s σ H Q I h) fun c s1 e => ?_)
  cases c with
  | false => exact isTrue_or_nil e
  | true => exact e
theorem pw_or (ha : PT X a tA) (hb : PW X (.BoolOp .Or (b :: rest) pos) tB') : PW X (.BoolOp .Or (a :: b :: rest) pos) (tOr tA tB') := by
  intro wh pins s σ H Q I h
  refine isTrue_or (thn (ha pins s σ H _ I h) fun c s1 ⟨H1, I1, q1⟩ => ?_)
  cases c with
  | true => exact ⟨H1, I1, q1⟩
  | false => exact hb wh pins s1 σ H1 Q I1 q1
theorem pt_not (ha : PT X a tA) : PT X (.UnaryOp .Not a pos) (tNot tA) := by
  intro pins s σ H Q I h
  exact isTrue_not (ha pins s σ H (fun c H1 => Q (!c) H1) I h)
def tAndV (ta tb : TE) : TE := fun σ H Q => ta σ H fun x H1 => ∃ c, x = .bl c ∧ if c = true then tb σ H1 Q else Q (.bl false) H1
def tNotV (ta : TE) : TE := fun σ H Q => ta σ H fun x H1 => ∃ c, x = .bl c ∧ Q (.bl (!c)) H1
theorem pe_one {op} {t : TE} (h : PE X a t) : PE X (.BoolOp op [a] pos) t := fun pins s σ H Q I hw => BoolOp_one (h pins s σ H Q I hw)
theorem pe_and (ha : PE X a ta) (hb : PE X (.BoolOp .And (b :: rest) pos) tb) : PE X (.BoolOp .And (a :: b :: rest) pos) (tAndV ta tb) := by
  intro pins s σ H Q I h
  refine BoolOp_and (thn (ha pins s σ H _ I h) fun v s1 ⟨x, H1, I1, r1, q1⟩ => ?_)
  obtain ⟨c, rfl, q1⟩ := q1
  cases r1
  refine wpAny_truthy_bool ?_
  cases c with
  | true => exact hb pins s1 σ H1 Q I1 q1
  | false => exact ⟨.bl false, H1, I1, rfl, q1⟩
theorem pe_not (ha : PE X a ta) : PE X (.UnaryOp .Not a pos) (tNotV ta) := by
  intro pins s σ H Q I h
  refine UnaryOp_ (thn (ha pins s σ H _ I h) fun v s1 ⟨x, H1, I1, r1, q1⟩ => ?_)
  obtain ⟨c, rfl, q1⟩ := q1
  cases r1
  exact not_of (wpAny_truthy_bool ⟨.bl (!c), H1, I1, rfl, q1⟩)
def tIf (t : TT) (ta tb : TE) : TE := fun σ H Q => t σ H fun c H1 => if c = true then ta σ H1 Q else tb σ H1 Q
theorem pe_ifExp {c : Expr} (hc : PT X c tA) (ha : PE X a ta) (hb : PE X b tb) : PE X (.IfExp c a b pos) (tIf tA ta tb) := by
  intro pins s σ H Q I h
  refine wpAny_IfExp (thn (hc pins s σ H _ I h) fun d s1 ⟨H1, I1, q1⟩ => ?_)
  cases d with
  | true => exact ha pins s1 σ H1 Q I1 q1
  | false => exact hb pins s1 σ H1 Q I1 q1
end
end L2

namespace L2
open PySem PySem.Spec PyProof.Rows

def SqL (K : PySem.W.Frag) (H : Hp) (a : Addr) (xs : List V) : Prop :=
  Rd H a (.lst xs) ∨
    ∃ (o : Obj) (its : Array Value) (n : Nat), K.lookup a = some o ∧ o.cls = .type "list" ∧ o.dict = none ∧ o.data = .seq its n ∧ its.size ≤ sizeLine ∧ Vals xs its.toList
def SqT (K : PySem.W.Frag) (H : Hp) (a : Addr) (xs : List V) : Prop :=
  Rd H a (.tup xs) ∨
    ∃ (o : Obj) (its : Array Value) (n : Nat), K.lookup a = some o ∧ o.cls = .type "tuple" ∧ o.data = .seq its n ∧ its.size ≤ sizeLine ∧ Vals xs its.toList
def absV : Value → Option V
  | .none => some .non
  | .bool b => some (.bl b)
  | .int i _ => some (.int i)
  | .str x _ => some (.str x)
  | .bytes b _ => some (.byt b)
  | .float b _ => some (.flt b)
  | .ref a => some (.ref a)
  | .type n => some (.ty n)
  | _ => none
theorem RelV.abs {x : V} {u : Value} (r : RelV x u) : absV u = some x := by
  cases x with
  | non => cases r; rfl
  | bl _ => cases r; rfl
  | int _ => obtain ⟨t, rfl⟩ := r; rfl
  | str _ => obtain ⟨t, rfl⟩ := r; rfl
  | byt _ => obtain ⟨t, rfl⟩ := r; rfl
  | flt _ => obtain ⟨t, rfl⟩ := r; rfl
  | ref _ => cases r; rfl
  | ty _ => cases r; rfl
theorem RelV.inj {x y : V} {u : Value} (r : RelV x u) (q : RelV y u) : x = y := Option.some.inj (r.abs.symm.trans q.abs)
theorem Vals.inj : ∀ {xs ys : List V} {us : List Value}, Vals xs us → Vals ys us → xs = ys
  | _, _, _, .nil, .nil => rfl
  | _, _, _, .cons r t, .cons r' t' => by rw [r.inj r', Vals.inj t t']
section
variable {X : Cx} {pins : List (Addr × Obj)} {σ : St} {H : Hp} {s : Shared} {a : Addr} {xs ys : List V}
theorem SqL.of {K : PySem.W.Frag} (h : H a = some (.lst xs)) : SqL K H a xs := .inl (.inl h)
theorem SqT.of {K : PySem.W.Frag} (h : H a = some (.tup xs)) : SqT K H a xs := .inl (.inl h)
theorem Inv.list (I : Inv X pins σ H s) (h : SqL X.K H a xs) : ∃ its : List Value, Vals xs its ∧ PlainL s.heap a its.toArray ∧ xs.length ≤ sizeLine := by
  rcases h with h | ⟨o, its, n, hk, hc, hd, hs, hz, r⟩
  · obtain ⟨z, its, n, r, e⟩ := h.ok I.hok
    exact ⟨its, r, ⟨_, n, e, rfl, rfl, rfl⟩, z⟩
  · refine ⟨its.toList, r, ⟨o, n, I.kIn a o hk, hc, hd, by simpa using hs⟩, ?_⟩
    have e := r.length
    simp only [Array.length_toList] at e
    omega
theorem Inv.tuple (I : Inv X pins σ H s) (h : SqT X.K H a xs) : ∃ its : List Value, Vals xs its ∧ IsTup s.heap a its.toArray ∧ xs.length ≤ sizeLine := by
  rcases h with h | ⟨o, its, n, hk, hc, hs, hz, r⟩
  · obtain ⟨z, its, r, p⟩ := h.ok I.hok
    exact ⟨its, r, p, z⟩
  · refine ⟨its.toList, r, ⟨o, I.kIn a o hk, hc, n, by simpa using hs⟩, ?_⟩
    have e := r.length
    simp only [Array.length_toList] at e
    omega
theorem Inv.list_inj (I : Inv X pins σ H s) (h : SqL X.K H a xs) (h' : SqL X.K H a ys) : xs = ys := by
  obtain ⟨its, r, ⟨o, n, e, _, _, d⟩, _⟩ := I.list h
  obtain ⟨its', r', ⟨o', n', e', _, _, d'⟩, _⟩ := I.list h'
  rw [e] at e'; cases e'
  rw [d] at d'
  injection d' with d1 _
  have : its = its' := by simpa using congrArg Array.toList d1
  subst this
  exact r.inj r'
end

abbrev Cx.wish (X : Cx) (E : Value → Shared → Prop) : Cx := { X with xe := E }
abbrev Cx.nox (X : Cx) : Cx := X.wish fun _ _ => False
theorem Cx.Ok.wish {X : Cx} (ok : X.Ok) (E : Value → Shared → Prop) : (X.wish E).Ok :=
  ⟨ok.mod, ok.kind, ok.glob, ok.blt, ok.above, ok.inj, ok.has, ok.cab, ok.hd, ok.frames, ok.stk, ok.exf, ok.bs, ok.bsz, ok.noex, ok.exfs, ok.funs, ok.frf⟩
theorem Cx.Ok.unwish {X : Cx} {E : Value → Shared → Prop} (ok : (X.wish E).Ok) : X.Ok :=
  ⟨ok.mod, ok.kind, ok.glob, ok.blt, ok.above, ok.inj, ok.has, ok.cab, ok.hd, ok.frames, ok.stk, ok.exf, ok.bs, ok.bsz, ok.noex, ok.exfs, ok.funs, ok.frf⟩
section
variable {X : Cx} {pins : List (Addr × Obj)} {σ : St} {H : Hp} {s : Shared} {E : Value → Shared → Prop}
theorem Inv.wish (I : Inv X pins σ H s) (E : Value → Shared → Prop) : Inv (X.wish E) pins σ H s := ⟨I.ok.wish E, I.os, I.bare, I.base, I.loc, I.cell, I.free, I.freeC, I.pin, I.hok, I.len⟩
theorem Inv.unwish (I : Inv (X.wish E) pins σ H s) : Inv X pins σ H s := ⟨I.ok.unwish, I.os, I.bare, I.base, I.loc, I.cell, I.free, I.freeC, I.pin, I.hok, I.len⟩
theorem SP.unwish {D : Ends} {f : Flow} {s' : Shared} (h : SP (X.wish E) pins D f s') : SP X pins D f s' := by
  cases f with
  | next => obtain ⟨σ', H', I, q⟩ := h; exact ⟨σ', H', I.unwish, q⟩
  | brk => obtain ⟨σ', H', I, q⟩ := h; exact ⟨σ', H', I.unwish, q⟩
  | cont => obtain ⟨σ', H', I, q⟩ := h; exact ⟨σ', H', I.unwish, q⟩
  | ret u => obtain ⟨v, σ', H', I, r, q⟩ := h; exact ⟨v, σ', H', I.unwish, r, q⟩
theorem PE.nox {e : Expr} {t : TE} (h : PE X.nox e t) : PE X e t := fun pins s σ H Q I hw =>
  wpAny_mono (h pins s σ H Q (I.wish _) hw) (fun _ _ ⟨v, H', I', r, q⟩ => ⟨v, H', I'.unwish, r, q⟩) fun _ _ z => False.elim z
theorem PT.nox {e : Expr} {t : TT} (h : PT X.nox e t) : PT X e t := fun pins s σ H Q I hw =>
  wpAny_mono (h pins s σ H Q (I.wish _) hw) (fun _ _ ⟨H', I', q⟩ => ⟨H', I'.unwish, q⟩) fun _ _ z => False.elim z
theorem PSs.nox {st : List Stmt} {t : TS} (h : PSs X.nox st t) : PSs X st t := fun pins s σ H D I hw =>
  wpAny_mono (h pins s σ H D (I.wish _) hw) (fun _ _ q => q.unwish) fun _ _ z => False.elim z
end

section
variable {X : Cx} {st : Stmt} {rest : List Stmt} {t u : TS} {e : Expr} {te : TE} {pos : Pos}
def tNext : TS := fun D σ H => D.nx σ H
def tSeq (t u : TS) : TS := fun D σ H => t { D with nx := u D } σ H
theorem pss_nil : PSs X [] tNext := fun _ _ σ H _ I h => wpAny_execs_nil ⟨σ, H, I, h⟩
theorem pss_cons (h1 : PS X st t) (h2 : PSs X rest u) : PSs X (st :: rest) (tSeq t u) := by
  intro pins s σ H D I h
  refine wpAny_execs_cons (thn (h1 pins s σ H { D with nx := u D } I h) fun f s1 q => ?_)
  cases f with
  | next =>
    obtain ⟨σ', H', I', q⟩ := q
    exact h2 pins s1 σ' H' D I' q
  | ret v => exact q
  | brk => exact q
  | cont => exact q
theorem pss_one (h1 : PS X st t) : PSs X [st] t := by
  intro pins s σ H D I h
  refine wpAny_execs_cons (thn (h1 pins s σ H D I h) fun f s1 q => ?_)
  cases f with
  | next => exact wpAny_execs_nil q
  | ret v => exact q
  | brk => exact q
  | cont => exact q
theorem Inv.quiet {pins : List (Addr × Obj)} {σ : St} {H : Hp} {s : Shared} (I : Inv X pins σ H s) : interactive X.env = false := by simp [interactive, I.ok.kind]
def tDrop (te : TE) : TS := fun D σ H => te σ H fun _ H1 => D.nx σ H1
theorem ps_expr (he : PE X e te) (hs : swapsWith e none pos.line X.env = pure false := by rfl) : PS X (.Expr e pos) (tDrop te) := by
  intro pins s σ H D I h
  exact wpAny_Expr_any (thn (he pins s σ H _ I h) fun v s1 ⟨x, H1, I1, r1, q1⟩ => ⟨σ, H1, I1, q1⟩) I.quiet hs
def tRet (te : TE) : TS := fun D σ H => te σ H D.rt
theorem ps_ret (he : PE X e te) : PS X (.Return (some e) pos) (tRet te) := by
  intro pins s σ H D I h
  exact wpAny_Return_some (thn (he pins s σ H _ I h) fun v s1 ⟨x, H1, I1, r1, q1⟩ => ⟨x, σ, H1, I1, r1, q1⟩)
def tIfS (c : TT) (t u : TS) : TS := fun D σ H => c σ H fun b H1 => if b = true then t D σ H1 else u D σ H1
theorem ps_if {c : Expr} {a b : List Stmt} {tc : TT} (hc : PT X c tc) (ha : PSs X a t) (hb : PSs X b u) : PS X (.If c a b pos) (tIfS tc t u) := by
  intro pins s σ H D I h
  refine wpAny_If (thn (hc pins s σ H _ I h) fun d s1 ⟨H1, I1, q1⟩ => ?_)
  cases d with
  | true => exact ha pins s1 σ H1 D I1 q1
  | false => exact hb pins s1 σ H1 D I1 q1
def tNever : TS := fun _ _ _ => False
theorem ps_never : PS X st tNever := fun _ _ _ _ _ _ h => h.elim
end

abbrev TG := V → St → Hp → (St → Hp → Prop) → Prop
abbrev TGs := List V → St → Hp → (St → Hp → Prop) → Prop
def PG (X : Cx) (target : Expr) (t : TG) : Prop :=
  ∀ (pins : List (Addr × Obj)) (s : Shared) (σ : St) (H : Hp) (v : V) (u : Value) (Q : St → Hp → Prop), Inv X pins σ H s → RelV v u → t v σ H Q →
    wpAny (model X.prog X.w) X.A (assign target X.env u) (fun _ s' => ∃ σ' H', Inv X pins σ' H' s' ∧ Q σ' H') X.xe s
def PGs (X : Cx) (ts : List Expr) (t : TGs) : Prop :=
  ∀ (pins : List (Addr × Obj)) (s : Shared) (σ : St) (H : Hp) (vs : List V) (us : List Value) (Q : St → Hp → Prop), Inv X pins σ H s → Vals vs us → t vs σ H Q →
    wpAny (model X.prog X.w) X.A (assignInOrder ((assignEach ts X.env).map (·.2)) us) (fun _ s' => ∃ σ' H', Inv X pins σ' H' s' ∧ Q σ' H') X.xe s
abbrev TSet := V → V → V → Hp → (Hp → Prop) → Prop
def PSet (X : Cx) (t : TSet) : Prop :=
  ∀ (pins : List (Addr × Obj)) (s : Shared) (σ : St) (H : Hp) (o i v : V) (ov iv u : Value) (Q : Hp → Prop), Inv X pins σ H s → RelV o ov → RelV i iv → RelV v u → t o i v H Q →
    wpAny (model X.prog X.w) X.A (setItem ov iv u) (fun _ s' => ∃ H', Inv X pins σ H' s' ∧ Q H') X.xe s
section
variable {X : Cx} {pos : Pos}
def gName (i : Nat) : TG := fun v σ H Q => Q (σ.set i (some v)) H
theorem pg_name {i : Nat} {x : Str} (hN : X.N.Nodup) (hi : X.N[i]? = some x) (hx : Loc X.env.scope x) (hf : X.fn x = true ∨ X.env.scope.names.lookup x = some .local := by first | exact .inl rfl | exact .inr rfl | assumption) : PG X (.Name x pos) (gName i) := by
  intro pins s σ H v u Q I r h
  exact wpAny_assign_Name (store_ok I hN hi hx r (fun s' I' => ⟨_, H, I', h⟩) hf)
def gNil : TGs := fun vs σ H Q => vs = [] ∧ Q σ H
def gCons (t : TG) (u : TGs) : TGs := fun vs σ H Q => ∃ v r, vs = v :: r ∧ t v σ H fun σ' H' => u r σ' H' Q
theorem pgs_nil : PGs X [] gNil := by
  intro pins s σ H vs us Q I r h
  obtain ⟨e, h⟩ := h
  subst e
  cases r
  exact assignInOrder_nil ⟨σ, H, I, h⟩
theorem pgs_cons {e : Expr} {es : List Expr} {t : TG} {u : TGs} (h1 : PG X e t) (h2 : PGs X es u)
    (hs : (assignEach (e :: es) X.env).map (·.2) = assign e X.env :: (assignEach es X.env).map (·.2) := by rfl) : PGs X (e :: es) (gCons t u) := by
  intro pins s σ H vs us Q I r h
  obtain ⟨v, vr, e1, h⟩ := h
  subst e1
  cases r with
  | cons r rr =>
    rw [hs]
    refine assignInOrder_cons (thn (h1 pins s σ H _ _ _ I r h) fun _ s1 ⟨σ1, H1, I1, q1⟩ => ?_)
    exact h2 pins s1 σ1 H1 _ _ Q I1 rr q1
def gTup (K : PySem.W.Frag) (n : Nat) (t : TGs) : TG := fun v σ H Q => ∃ a xs, v = .ref a ∧ SqT K H a xs ∧ xs.length = n ∧ t xs σ H Q
theorem pg_tup {es : List Expr} {k : Nat} {t : TGs} {n : Nat} (hc : X.calm = true) (h : PGs X es t)
    (hn : (assignEach es X.env).length = n := by rfl) (hst : (assignEach es X.env).findIdx? (·.1) = none := by rfl) : PG X (.Tuple es k pos) (gTup X.K n t) := by
  intro pins s σ H v u Q I r hw
  obtain ⟨a, xs, e1, hq, hl, hw⟩ := hw
  subst e1
  cases r
  obtain ⟨its, rv, ht, hz⟩ := I.tuple hq
  refine assign_Tuple_tuple (I.ok.hd hc) ht (by simp [hn, ← hl, rv.length]) hst fun h' hx => ?_
  have I1 : Inv X pins σ H { s with heap := h' } := I.kept (t' := s.toks) fun b o e => hx b o (Nat.ne_of_lt (Heap.lt_size e)) e
  exact h pins _ σ H xs _ Q I1 (by simpa using rv) hw
def gSub (to ti : TE) (t : TSet) : TG := fun v σ H Q => to σ H fun o H1 => ti σ H1 fun i H2 => t o i v H2 fun H3 => Q σ H3
theorem pg_sub {o i : Expr} {to ti : TE} {t : TSet} (ho : PE X o to) (hi : PE X i ti) (hs : PSet X t)
    (ha : ∀ v, assign (.Subscript o i pos) X.env v = (do
      let ov ← holding [v] (eval o X.env)
      let iv ← holding [v, ov] (eval i X.env)
      standAt pos
      holding [v, ov, iv] (setItem ov iv v)
      release [v, ov, iv] []) := by intro _; rfl) : PG X (.Subscript o i pos) (gSub to ti t) := by
  intro pins s σ H v u Q I r h
  rw [ha]
  refine wpAny_bind (wpAny_holding (thn (ho pins s σ H _ I h) fun ov s1 ⟨x, H1, I1, r1, q1⟩ => ?_))
  refine wpAny_bind (wpAny_holding (thn (hi pins s1 σ H1 _ I1 q1) fun iv s2 ⟨y, H2, I2, r2, q2⟩ => ?_))
  refine wpAny_bind (wpAny_standAt (wpAny_bind (wpAny_holding (thn (hs pins s2 σ H2 x y v ov iv u _ I2 r1 r2 r q2) fun _ s3 ⟨H3, I3, q3⟩ => ?_))))
  exact wpAny_release ⟨σ, H3, I3, q3⟩
def tAsg (te : TE) (g : TG) : TS := fun D σ H => te σ H fun x H1 => g x σ H1 D.nx
theorem ps_asg {tg e : Expr} {te : TE} {g : TG} (he : PE X e te) (hg : PG X tg g) (hs : swapsWithSole [tg] e pos.line X.env = pure false := by rfl) (hw : swappedStores [tg] e X.env = pure none := by rfl)
    (h1 : (assignEach [tg] X.env).map (·.2) = [assign tg X.env] := by rfl) : PS X (.Assign [tg] e pos) (tAsg te g) := by
  intro pins s σ H D I h
  refine wpAny_Assign_stores (thn (he pins s σ H _ I h) fun v s1 ⟨x, H1, I1, r1, q1⟩ => ?_) hs hw
  rw [h1]
  exact thn (hg pins s1 σ H1 x v _ I1 r1 q1) fun _ s2 q => q
theorem ps_set {i : Nat} {x : Str} {e : Expr} {te : TE} {pos' : Pos} (hN : X.N.Nodup) (hi : X.N[i]? = some x) (hx : Loc X.env.scope x) (he : PE X e te) (hs : swapsWith e (some (.Name x pos')) pos.line X.env = pure false := by rfl) (hf : X.fn x = true ∨ X.env.scope.names.lookup x = some .local := by first | exact .inl rfl | exact .inr rfl | assumption) :
    PS X (.Assign [.Name x pos'] e pos) (tAsg te (gName i)) := by
  intro pins s σ H D I h
  refine wpAny_Assign_Name (thn (he pins s σ H _ I h) fun v s1 ⟨y, H1, I1, r1, q1⟩ => ?_) hs
  exact store_ok I1 hN hi hx r1 (fun s2 I2 => ⟨_, H1, I2, q1⟩) hf
def tPar (i j : Nat) (ta : TA) : TS := fun D σ H => ta σ H fun vs H1 => ∃ v w, vs = [v, w] ∧ D.nx ((σ.set i (some v)).set j (some w)) H1
theorem ps_par {i j : Nat} {x y : Str} {a b : Expr} {ta : TA} {px py pt : Pos} {kt k2 pt2} (hc : X.calm = true) (hN : X.N.Nodup) (hi : X.N[i]? = some x) (hj : X.N[j]? = some y) (hij : i ≠ j)
    (hx : X.env.scope.names.lookup x = some .local) (hy : X.env.scope.names.lookup y = some .local) (ha : PA X [a, b] ta)
    (hw : swappedStores [.Tuple [.Name x px, .Name y py] kt pt] (.Tuple [a, b] k2 pt2) X.env = pure (some [x, y]))
    (hs : swapsWithSole [.Tuple [.Name x px, .Name y py] kt pt] (.Tuple [a, b] k2 pt2) pos.line X.env = pure false := by rfl) :
    PS X (.Assign [.Tuple [.Name x px, .Name y py] kt pt] (.Tuple [a, b] k2 pt2) pos) (tPar i j ta) := by
  intro pins s σ H D I h
  rw [exec_Assign_arm]
  refine wpAny_bind (wpAny_standAt ?_)
  rw [hs]
  refine wpAny_bind (wpAny_pure ?_)
  rw [if_neg (by decide)]
  refine wpAny_bind (Tuple_ (thn (ha _ pins s σ H _ I h) fun us s1 ⟨vs, H1, I1, r1, q1⟩ => ?_))
  obtain ⟨v, w, e1, q1⟩ := q1
  subst e1
  obtain ⟨u1, u2, rfl, rv, rw'⟩ : ∃ u1 u2, us = [u1, u2] ∧ RelV v u1 ∧ RelV w u2 := by
    cases r1 with
    | cons p q =>
      cases q with
      | cons p' q' =>
        cases q'
        exact ⟨_, _, rfl, p, p'⟩
  refine wpAny_newObj_type ?_ (by show 2 ≤ sizeLine; decide)
  have I2 : Inv X pins σ H1 { s1 with heap := s1.heap.push { cls := .type "tuple", data := .seq [u1, u2].toArray } } := I1.kept (t' := s1.toks) fun b o e => Heap.get?_push_of_some _ e
  rw [hw]
  refine wpAny_bind (wpAny_pure ?_)
  show wpAny (model X.prog X.w) X.A (do rule "assign.swapped-stores"; let items ← unpackItems (.ref s1.heap.objs.size) 2 none; assignInOrder [fun v => bindName X.env y v, fun v => bindName X.env x v] items.reverse; pure Flow.next) _ _ _
  refine wpAny_bind (wpAny_rule (wpAny_bind (unpackItems_tuple (items := #[u1, u2]) (I.ok.hd hc) (IsTup.new s1.heap _) fun h' hx' => ?_)))
  have I3 := I2.kept (h' := h') (t' := s1.toks) fun b o e => hx' b o (Nat.ne_of_lt (Heap.lt_size e)) e
  show wpAny _ _ (assignInOrder [fun v => bindName X.env y v, fun v => bindName X.env x v] [u2, u1] >>= fun _ => pure Flow.next) _ _ _
  refine wpAny_bind (assignInOrder_cons (wpAny_bindName (store_ok I3 hN hj (.inl hy) rw' (fun s2 I4 => ?_) (.inr hy))))
  refine assignInOrder_cons (wpAny_bindName (store_ok I4 hN hi (.inl hx) rv (fun s3 I5 => assignInOrder_nil (wpAny_pure ?_)) (.inr hx)))
  rw [List.set_comm _ _ (Ne.symm hij)] at I5
  exact ⟨_, H1, I5, q1⟩
end

section
variable {X : Cx} {pos : Pos}
def tWhile (c : TT) (tb : TS) : TS := fun D σ H => ∃ W : Nat → St → Hp → Prop, (∃ m, W m σ H) ∧ ∀ m σ H, W m σ H →
  c σ H fun b H1 => if b = true then ∃ N : St → Hp → Prop, (∀ σ' H', N σ' H' → ∃ m', m' < m ∧ W m' σ' H') ∧ tb { D with nx := N, ct := N, bk := D.nx } σ H1 else D.nx σ H1
theorem ps_while {c : Expr} {body : List Stmt} {tc : TT} {tb : TS} (hp : PassesOwn (model X.prog X.w) X.A X.env X.xe) (hc : PT X c tc) (hb : PSs X body tb) : PS X (.While c body [] pos) (tWhile tc tb) := by
  intro pins s σ H D I h
  obtain ⟨W, ⟨m0, w0⟩, turn⟩ := h
  refine wpAny_While (codeAny_whileLoop (fun n s' => ∃ σ' H', Inv X pins σ' H' s' ∧ W n σ' H') ?_ m0 ⟨σ, H, I, w0⟩)
  rintro n s1 ⟨σ1, H1, I1, w1⟩
  refine wpAny_passesOwn hp (thn (hc pins s1 σ1 H1 _ I1 (turn n σ1 H1 w1)) fun b s2 ⟨H2, I2, q2⟩ => ?_)
  cases b with
  | true =>
    obtain ⟨N, hN, q2⟩ := q2
    rw [if_pos rfl]
    refine wpAny_passesOwn hp (thn (hb pins s2 σ1 H2 _ I2 q2) fun f s3 q3 => ?_)
    cases f with
    | next =>
      obtain ⟨σ3, H3, I3, n3⟩ := q3
      obtain ⟨m', hm, w3⟩ := hN σ3 H3 n3
      exact ⟨m', hm, σ3, H3, I3, w3⟩
    | cont =>
      obtain ⟨σ3, H3, I3, n3⟩ := q3
      obtain ⟨m', hm, w3⟩ := hN σ3 H3 n3
      exact ⟨m', hm, σ3, H3, I3, w3⟩
    | brk => exact q3
    | ret v => exact q3
  | false =>
    rw [if_neg Bool.false_ne_true]
    exact wpAny_execs_nil ⟨σ1, H2, I2, q2⟩
end

structure It where
  go : Nat → Hp → Prop
  yld : Nat → Hp → V → Hp → Prop
  stop : Nat → Hp → Prop
def FpOk (X : Cx) (pins : List (Addr × Obj)) (H : Hp) (b : Addr) : Prop :=
  H b = none ∧ b ≠ X.env.locals ∧ b ∉ X.fs ∧ (b ∈ X.ex ∨ X.s_0.heap.objs.size ≤ b) ∧ (∀ x c, X.env.cells.lookup x = some c → c ≠ b) ∧ ∀ p ∈ X.pn ++ pins, p.1 ≠ b
theorem Inv.fpOk {X : Cx} {pins : List (Addr × Obj)} {σ : St} {H H' : Hp} {s : Shared} {b : Addr} (I : Inv X pins σ H s) (hb : s.heap.objs.size ≤ b) (hn : H' b = none) : FpOk X pins H' b := by
  refine ⟨hn, Nat.ne_of_gt (Nat.lt_of_lt_of_le I.lt hb), I.nofs hb, .inr (Nat.le_trans I.sz hb), fun x c e z => ?_, fun p hp z => ?_⟩
  · obtain ⟨v, q⟩ := I.cell x c e
    exact absurd (Nat.lt_of_lt_of_le q.lt (by rw [z]; exact hb)) (Nat.lt_irrefl _)
  · exact absurd (Nat.lt_of_lt_of_le (Heap.lt_size (I.pin p hp).1) (by rw [z]; exact hb)) (Nat.lt_irrefl _)
structure Turn (P : Program) (w : World) (K : PySem.W.Frag) (tg : Expr) (J : It) (fp : List Addr) (it : Addr) (tn : Nat → Heap → Prop) : Prop where
  mem : it ∈ fp
  obj : ∀ i h, tn i h → ∀ b ∈ fp, ∃ o, h.get? b = some o ∧ ∀ v, o.data ≠ .cell v
  keep : ∀ i h h', tn i h → (∀ b ∈ fp, ∀ o, h.get? b = some o → h'.get? b = some o) → tn i h'
  item : ∀ (X : Cx), X.prog = P → X.w = w → X.K = K → X.calm = true → ∀ (i : Nat) (pins : List (Addr × Obj)) (s : Shared) (σ : St) (H : Hp) (E : Value → Shared → Prop), Inv X pins σ H s → (∀ b ∈ fp, FpOk X pins H b) → tn i s.heap → J.go i H →
    wpAny (model P w) X.A (pyNext (.ref it)) (fun r s1 => ∃ u, r = some u ∧
      wpAny (model P w) X.A (letOwnedTupleGo tg (.ref it) u) (fun _ s2 => ∃ x H', Inv X pins σ H' s2 ∧ RelV x u ∧ J.yld i H x H' ∧ tn (i + 1) s2.heap ∧ ∀ b ∈ fp, H' b = none) E s1) E s
  done : ∀ (X : Cx), X.prog = P → X.w = w → X.K = K → X.calm = true → ∀ (i : Nat) (pins : List (Addr × Obj)) (s : Shared) (σ : St) (H : Hp) (E : Value → Shared → Prop), Inv X pins σ H s → (∀ b ∈ fp, FpOk X pins H b) → tn i s.heap → J.stop i H →
    wpAny (model P w) X.A (pyNext (.ref it)) (fun r s1 => r = none ∧ Inv X pins σ H s1) E s
  self : ∀ (A : Around) (i : Nat) (s : Shared) (Q : Value → Shared → Prop) (E : Value → Shared → Prop), tn i s.heap → Q (.ref it) s → wpAny (model P w) A (pyIter (.ref it)) Q E s
abbrev TI := St → Hp → (It → Hp → Prop) → Prop
def PIE (X : Cx) (pins : List (Addr × Obj)) (σ : St) (tg : Expr) (R : It → Hp → Prop) (itv : Value) (s2 : Shared) : Prop :=
  ∃ (it : Addr) (fp : List Addr) (tn : Nat → Heap → Prop) (J : It) (H' : Hp), itv = .ref it ∧ Inv X pins σ H' s2 ∧ Turn X.prog X.w X.K tg J fp it tn ∧ tn 0 s2.heap ∧ (∀ b ∈ fp, FpOk X pins H' b) ∧ R J H'
def PI (X : Cx) (tg iter : Expr) (wi : TI) : Prop :=
  ∀ (pins : List (Addr × Obj)) (s : Shared) (σ : St) (H : Hp) (R : It → Hp → Prop), Inv X pins σ H s → wi σ H R →
    wpAny (model X.prog X.w) X.A (eval iter X.env) (fun v s1 => wpAny (model X.prog X.w) X.A (pyIter v) (PIE X pins σ tg R) X.xe s1) X.xe s

theorem go_of {M : Model} {A : Around} {E : Value → Shared → Prop} {s : Shared} {tg : Expr} {it : Addr} {u : Value} {o : Obj} {n : String} {vs : Array Value} {Q : Unit → Shared → Prop} (ho : s.heap.get? it = some o) (hc : o.cls = .type n) (hd : o.data = .fields vs)
    (hn : ["enumerate", "zip", "dict_itemiterator", "dict_reverseitemiterator", "odict_iterator", "itertools.zip_longest", "itertools.pairwise"].contains n = false) (hQ : Q () s) : wpAny M A (letOwnedTupleGo tg (.ref it) u) Q E s := by
  unfold letOwnedTupleGo
  cases tg <;> first
    | exact wpAny_pure hQ
    | (cases u <;> first
        | exact wpAny_pure hQ
        | (refine wpAny_bind (wpAny_load ho ?_)
           rw [hc, hd]
           show wpAny M A (if (["enumerate", "zip", "dict_itemiterator", "dict_reverseitemiterator", "odict_iterator", "itertools.zip_longest", "itertools.pairwise"].contains n && vs[0]? == some (rawInt _)) = true then _ else _) Q E s
           rw [if_neg (by intro h; rw [hn, Bool.false_and] at h; cases h)]
           exact wpAny_pure hQ))

def Itl (K : PySem.W.Frag) (a : Addr) : It :=
  ⟨fun i H => ∃ xs x, SqL K H a xs ∧ xs[i]? = some x, fun i H x H' => H' = H ∧ ∀ xs, SqL K H a xs → xs[i]? = some x, fun i H => ∃ xs, SqL K H a xs ∧ xs.length ≤ i⟩
def Itr (lo : Int) (n : Nat) : It := ⟨fun i _ => i < n, fun i H x H' => H' = H ∧ x = .int (lo + i), fun i _ => n ≤ i⟩
theorem turn_list {P : Program} {w : World} {K : PySem.W.Frag} {tg : Expr} (a it : Addr) : Turn P w K tg (Itl K a) [it] it (fun i h => h.IsListIter it a i) where
  mem := by simp
  obj := fun i h st b hb => by
    have e : b = it := by simpa using hb
    subst e
    obtain ⟨o, e, c, d⟩ := st
    exact ⟨o, e, fun v z => by rw [d] at z; cases z⟩
  keep := fun i h h' st k => st.at fun o e => k it (by simp) o e
  item := by
    intro X hP hw hK hc i pins s σ H E I hf st hg
    subst hP hw hK
    obtain ⟨xs, x, hq, hx⟩ := hg
    obtain ⟨its, rv, p, hz⟩ := I.list hq
    obtain ⟨u, hu, ru⟩ := rv.get hx
    obtain ⟨f0, f1, f2, f3, f4, f5⟩ := hf it (by simp)
    refine wpAny_pyNext_list_item st p.isList (x := u) (by simpa using hu) fun h' st' sb => ?_
    have I1 : Inv X pins σ H { s with heap := h' } := I.turned (t' := s.toks) (fun b o hb e => (sb.2 b hb).trans e) f0 f1 f3 f4 f5
    obtain ⟨o, e, c, d⟩ := id st'
    exact ⟨u, rfl, go_of (s := { s with heap := h' }) e c d (by decide) ⟨x, H, I1, ru, ⟨rfl, fun ys hy => by rw [I.list_inj hy hq]; exact hx⟩, st', fun b hb => (hf b hb).1⟩⟩
  done := by
    intro X hP hw hK hc i pins s σ H E I hf st hg
    subst hP hw hK
    obtain ⟨xs, hq, hx⟩ := hg
    obtain ⟨its, rv, p, hz⟩ := I.list hq
    obtain ⟨f0, f1, f2, f3, f4, f5⟩ := hf it (by simp)
    have hl := rv.length
    exact wpAny_pyNext_list_end (I.ok.hd hc) st p.isList (by simp; omega) fun h' eb => ⟨rfl, I.turned (t' := s.toks) (fun b o hb e => eb b o hb e) f0 f1 f3 f4 f5⟩
  self := fun _ _ _ _ _ st h => wpAny_pyIter_listiter st h
theorem turn_range {P : Program} {w : World} {K : PySem.W.Frag} {tg : Expr} (it : Addr) (lo : Int) (n : Nat) : Turn P w K tg (Itr lo n) [it] it (fun i h => IsRangeIter h it (lo + (i : Nat) * 1) ((n : Int) - (i : Nat)) 1) where
  mem := by simp
  obj := fun i h st b hb => by
    have e : b = it := by simpa using hb
    subst e
    exact ⟨_, st, fun v z => by
      have z' : Data.fields _ = Data.cell v := z
      cases z'⟩
  keep := fun i h h' st k => k it (by simp) _ st
  item := by
    intro X hP hw hK hc i pins s σ H E I hf st hg
    subst hP hw hK
    obtain ⟨f0, f1, f2, f3, f4, f5⟩ := hf it (by simp)
    have W := Walks.range (prog := X.prog) (w := X.w) (I.ok.hd hc) it lo 1 n
    refine W.item i s _ _ hg st fun v h' tk hv st' kk => ?_
    obtain ⟨t, rfl⟩ := hv
    have I1 : Inv X pins σ H { s with heap := h', toks := tk } := I.turned (fun b o hb e => kk b o (by simpa using hb) e) f0 f1 f3 f4 f5
    refine ⟨_, rfl, go_of (s := { s with heap := h', toks := tk }) (n := "range_iterator") st' rfl rfl (by decide) ⟨.int (lo + i), H, I1, ⟨t, ?_⟩, ⟨rfl, rfl⟩, st', fun b hb => (hf b hb).1⟩⟩
    rw [Int.mul_one]
  done := by
    intro X hP hw hK hc i pins s σ H E I hf st hg
    subst hP hw hK
    obtain ⟨f0, f1, f2, f3, f4, f5⟩ := hf it (by simp)
    exact wpAny_pyNext_range_end (I.ok.hd hc) st (by have : n ≤ i := hg; omega) fun h' eb => ⟨rfl, I.turned (t' := s.toks) (fun b o hb e => eb b o hb e) f0 f1 f3 f4 f5⟩
  self := fun _ _ _ _ _ st h => wpAny_pyIter_rangeiter st h
end L2

namespace L2
open PySem PySem.Spec PyProof.Rows
section
variable {X : Cx} {tg : Expr}
def iList (K : PySem.W.Frag) (tl : TE) : TI := fun σ H R => tl σ H fun x H1 => ∃ a, x = .ref a ∧ (∃ xs, SqL K H1 a xs) ∧ R (Itl K a) H1
theorem pi_list {l : Expr} {tl : TE} (hl : PE X l tl) : PI X tg l (iList X.K tl) := by
  intro pins s σ H R I h
  refine thn (hl pins s σ H _ I h) fun v s1 ⟨x, H1, I1, r1, q1⟩ => ?_
  obtain ⟨a, e, ⟨xs, hq⟩, q⟩ := q1
  subst e
  cases r1
  obtain ⟨its, rv, p, hz⟩ := I1.list hq
  refine wpAny_pyIter_list p.isList ?_
  refine ⟨s1.heap.objs.size, [s1.heap.objs.size], _, _, H1, rfl, I1.kept (t' := s1.toks) fun b o e => Heap.get?_push_of_some _ e, turn_list a _, ⟨_, Heap.get?_push_size _ rfl, rfl, rfl⟩, fun b hb => ?_, q⟩
  have e : b = s1.heap.objs.size := by simpa using hb
  subst e
  exact I1.fpOk (Nat.le_refl _) (I1.hok.fresh (Nat.le_refl _))
theorem range_it {pins : List (Addr × Obj)} {σ : St} {H : Hp} {s : Shared} {R : It → Hp → Prop} {E : Value → Shared → Prop} {lo hi : Int} {t u v : Tok} {tk : Nat} (I : Inv X pins σ H s) (h1 : -(2 ^ 62) ≤ lo) (h2 : lo < 2 ^ 62) (h3 : -(2 ^ 62) ≤ hi) (h4 : hi < 2 ^ 62)
    (q : R (Itr lo (hi - lo).toNat) H) : wpAny (model X.prog X.w) X.A (pyIter (.ref s.heap.objs.size)) (PIE X pins σ tg R) E { s with heap := s.heap.push { cls := .type "range", data := .fields #[.int lo t, .int hi u, .int 1 v] }, toks := tk } := by
  refine wpAny_pyIter_range (IsRange.new ..) (small_one h1 h2 h3 h4) ?_
  have I1 : Inv X pins σ H { s with heap := s.heap.push { cls := .type "range", data := .fields #[.int lo t, .int hi u, .int 1 v] }, toks := tk } := I.kept fun b o e => Heap.get?_push_of_some _ e
  refine ⟨(s.heap.push { cls := .type "range", data := .fields #[.int lo t, .int hi u, .int 1 v] }).objs.size, [(s.heap.push { cls := .type "range", data := .fields #[.int lo t, .int hi u, .int 1 v] }).objs.size], _, _, H, rfl,
    I1.kept (t' := tk) fun b o e => Heap.get?_push_of_some _ e, turn_range _ lo (hi - lo).toNat, ?_, fun b hb => ?_, q⟩
  · have e1 : lo + ((0 : Nat) : Int) * 1 = lo := by simp
    have e2 : (((hi - lo).toNat : Nat) : Int) - ((0 : Nat) : Int) = Builtin.Range.rangeSize lo hi 1 := by rw [rangeSize_one]; split <;> omega
    show IsRangeIter _ _ (lo + ((0 : Nat) : Int) * 1) ((((hi - lo).toNat : Nat) : Int) - ((0 : Nat) : Int)) 1
    rw [e1, e2]
    exact Heap.get?_push_size _ rfl
  · have e : b = (s.heap.push { cls := .type "range", data := .fields #[.int lo t, .int hi u, .int 1 v] }).objs.size := by simpa using hb
    subst e
    exact I1.fpOk (Nat.le_refl _) (I1.hok.fresh (Nat.le_refl _))
def iRng1 (ta : TA) : TI := fun σ H R => ta σ H fun vs H1 => ∃ j : Int, vs = [.int j] ∧ -(2 ^ 62) ≤ j ∧ j < 2 ^ 62 ∧ R (Itr 0 j.toNat) H1
theorem pi_range1 {a : Expr} {ta : TA} {p pos : Pos} (hg : Gl X "range") (hm : X.mg "range" = none) (ha : PA X [a] ta) (hs : starEach [a] X.env = [(false, eval a X.env)] := by rfl) : PI X tg (.Call (.Name "range" p) [a] [] pos) (iRng1 ta) := by
  intro pins s σ H R I h
  refine Call_ (ld_blt I hg hm boot_range (PyProof.Rows.callWith_type1 (thn (ha pos pins s σ H _ I h) fun us s1 ⟨vs, H1, I1, r1, q1⟩ => ?_) hs rfl))
  obtain ⟨j, e, q1, q2, q⟩ := q1
  subst e
  cases r1 with
  | cons r rr =>
    cases rr
    obtain ⟨t, rfl⟩ := r
    exact call_range_1 (range_it I1 (by omega) (by omega) q1 q2 (by simpa using q))
def tFor (wi : TI) (g : TG) (tb : TS) : TS := fun D σ H => wi σ H fun J H1 => ∃ W : Nat → Nat → St → Hp → Prop, (∃ m, W 0 m σ H1) ∧ ∀ i m σ H, W i m σ H →
  (J.stop i H ∧ D.nx σ H) ∨ (J.go i H ∧ ∃ N : St → Hp → Prop, (∀ σ' H', N σ' H' → ∃ m', m' < m ∧ W (i + 1) m' σ' H') ∧ ∀ x H', J.yld i H x H' → g x σ H' fun σ2 H2 => tb { D with nx := N, ct := N, bk := D.nx } σ2 H2)
def pinsAt (fp : List Addr) (h : Heap) : List (Addr × Obj) := fp.filterMap fun b => (h.get? b).map fun o => (b, o)
theorem mem_pinsAt {fp : List Addr} {h : Heap} {b : Addr} {o : Obj} (hb : b ∈ fp) (e : h.get? b = some o) : (b, o) ∈ pinsAt fp h := List.mem_filterMap.mpr ⟨b, hb, by rw [e]; rfl⟩
theorem of_pinsAt {fp : List Addr} {h : Heap} {p : Addr × Obj} (hp : p ∈ pinsAt fp h) : p.1 ∈ fp ∧ h.get? p.1 = some p.2 := by
  obtain ⟨b, hb, e⟩ := List.mem_filterMap.mp hp
  cases q : h.get? b with
  | none => rw [q] at e; cases e
  | some o =>
    rw [q] at e
    have e' : (b, o) = p := Option.some.inj e
    subst e'
    exact ⟨hb, q⟩
theorem Inv.pinned {pins : List (Addr × Obj)} {σ : St} {H : Hp} {s : Shared} {fp : List Addr} (I : Inv X pins σ H s) (hf : ∀ b ∈ fp, FpOk X pins H b) (ho : ∀ b ∈ fp, ∃ o, s.heap.get? b = some o ∧ ∀ v, o.data ≠ .cell v) : Inv X (pins ++ pinsAt fp s.heap) σ H s :=
  I.pins_of fun p hp => (List.mem_append.mp hp).elim (fun z => I.pin p (List.mem_append_right _ z)) fun z => by
    obtain ⟨hb, e⟩ := of_pinsAt z
    obtain ⟨f0, f1, f2, _⟩ := hf p.1 hb
    obtain ⟨o, e', d⟩ := ho p.1 hb
    rw [e] at e'; cases e'
    exact ⟨e, f0, f1, f2, d⟩
theorem Inv.unpinned {pins pl : List (Addr × Obj)} {σ : St} {H : Hp} {s : Shared} (I : Inv X (pins ++ pl) σ H s) : Inv X pins σ H s := I.pins_of fun p hp => I.pin p (List.mem_append_right _ (List.mem_append_left _ hp))
theorem ps_for {iter : Expr} {body : List Stmt} {wi : TI} {g : TG} {tb : TS} {pos : Pos} (hp : PassesOwn (model X.prog X.w) X.A X.env X.xe) (hc : X.calm = true) (hi : PI X tg iter wi) (hg : PG X tg g) (hb : PSs X body tb)
    (hs : ∀ x, foldedSetIterable iter X.env x = pure x := by intro _; rfl) : PS X (.For tg iter body [] pos) (tFor wi g tb) := by
  intro pins s σ H D I h
  refine wpAny_For (thn (hi pins s σ H _ I h) fun v s1 h1 => thn h1 fun itv s2 h2 => ?_) hs
  obtain ⟨it, fp, tn, J, H2, e, I2, T, st2, f2, W, ⟨m0, w0⟩, turn⟩ := h2
  subst e
  have stat : ∀ {H' : Hp}, (∀ b ∈ fp, H' b = none) → ∀ b ∈ fp, FpOk X pins H' b := fun hn b hb => ⟨hn b hb, (f2 b hb).2⟩
  refine codeAny_forLoop_any (fun n s' => ∃ i σ' H', Inv X pins σ' H' s' ∧ tn i s'.heap ∧ (∀ b ∈ fp, H' b = none) ∧ W i n σ' H') ?_ m0 ⟨0, σ, H2, I2, st2, fun b hb => (f2 b hb).1, w0⟩
  rintro n s3 ⟨i, σ3, H3, I3, st3, fr3, w3⟩
  rcases turn i n σ3 H3 w3 with ⟨stop, qn⟩ | ⟨go, N, hN, step⟩
  · refine wpAny_passesOwn hp (thn (T.done X rfl rfl rfl hc i pins s3 σ3 H3 X.xe I3 (stat fr3) st3 stop) fun r s4 ⟨hr, I4⟩ => ?_)
    subst hr
    exact wpAny_execs_nil ⟨σ3, H3, I4, qn⟩
  · refine wpAny_passesOwn hp (thn (T.item X rfl rfl rfl hc i pins s3 σ3 H3 X.xe I3 (stat fr3) st3 go) fun r s4 ⟨u, hr, h4⟩ => ?_)
    subst hr
    refine wpAny_passesOwn hp (thn h4 fun _ s5 ⟨x, H5, I5, r5, y5, st5, fr5⟩ => ?_)
    have I5' := I5.pinned (stat fr5) (T.obj _ _ st5)
    refine wpAny_passesOwn hp (thn (hg _ s5 σ3 H5 x u _ I5' r5 (step x H5 y5)) fun _ s6 ⟨σ6, H6, I6, q6⟩ => ?_)
    refine wpAny_passesOwn hp (thn (hb _ s6 σ6 H6 _ I6 q6) fun f s7 q7 => ?_)
    have again : ∀ {σ7 : St} {H7 : Hp}, Inv X (pins ++ pinsAt fp s5.heap) σ7 H7 s7 → N σ7 H7 → ∃ m, m < n ∧ ∃ i σ' H', Inv X pins σ' H' s7 ∧ tn i s7.heap ∧ (∀ b ∈ fp, H' b = none) ∧ W i m σ' H' := fun {σ7 H7} I7 n7 => by
      obtain ⟨m', hm, w7⟩ := hN σ7 H7 n7
      refine ⟨m', hm, i + 1, σ7, H7, I7.unpinned, T.keep _ _ _ st5 fun b hb o e => (I7.pin (b, o) (List.mem_append_right _ (List.mem_append_right _ (mem_pinsAt hb e)))).1, fun b hb => ?_, w7⟩
      obtain ⟨o, e, d⟩ := T.obj _ _ st5 b hb
      exact (I7.pin (b, o) (List.mem_append_right _ (List.mem_append_right _ (mem_pinsAt hb e)))).2.1
    cases f with
    | next => obtain ⟨σ7, H7, I7, n7⟩ := q7; exact again I7 n7
    | cont => obtain ⟨σ7, H7, I7, n7⟩ := q7; exact again I7 n7
    | brk => obtain ⟨σ7, H7, I7, q7⟩ := q7; exact ⟨σ7, H7, I7.unpinned, q7⟩
    | ret v => obtain ⟨x7, σ7, H7, I7, r7, q7⟩ := q7; exact ⟨x7, σ7, H7, I7.unpinned, r7, q7⟩
end

theorem for_list {K : PySem.W.Frag} {a : Addr} {xs : List V} {g : TG} {tb : TS} {D : Ends} {σ : St} {H : Hp} (Pv : Nat → St → Hp → Prop) (h0 : Pv 0 σ H) (hl : ∀ i σ H, i ≤ xs.length → Pv i σ H → SqL K H a xs)
    (hs : ∀ i x σ H, xs[i]? = some x → Pv i σ H → g x σ H fun σ2 H2 => tb { D with nx := Pv (i + 1), ct := Pv (i + 1), bk := D.nx } σ2 H2) (hd : ∀ σ H, Pv xs.length σ H → D.nx σ H) :
    ∃ W : Nat → Nat → St → Hp → Prop, (∃ m, W 0 m σ H) ∧ ∀ i m σ H, W i m σ H →
      ((Itl K a).stop i H ∧ D.nx σ H) ∨ ((Itl K a).go i H ∧ ∃ N : St → Hp → Prop, (∀ σ' H', N σ' H' → ∃ m', m' < m ∧ W (i + 1) m' σ' H') ∧ ∀ x H', (Itl K a).yld i H x H' → g x σ H' fun σ2 H2 => tb { D with nx := N, ct := N, bk := D.nx } σ2 H2) := by
  refine ⟨fun i m σ H => m = xs.length - i ∧ i ≤ xs.length ∧ Pv i σ H, ⟨xs.length, by simp, Nat.zero_le _, h0⟩, ?_⟩
  rintro i m σ H ⟨rfl, hi, p⟩
  have q := hl i σ H hi p
  by_cases hlt : i < xs.length
  · refine .inr ⟨⟨xs, xs[i], q, by simp [hlt]⟩, Pv (i + 1), fun σ' H' p' => ⟨xs.length - (i + 1), by omega, rfl, hlt, p'⟩, fun x H' y => ?_⟩
    obtain ⟨e, y⟩ := y
    subst e
    exact hs i x σ _ (y xs q) p
  · have e : i = xs.length := by omega
    subst e
    exact .inl ⟨⟨xs, q, Nat.le_refl _⟩, hd σ H p⟩
theorem for_range {lo : Int} {n : Nat} {g : TG} {tb : TS} {D : Ends} {σ : St} {H : Hp} (Pv : Nat → St → Hp → Prop) (h0 : Pv 0 σ H)
    (hs : ∀ i σ H, i < n → Pv i σ H → g (.int (lo + i)) σ H fun σ2 H2 => tb { D with nx := Pv (i + 1), ct := Pv (i + 1), bk := D.nx } σ2 H2) (hd : ∀ σ H, Pv n σ H → D.nx σ H) :
    ∃ W : Nat → Nat → St → Hp → Prop, (∃ m, W 0 m σ H) ∧ ∀ i m σ H, W i m σ H →
      ((Itr lo n).stop i H ∧ D.nx σ H) ∨ ((Itr lo n).go i H ∧ ∃ N : St → Hp → Prop, (∀ σ' H', N σ' H' → ∃ m', m' < m ∧ W (i + 1) m' σ' H') ∧ ∀ x H', (Itr lo n).yld i H x H' → g x σ H' fun σ2 H2 => tb { D with nx := N, ct := N, bk := D.nx } σ2 H2) := by
  refine ⟨fun i m σ H => m = n - i ∧ i ≤ n ∧ Pv i σ H, ⟨n, by simp, Nat.zero_le _, h0⟩, ?_⟩
  rintro i m σ H ⟨rfl, hi, p⟩
  by_cases hlt : i < n
  · refine .inr ⟨hlt, Pv (i + 1), fun σ' H' p' => ⟨n - (i + 1), by omega, rfl, hlt, p'⟩, fun x H' y => ?_⟩
    obtain ⟨e, y⟩ := y
    subst e y
    exact hs i σ _ hlt p
  · have e : i = n := by omega
    subst e
    exact .inl ⟨Nat.le_refl _, hd σ H p⟩
theorem while_by {c : TT} {tb : TS} {D : Ends} {σ : St} {H : Hp} (Pv : St → Hp → Prop) (μ : St → Hp → Nat) (h0 : Pv σ H)
    (hs : ∀ σ H, Pv σ H → c σ H fun b H1 => if b = true then tb { D with nx := fun σ' H' => Pv σ' H' ∧ μ σ' H' < μ σ H, ct := fun σ' H' => Pv σ' H' ∧ μ σ' H' < μ σ H, bk := D.nx } σ H1 else D.nx σ H1)
    (mono : ∀ σ H Q Q', (∀ b H1, Q b H1 → Q' b H1) → c σ H Q → c σ H Q') : tWhile c tb D σ H := by
  refine ⟨fun m σ H => m = μ σ H ∧ Pv σ H, ⟨_, rfl, h0⟩, ?_⟩
  rintro m σ H ⟨rfl, p⟩
  refine mono σ H _ _ (fun b H1 q => ?_) (hs σ H p)
  cases b with
  | true => exact ⟨_, fun σ' H' ⟨p', l⟩ => ⟨_, l, rfl, p'⟩, q⟩
  | false => exact q
end L2

namespace L2
open PySem PySem.Spec PyProof.Rows

abbrev R2 := V → V → Hp → VK → Prop
def OpR (X : Cx) (f : Value → Value → Sem Value) (r : R2) : Prop :=
  ∀ (pins : List (Addr × Obj)) (s : Shared) (σ : St) (H : Hp) (x y : V) (v u : Value) (Q : VK), Inv X pins σ H s → RelV x v → RelV y u → r x y H Q →
    wpAny (model X.prog X.w) X.A (f v u) (EP X pins σ Q) X.xe s
def UnR (X : Cx) (f : Value → Sem Value) (r : V → Hp → VK → Prop) : Prop :=
  ∀ (pins : List (Addr × Obj)) (s : Shared) (σ : St) (H : Hp) (x : V) (v : Value) (Q : VK), Inv X pins σ H s → RelV x v → r x H Q →
    wpAny (model X.prog X.w) X.A (f v) (EP X pins σ Q) X.xe s
def CallR (X : Cx) (f : Value) (r : List V → Hp → VK → Prop) : Prop :=
  ∀ (pins : List (Addr × Obj)) (s : Shared) (σ : St) (H : Hp) (xs : List V) (us : List Value) (Q : VK), Inv X pins σ H s → Vals xs us → r xs H Q →
    wpAny (model X.prog X.w) X.A (call f us) (EP X pins σ Q) X.xe s
def tOp (r : R2) (ta tb : TE) : TE := fun σ H Q => ta σ H fun x H1 => tb σ H1 fun y H2 => r x y H2 Q
def tUn (r : V → Hp → VK → Prop) (ta : TE) : TE := fun σ H Q => ta σ H fun x H1 => r x H1 Q
def rI (C : Int → Int → Prop) (g : Int → Int → V) : R2 := fun x y H Q => ∃ i j, x = .int i ∧ y = .int j ∧ C i j ∧ Q (g i j) H
def rI0 (g : Int → Int → V) : R2 := fun x y H Q => ∃ i j, x = .int i ∧ y = .int j ∧ Q (g i j) H
def rU (g : Int → V) : V → Hp → VK → Prop := fun x H Q => ∃ i, x = .int i ∧ Q (g i) H

section
variable {X : Cx} {a b c : Expr} {ta tb tc : TE} {pos : Pos}

theorem binT (ha : PE X a ta) (hb : PE X b tb) {pins : List (Addr × Obj)} {s : Shared} {σ : St} {H : Hp} {R : V → V → Hp → Prop} (I : Inv X pins σ H s)
    (h : ta σ H fun x H1 => tb σ H1 fun y H2 => R x y H2) {Q : Value → Shared → Prop} {f : Value → Value → Sem Value}
    (hf : ∀ v u s2 x y H2, Inv X pins σ H2 s2 → RelV x v → RelV y u → R x y H2 → wpAny (model X.prog X.w) X.A (f v u) Q X.xe s2) :
    wpAny (model X.prog X.w) X.A (eval a X.env) (fun v s₁ => wpAny (model X.prog X.w) X.A (eval b X.env) (fun u s₂ => wpAny (model X.prog X.w) X.A (f v u) Q X.xe s₂) X.xe s₁) X.xe s := by
  refine thn (ha pins s σ H _ I h) fun v s1 ⟨x, H1, I1, r1, q1⟩ => ?_
  refine thn (hb pins s1 σ H1 _ I1 q1) fun u s2 ⟨y, H2, I2, r2, q2⟩ => ?_
  exact hf v u s2 x y H2 I2 r1 r2 q2

theorem pe_op {op : Operator} {r : R2} (ho : OpR X (binaryOp op) r) (ha : PE X a ta) (hb : PE X b tb) : PE X (.BinOp a op b pos) (tOp r ta tb) := by
  intro pins s σ H Q I h
  exact wpAny_BinOp (binT ha hb I h fun v u s2 x y H2 I2 rx ry q => ho pins s2 σ H2 x y v u Q I2 rx ry q)
theorem pe_un {op : UnaryOp} {r : V → Hp → VK → Prop} (ho : UnR X (unaryOp op) r) (ha : PE X a ta) : PE X (.UnaryOp op a pos) (tUn r ta) := by
  intro pins s σ H Q I h
  exact UnaryOp_ (thn (ha pins s σ H _ I h) fun v s1 ⟨x, H1, I1, r1, q1⟩ => ho pins s1 σ H1 x v Q I1 r1 q1)
theorem opI {f : Value → Value → Sem Value} {C : Int → Int → Prop} {g : Int → Int → Int}
    (rule : ∀ (i j : Int) (t u : Tok) (s : Shared) (Q : Value → Shared → Prop) (E : Value → Shared → Prop), C i j → Q (.int (g i j) s.toks) { s with toks := s.toks + 1 } → wpAny (model X.prog X.w) X.A (f (.int i t) (.int j u)) Q E s) :
    OpR X f (rI C fun i j => .int (g i j)) := by
  intro pins s σ H x y v u Q I rx ry h
  obtain ⟨i, j, rfl, rfl, hc, q⟩ := h
  obtain ⟨t, rfl⟩ := rx
  obtain ⟨t', rfl⟩ := ry
  exact rule i j t t' s _ _ hc ⟨.int (g i j), H, I.tok _, ⟨_, rfl⟩, q⟩
theorem opI0 {f : Value → Value → Sem Value} {g : Int → Int → Int}
    (rule : ∀ (i j : Int) (t u : Tok) (s : Shared) (Q : Value → Shared → Prop) (E : Value → Shared → Prop), Q (.int (g i j) s.toks) { s with toks := s.toks + 1 } → wpAny (model X.prog X.w) X.A (f (.int i t) (.int j u)) Q E s) :
    OpR X f (rI0 fun i j => .int (g i j)) := by
  intro pins s σ H x y v u Q I rx ry h
  obtain ⟨i, j, rfl, rfl, q⟩ := h
  obtain ⟨t, rfl⟩ := rx
  obtain ⟨t', rfl⟩ := ry
  exact rule i j t t' s _ _ ⟨.int (g i j), H, I.tok _, ⟨_, rfl⟩, q⟩
theorem opB0 {f : Value → Value → Sem Value} {g : Int → Int → Bool}
    (rule : ∀ (i j : Int) (t u : Tok) (s : Shared) (Q : Value → Shared → Prop) (E : Value → Shared → Prop), Q (.bool (g i j)) s → wpAny (model X.prog X.w) X.A (f (.int i t) (.int j u)) Q E s) :
    OpR X f (rI0 fun i j => .bl (g i j)) := by
  intro pins s σ H x y v u Q I rx ry h
  obtain ⟨i, j, rfl, rfl, q⟩ := h
  obtain ⟨t, rfl⟩ := rx
  obtain ⟨t', rfl⟩ := ry
  exact rule i j t t' s _ _ ⟨.bl (g i j), H, I, rfl, q⟩

def CDiv (i j : Int) : Prop := 0 < j ∧ j < 1073741824
def CPow (i j : Int) : Prop := 0 ≤ j ∧ j ≤ 1000000 ∧ i.natAbs < 2 ^ 64
def CMul (i j : Int) : Prop := (-(2 ^ 64) < i ∧ i < 2 ^ 64) ∨ (-(2 ^ 64) < j ∧ j < 2 ^ 64)
theorem CMul.ok {i j : Int} (h : CMul i j) : IntMulOk i j := by
  rcases h with ⟨h1, h2⟩ | ⟨h1, h2⟩
  · exact .of_left (intBits_le_64 h1 h2)
  · exact .of_right (intBits_le_64 h1 h2)
theorem op_add : OpR X (binaryOp .Add) (rI0 fun i j => .int (i + j)) := opI0 fun _ _ _ _ _ _ _ q => add_int q
theorem op_sub : OpR X (binaryOp .Sub) (rI0 fun i j => .int (i - j)) := opI0 fun _ _ _ _ _ _ _ q => sub_int q
theorem op_fdiv : OpR X (binaryOp .FloorDiv) (rI CDiv fun i j => .int (i / j)) := opI fun i j _ _ _ _ _ hc q => by
  have h1 : (0 : Int) < j := hc.1
  have h2 : j < 1073741824 := hc.2
  exact floordiv_int (by omega) (by rw [Int.fdiv_eq_ediv_of_nonneg i (by omega)]; exact q) (.inl (PyProof.noPylong_small (by omega)))
theorem op_mod : OpR X (binaryOp .Mod) (rI (fun _ j => 0 < j) fun i j => .int (i % j)) := opI fun i j _ _ _ _ _ hc q => by
  have h1 : (0 : Int) < j := hc
  exact mod_int' (by omega) (by rw [Int.fmod_eq_emod_of_nonneg i (by omega)]; exact q)
theorem op_pow : OpR X (binaryOp .Pow) (rI CPow fun i j => .int (i ^ j.toNat)) := opI fun _ _ _ _ _ _ _ hc q => pow_int_small hc.1 hc.2.1 hc.2.2 q
theorem unI {f : Value → Sem Value} {g : Int → Int}
    (rule : ∀ (i : Int) (t : Tok) (s : Shared) (Q : Value → Shared → Prop) (E : Value → Shared → Prop), Q (.int (g i) s.toks) { s with toks := s.toks + 1 } → wpAny (model X.prog X.w) X.A (f (.int i t)) Q E s) :
    UnR X f (rU fun i => .int (g i)) := by
  intro pins s σ H x v Q I rx h
  obtain ⟨i, rfl, q⟩ := h
  obtain ⟨t, rfl⟩ := rx
  exact rule i t s _ _ ⟨.int (g i), H, I.tok _, ⟨_, rfl⟩, q⟩
theorem un_neg : UnR X (unaryOp .USub) (rU fun i => .int (-i)) := unI fun _ _ _ _ _ q => neg_int q
end

def scal : V → V → Bool
  | .non, .non => true | .non, .int _ => true | .int _, .non => true | .non, .bl _ => true | .bl _, .non => true | .non, .str _ => true | .str _, .non => true
  | .int _, .int _ => true | .bl _, .bl _ => true | .str _, .str _ => true | .byt _, .byt _ => true
  | .int _, .str _ => true | .str _, .int _ => true | .bl _, .str _ => true | .str _, .bl _ => true
  | _, _ => false
def rEq : R2 := fun x y H Q => scal x y = true ∧ Q (.bl (decide (x = y))) H
def rNe : R2 := fun x y H Q => scal x y = true ∧ Q (.bl (!decide (x = y))) H

theorem dec_int {i j : Int} : decide (V.int i = V.int j) = (i == j) := by
  rw [Bool.eq_iff_iff]
  simp
theorem dec_bl {i j : Bool} : decide (V.bl i = V.bl j) = (i == j) := by
  rw [Bool.eq_iff_iff]
  simp
theorem dec_str {i j : Str} : decide (V.str i = V.str j) = (i == j) := by
  rw [Bool.eq_iff_iff]
  simp
theorem dec_byt {i j : Array UInt8} : decide (V.byt i = V.byt j) = (i.toList == j.toList) := by
  rw [Bool.eq_iff_iff]
  cases i
  cases j
  simp

section
variable {X : Cx} {a b c : Expr} {ta tb tc : TE} {pos : Pos}
theorem fin_bl {pins : List (Addr × Obj)} {σ : St} {H : Hp} {s : Shared} {Q : VK} {k k' : Bool} (I : Inv X pins σ H s) (q : Q (.bl k) H) (e : k = k') : EP X pins σ Q (.bool k') s := by
  subst e
  exact ⟨.bl k, H, I, rfl, q⟩
theorem op_eq : OpR X (compareOp .Eq) rEq := by
  intro pins s σ H x y v u Q I rx ry h
  obtain ⟨hs, q⟩ := h
  cases x with
  | non =>
    cases rx
    cases y with
    | non => cases ry; exact PySem.EqNone.eq_none_none (fin_bl I q (by simp))
    | bl j => cases ry; exact PySem.EqNone.eq_none_bool (fin_bl I q (by simp))
    | int j => obtain ⟨t', rfl⟩ := ry; exact PySem.EqNone.eq_none_int (fin_bl I q (by simp))
    | str j => obtain ⟨t', rfl⟩ := ry; exact PySem.EqNone.eq_none_str (fin_bl I q (by simp))
    | _ => exact absurd (show false = true from hs) Bool.false_ne_true
  | bl i =>
    cases rx
    cases y with
    | non => cases ry; exact PySem.EqNone.eq_bool_none (fin_bl I q (by simp))
    | bl j => cases ry; exact eq_bool (fin_bl I q dec_bl)
    | str j => obtain ⟨t', rfl⟩ := ry; exact PySem.EqMixed.eq_bool_str (fin_bl I q (by simp))
    | _ => exact absurd (show false = true from hs) Bool.false_ne_true
  | int i =>
    obtain ⟨t, rfl⟩ := rx
    cases y with
    | non => cases ry; exact PySem.EqNone.eq_int_none (fin_bl I q (by simp))
    | int j => obtain ⟨t', rfl⟩ := ry; exact eq_int (fin_bl I q dec_int)
    | str j => obtain ⟨t', rfl⟩ := ry; exact PySem.EqMixed.eq_int_str (fin_bl I q (by simp))
    | _ => exact absurd (show false = true from hs) Bool.false_ne_true
  | str i =>
    obtain ⟨t, rfl⟩ := rx
    cases y with
    | non => cases ry; exact PySem.EqNone.eq_str_none (fin_bl I q (by simp))
    | bl j => cases ry; exact PySem.EqMixed.eq_str_bool (fin_bl I q (by simp))
    | int j => obtain ⟨t', rfl⟩ := ry; exact PySem.EqMixed.eq_str_int (fin_bl I q (by simp))
    | str j => obtain ⟨t', rfl⟩ := ry; exact eq_str (fin_bl I q dec_str)
    | _ => exact absurd (show false = true from hs) Bool.false_ne_true
  | byt i =>
    obtain ⟨t, rfl⟩ := rx
    cases y with
    | byt j => obtain ⟨t', rfl⟩ := ry; exact PySem.W.eq_bytes (fin_bl I q dec_byt)
    | _ => exact absurd (show false = true from hs) Bool.false_ne_true
  | _ => cases y <;> exact absurd (show false = true from hs) Bool.false_ne_true
theorem op_ne : OpR X (compareOp .NotEq) rNe := by
  intro pins s σ H x y v u Q I rx ry h
  obtain ⟨hs, q⟩ := h
  cases x with
  | non =>
    cases rx
    cases y with
    | non => cases ry; exact PySem.EqNone.ne_none_none (fin_bl I q (by simp))
    | bl j => cases ry; exact PySem.EqNone.ne_none_bool (fin_bl I q (by simp))
    | int j => obtain ⟨t', rfl⟩ := ry; exact PySem.EqNone.ne_none_int (fin_bl I q (by simp))
    | str j => obtain ⟨t', rfl⟩ := ry; exact PySem.EqNone.ne_none_str (fin_bl I q (by simp))
    | _ => exact absurd (show false = true from hs) Bool.false_ne_true
  | bl i =>
    cases rx
    cases y with
    | non => cases ry; exact PySem.EqNone.ne_bool_none (fin_bl I q (by simp))
    | bl j => cases ry; exact ne_bool (fin_bl I q (congrArg not dec_bl))
    | str j => obtain ⟨t', rfl⟩ := ry; exact PySem.EqMixed.ne_bool_str (fin_bl I q (by simp))
    | _ => exact absurd (show false = true from hs) Bool.false_ne_true
  | int i =>
    obtain ⟨t, rfl⟩ := rx
    cases y with
    | non => cases ry; exact PySem.EqNone.ne_int_none (fin_bl I q (by simp))
    | int j => obtain ⟨t', rfl⟩ := ry; exact ne_int (fin_bl I q (congrArg not dec_int))
    | str j => obtain ⟨t', rfl⟩ := ry; exact PySem.EqMixed.ne_int_str (fin_bl I q (by simp))
    | _ => exact absurd (show false = true from hs) Bool.false_ne_true
  | str i =>
    obtain ⟨t, rfl⟩ := rx
    cases y with
    | non => cases ry; exact PySem.EqNone.ne_str_none (fin_bl I q (by simp))
    | bl j => cases ry; exact PySem.EqMixed.ne_str_bool (fin_bl I q (by simp))
    | int j => obtain ⟨t', rfl⟩ := ry; exact PySem.EqMixed.ne_str_int (fin_bl I q (by simp))
    | str j => obtain ⟨t', rfl⟩ := ry; exact ne_str (fin_bl I q (congrArg not dec_str))
    | _ => exact absurd (show false = true from hs) Bool.false_ne_true
  | byt i =>
    obtain ⟨t, rfl⟩ := rx
    cases y with
    | byt j => obtain ⟨t', rfl⟩ := ry; exact PySem.W.ne_bytes (fin_bl I q (congrArg not dec_byt))
    | _ => exact absurd (show false = true from hs) Bool.false_ne_true
  | _ => cases y <;> exact absurd (show false = true from hs) Bool.false_ne_true

theorem op_lt : OpR X (compareOp .Lt) (rI0 fun i j => .bl (decide (i < j))) := opB0 fun _ _ _ _ _ _ _ q => lt_int q
theorem op_le : OpR X (compareOp .LtE) (rI0 fun i j => .bl (decide (i ≤ j))) := opB0 fun _ _ _ _ _ _ _ q => le_int q
theorem op_gt : OpR X (compareOp .Gt) (rI0 fun i j => .bl (decide (j < i))) := opB0 fun _ _ _ _ _ _ _ q => gt_int q
theorem op_ge : OpR X (compareOp .GtE) (rI0 fun i j => .bl (decide (j ≤ i))) := opB0 fun _ _ _ _ _ _ _ q => ge_int q
theorem nomark (b : Expr) {op : CmpOp} (h : op ≠ .In := by decide) (h2 : op ≠ .NotIn := by decide) : behindInMarks op b = false := by
  have e1 : (op == CmpOp.In) = false := by cases op <;> first | rfl | exact absurd rfl h
  have e2 : (op == CmpOp.NotIn) = false := by cases op <;> first | rfl | exact absurd rfl h2
  cases b <;> simp [behindInMarks, e1, e2]
theorem pe_cmpR {op : CmpOp} {r : R2} (ho : OpR X (compareOp op) r) (ha : PE X a ta) (hb : PE X b tb) (hm : behindInMarks op b = false) : PE X (.Compare a [op] [b] pos) (tOp r ta tb) := by
  intro pins s σ H Q I h
  exact wpAny_Compare1 (binT ha hb I h fun v u s2 x y H2 I2 rx ry q => ho pins s2 σ H2 x y v u Q I2 rx ry q) hm
def tTest (t : TE) : TT := fun σ H Q => t σ H fun x H' => ∃ k, x = .bl k ∧ Q k H'
theorem pt_cmpR {op : CmpOp} {r : R2} (ho : OpR X (compareOp op) r) (ha : PE X a ta) (hb : PE X b tb) (hm : behindInMarks op b = false) : PT X (.Compare a [op] [b] pos) (tTest (tOp r ta tb)) := by
  intro pins s σ H Q I h
  refine wpAny_isTrue_Compare1 (thn (ha pins s σ H _ I h) fun v s1 ⟨x, H1, I1, r1, q1⟩ => thn (hb pins s1 σ H1 _ I1 q1) fun u s2 ⟨y, H2, I2, r2, q2⟩ =>
    thn (ho pins s2 σ H2 x y v u _ I2 r1 r2 q2) fun c s3 ⟨z, H3, I3, r3, k, e, q3⟩ => ?_) hm
  subst e
  cases r3
  exact wpAny_truthy_bool ⟨H3, I3, q3⟩
def tChain (r r' : R2) (ta tb tc : TE) : TE := fun σ H Q => ta σ H fun x H1 => tb σ H1 fun y H2 => r x y H2 fun z H3 => ∃ k, z = .bl k ∧
  (if k = true then tc σ H3 fun w' H4 => r' y w' H4 Q else Q (.bl false) H3)
theorem pe_chain {op op' : CmpOp} {r r' : R2} (ho : OpR X (compareOp op) r) (ho' : OpR X (compareOp op') r') (ha : PE X a ta) (hb : PE X b tb) (hc : PE X c tc)
    (hm : lastMarks [op, op'] [b, c] = false := by with_unfolding_all rfl) : PE X (.Compare a [op, op'] [b, c] pos) (tChain r r' ta tb tc) := by
  intro pins s σ H Q I h
  refine Compare_chain (thn (ha pins s σ H _ I h) fun v s1 ⟨x, H1, I1, r1, q1⟩ => chain_link (thn (hb pins s1 σ H1 _ I1 q1) fun u s2 ⟨y, H2, I2, r2, q2⟩ =>
    thn (ho pins s2 σ H2 x y v u _ I2 r1 r2 q2) fun d s3 ⟨z, H3, I3, r3, k, e, q3⟩ => ?_)) hm
  subst e
  cases r3
  refine wpAny_truthy_bool ?_
  cases k with
  | false => exact ite_ff ⟨.bl false, H3, I3, rfl, q3⟩
  | true => exact ite_tt (chain_last (thn (hc pins s3 σ H3 _ I3 q3) fun w' s4 ⟨z', H4, I4, r4, q4⟩ => ho' pins s4 σ H4 y z' u w' Q I4 r2 r4 q4))
theorem line63 : (sizeLine : Nat) < 2 ^ 63 := by rw [sizeLine_eq]; decide
theorem vals1 {x : V} {us : List Value} (r : Vals [x] us) : ∃ u, us = [u] ∧ RelV x u := by
  cases r with
  | cons r1 r2 => cases r2; exact ⟨_, rfl, r1⟩
theorem vals2 {x y : V} {us : List Value} (r : Vals [x, y] us) : ∃ u w', us = [u, w'] ∧ RelV x u ∧ RelV y w' := by
  cases r with
  | cons r1 r2 =>
    cases r2 with
    | cons r3 r4 => cases r4; exact ⟨_, _, rfl, r1, r3⟩
theorem call_min2 (hc : X.calm = true) : CallR X (.builtin "min") (fun xs H Q => ∃ i j, xs = [.int i, .int j] ∧ Q (.int (if j < i then j else i)) H) := by
  intro pins s σ H xs us Q I r h
  obtain ⟨i, j, rfl, q⟩ := h
  obtain ⟨u, w', rfl, ⟨t, rfl⟩, ⟨t', rfl⟩⟩ := vals2 r
  refine min_two_ints (I.ok.hd hc) fun h' tk k => ⟨_, H, I.kept k, ?_, q⟩
  by_cases hj : j < i
  · rw [if_pos hj, if_pos hj]; exact ⟨_, rfl⟩
  · rw [if_neg hj, if_neg hj]; exact ⟨_, rfl⟩
end
end L2

namespace L2
open PySem PySem.Spec PyProof.Rows

structure ObjM (h : Heap) (x dx C : Addr) (mA : Str → Option Value) : Prop where
  obj : h.get? x = some (PySem.W.instObj C dx)
  ns : h.Ns1 dx mA
  ne : dx ≠ x

theorem lookIn_ns {h : Heap} {dx : Addr} {mA : Str → Option Value} (n : h.Ns1 dx mA) : ∃ od, h.get? dx = some od ∧ ∀ name, PySem.W.lookIn name od = some (mA name) := by
  obtain ⟨o, es, ep, ho, hd, hk, _, hm⟩ := n
  refine ⟨o, ho, fun name => ?_⟩
  have e := hm name
  unfold nsFind findBy at e
  rw [← Array.find?_toList] at e
  unfold PySem.W.lookIn
  rw [hd]
  dsimp only
  split
  · rename_i y q
    rw [q] at e
    exact congrArg some e
  · rename_i q
    rw [q] at e
    have a : es.toList.any (·.refKey) = false := by
      rw [List.any_eq_false]
      intro y hy
      obtain ⟨z, t, hkey⟩ := hk y (Array.mem_toList_iff.mp hy)
      simp [DictEntry.refKey, hkey]
    have a' : ¬ es.toList.any (·.refKey) = true := by rw [a]; exact Bool.false_ne_true
    rw [if_neg a']
    exact congrArg some e

theorem ObjM.look {h : Heap} {x dx C : Addr} {mA : Str → Option Value} (I : ObjM h x dx C mA) : ∃ od, PySem.W.InstAt h x (PySem.W.instObj C dx) C (some od) ∧ ∀ name, PySem.W.lookIn name od = some (mA name) :=
  let ⟨od, ho, hl⟩ := lookIn_ns I.ns
  ⟨od, ⟨I.obj, rfl, rfl, ho⟩, hl⟩

section
variable {prog : Program} {w : World} {A : Around} {E : Value → Shared → Prop} {s : Shared} {K : PySem.W.Frag} {x dx C f : Addr} {mA : Str → Option Value} {name : Str} {v : Value}

theorem get_map {expr : Bool} {Q : Value → Shared → Prop} (X : K.In s.heap) (I : ObjM s.heap x dx C mA) (hg : PySem.W.plainGet K C name = true) (hh : PySem.W.hasDictIn K C = true)
    (ha : PySem.W.findIn K (.ref C) name = some none) (hv : mA name = some v) (hv' : PySem.W.handedIn v = true) (h : Q v { s with toks := s.toks + 1 }) :
    wpAny (model prog w) A (getAttr (.ref x) name expr) Q E s := by
  obtain ⟨od, J, hl⟩ := I.look
  exact PySem.W.get_value X J (PySem.W.plainGet_of hg).1 (PySem.W.findObj_own hh ha rfl (by rw [hl, hv])) hv' h

theorem set_map {ns : List Str} {Q : Unit → Shared → Prop} (X : K.In s.heap) (I : ObjM s.heap x dx C mA)
    (hs : PySem.W.findIn K (.ref C) "__setattr__" = some (some (.builtin "object.__setattr__"))) (hp : PySem.W.plainOver K C = true) (ht : PySem.W.takerIn K C name = some none) (hh : PySem.W.hasDictIn K C = true)
    (hw : PySem.Within mA ns) (hsz : ns.length ≤ sizeLine)
    (h : ∀ h', ObjM h' x dx C (fun y => if y = name then some v else mA y) → Heap.SameBut dx s.heap h' → Q () { s with heap := h', toks := s.toks + 2 }) :
    wpAny (model prog w) A (setAttr (.ref x) name v) Q E s := by
  obtain ⟨od, J, hl⟩ := I.look
  refine PySem.W.set_plain X J hs (PySem.W.osa_open (s := { s with toks := s.toks + 1 }) (r := none) X J hp ht fun b => ?_)
  obtain ⟨cd, hc, hd'⟩ := PySem.W.any_some hh
  have hx : s.heap.get? x = some ⟨.ref C, some dx, .plain, #[]⟩ := I.obj
  refine wpAny_bind (wpAny_pure (wpAny_bind (wpAny_bind (wpAny_loadPart hx (wpAny_bind (PySem.W.Looks.here (s := { s with toks := s.toks + 1 }) (PySem.W.looks_clsIn X hc) ?_))))))
  rw [hd']
  refine wpAny_pure (a := some dx) (wpAny_bind (wpAny_pure (wpAny_bind ?_)))
  refine wpAny_nsSet1 (s := { s with toks := s.toks + 1 }) I.ns fun h' hn2 hs2 => ?_
  obtain ⟨oD, esD, epD, hoD, hdD, hcD⟩ := hn2.count (PySem.Within.cons name v hw)
  refine wpAny_bind (wpAny_lookBehind hoD (by rw [hdD]; exact pastItsLine_dict (Nat.le_trans hcD (by rw [List.length_cons]; omega))) ?_)
  exact wpAny_pure (h _ ⟨(hs2.2 _ (Ne.symm I.ne)).trans I.obj, hn2, I.ne⟩ hs2)

theorem make_map {R : Result → Shared → Prop} {vs : List Value} {kw : List (Str × Value)} (X : K.In s.heap) (hm : PySem.W.makesIn K C = true)
    (hi : PySem.W.findIn K (.ref C) "__init__" = some (some (.ref f))) (hf : PySem.W.typeIn K (.ref f) = some (.type "function"))
    (h : codeAny (model prog w) (A.under (.builtin "type.__call__" ⟨.ref C :: vs, kw⟩)) (.call (.ref f) ⟨.ref (s.heap.objs.size + 1) :: vs, kw⟩) (PySem.W.InitBack (s.heap.objs.size + 1) R)
      { s with heap := (s.heap.push PySem.W.emptyDict).push (PySem.W.instObj C s.heap.objs.size) }) :
    codeAny (model prog w) A (.call (.ref C) ⟨vs, kw⟩) R s := by
  obtain ⟨hh, g, d, t, os⟩ := s
  exact PySem.W.make_core (PySem.W.makes_of X hm) (PySem.W.looks_findIn X hi) (fun self => PySem.W.bind_fn X self hf) (.inl rfl) h
end

def putF (f : Str) (v : V) : List (Str × V) → List (Str × V)
  | [] => [(f, v)]
  | (g, x) :: r => if g = f then (g, v) :: r else (g, x) :: putF f v r
theorem lookup_putF (f g : Str) (v : V) : ∀ fs : List (Str × V), (putF f v fs).lookup g = if g = f then some v else fs.lookup g
  | [] => by
    show List.lookup g [(f, v)] = _
    by_cases h : g = f
    · have hb : (g == f) = true := beq_iff_eq.mpr h
      simp only [List.lookup, hb, if_pos h]
    · have hb : (g == f) = false := beq_eq_false_iff_ne.mpr h
      simp only [List.lookup, hb, if_neg h]
  | (k, x) :: r => by
    have ih := lookup_putF f g v r
    rw [show putF f v ((k, x) :: r) = (if k = f then (k, v) :: r else (k, x) :: putF f v r) from rfl]
    by_cases hk : k = f
    · rw [if_pos hk]
      by_cases h : g = k
      · have hb : (g == k) = true := beq_iff_eq.mpr h
        simp only [List.lookup, hb, if_pos (h.trans hk)]
      · have hb : (g == k) = false := beq_eq_false_iff_ne.mpr h
        simp only [List.lookup, hb, if_neg (fun e : g = f => h (e.trans hk.symm))]
    · rw [if_neg hk]
      by_cases h : g = k
      · have hb : (g == k) = true := beq_iff_eq.mpr h
        simp only [List.lookup, hb, if_neg (fun e : g = f => hk (h.symm.trans e))]
      · have hb : (g == k) = false := beq_eq_false_iff_ne.mpr h
        simp only [List.lookup, hb]
        exact ih
theorem keys_putF (f : Str) (v : V) : ∀ fs : List (Str × V), f ∈ (putF f v fs).map (·.1) ∧ ∀ g, g ∈ fs.map (·.1) → g ∈ (putF f v fs).map (·.1)
  | [] => ⟨by simp [putF], fun g h => by simp at h⟩
  | (k, x) :: r => by
    obtain ⟨i1, i2⟩ := keys_putF f v r
    rw [show putF f v ((k, x) :: r) = (if k = f then (k, v) :: r else (k, x) :: putF f v r) from rfl]
    by_cases hk : k = f
    · rw [if_pos hk]
      subst hk
      exact ⟨by simp, fun g h => by simpa using h⟩
    · rw [if_neg hk]
      refine ⟨?_, fun g h => ?_⟩
      · rw [List.map_cons]
        exact List.mem_cons_of_mem _ i1
      · rw [List.map_cons] at h ⊢
        rcases List.mem_cons.mp h with e | e
        · exact List.mem_cons.mpr (.inl e)
        · exact List.mem_cons_of_mem _ (i2 g e)
theorem length_putF (f : Str) (v : V) : ∀ fs : List (Str × V), (putF f v fs).length ≤ fs.length + 1
  | [] => by simp [putF]
  | (k, x) :: r => by
    have ih := length_putF f v r
    rw [show putF f v ((k, x) :: r) = (if k = f then (k, v) :: r else (k, x) :: putF f v r) from rfl]
    by_cases hk : k = f
    · rw [if_pos hk, List.length_cons, List.length_cons]; omega
    · rw [if_neg hk, List.length_cons, List.length_cons]; omega

theorem RelO.some_of {v : V} {o : Option Value} (r : RelO (some v) o) : ∃ u, o = some u ∧ RelV v u := by
  cases o with
  | none => exact (show False from r).elim
  | some u => exact ⟨u, rfl, r⟩
theorem handed_of {v : V} {u : Value} (r : RelV v u) : PySem.W.handedIn u = true := by
  cases v with
  | non => cases (show u = Value.none from r); rfl
  | bl b => cases (show u = Value.bool b from r); rfl
  | int i => obtain ⟨t, e⟩ := (show ∃ t, u = Value.int i t from r); cases e; rfl
  | str x => obtain ⟨t, e⟩ := (show ∃ t, u = Value.str x t from r); cases e; rfl
  | byt b => obtain ⟨t, e⟩ := (show ∃ t, u = Value.bytes b t from r); cases e; rfl
  | flt b => obtain ⟨t, e⟩ := (show ∃ t, u = Value.float b t from r); cases e; rfl
  | ref a => cases (show u = Value.ref a from r); rfl
  | ty n => cases (show u = Value.type n from r); rfl

section
variable {P : Program} {w : World} {H H' : Hp} {h h' : Heap} {a C dx : Addr} {fs fs' : List (Str × V)}
theorem ins_get (hok : HOk P w H h) (e : H a = some (.ins C dx fs)) : ∃ mA, ObjM h a dx C mA ∧ (∀ f, RelO (fs.lookup f) (mA f)) ∧ PySem.Within mA (fs.map (·.1)) ∧ fs.length ≤ 1000 ∧ H dx = some (.own a) := by
  obtain ⟨d, z, ne, ob, mA, n, r, q⟩ := (show ObjOk P w H h a (.ins C dx fs) from hok a _ e)
  exact ⟨mA, ⟨ob, n, ne⟩, r, q, z, d⟩
end

structure Cls (K : PySem.W.Frag) (C : Addr) : Prop where
  pg : PySem.W.plainGet K C Str.empty = true
  hd : PySem.W.hasDictIn K C = true
  po : PySem.W.plainOver K C = true
  sa : PySem.W.findIn K (.ref C) "__setattr__" = some (some (.builtin "object.__setattr__"))
theorem Cls.get {K : PySem.W.Frag} {C : Addr} (c : Cls K C) (f : Str) : PySem.W.plainGet K C f = true := c.pg
def NoAttr (K : PySem.W.Frag) (C : Addr) (f : Str) : Prop := PySem.W.findIn K (.ref C) f = some none
theorem NoAttr.taker {K : PySem.W.Frag} {C : Addr} {f : Str} (n : NoAttr K C f) : PySem.W.takerIn K C f = some none := by
  unfold PySem.W.takerIn
  rw [show PySem.W.findIn K (.ref C) f = some none from n]
  rfl
section
variable {X : Cx} {pins : List (Addr × Obj)} {σ : St} {H : Hp} {s : Shared} {a C dx : Addr} {fs : List (Str × V)} {f : Str} {v : V} {A : Around} {E : Value → Shared → Prop}

theorem getattr_ok {b : Bool} {Q : Value → Shared → Prop} (I : Inv X pins σ H s) (e : H a = some (.ins C dx fs)) (c : Cls X.K C) (n : NoAttr X.K C f) (l : fs.lookup f = some v)
    (h : ∀ u s', Inv X pins σ H s' → RelV v u → Q u s') : wpAny (model X.prog X.w) A (getAttr (.ref a) f b) Q E s := by
  obtain ⟨mA, O, r, _, _, _⟩ := ins_get I.hok e
  obtain ⟨u, hu, ru⟩ := RelO.some_of (v := v) (o := mA f) (by rw [← l]; exact r f)
  exact get_map I.kIn O (c.get f) c.hd n hu (handed_of ru) (h u _ (I.tok _) ru)

theorem setattr_ok {y : V} {u : Value} {Q : Unit → Shared → Prop} (I : Inv X pins σ H s) (e : H a = some (.ins C dx fs)) (c : Cls X.K C) (n : NoAttr X.K C f) (hl : fs.length < 1000) (ry : RelV y u)
    (h : ∀ s', Inv X pins σ (upd H a (.ins C dx (putF f y fs))) s' → Q () s') : wpAny (model X.prog X.w) A (setAttr (.ref a) f u) Q E s := by
  obtain ⟨mA, O, r, wi, _, ho⟩ := ins_get I.hok e
  have hz : (fs.map (·.1)).length ≤ sizeLine := by rw [List.length_map, sizeLine_eq]; omega
  refine set_map I.kIn O c.sa c.po n.taker c.hd wi hz fun h' O' sb => h _ ?_
  have hd : ∃ o, h'.get? dx = some o := let ⟨o, _, _, e', _⟩ := O'.ns; ⟨o, e'⟩
  refine I.write (x := a) (e := dx) (by rw [e]; exact True.intro) (.inr ho) (fun b q hb z => (sb.2 b hb).trans z) hd ?_
  refine ⟨by rw [upd_ne O.ne]; exact ho, ?_, O.ne, O'.obj, _, O'.ns, fun g => ?_, fun g hg => ?_⟩
  · have := length_putF f y fs; omega
  · show RelO ((putF f y fs).lookup g) (if g = f then some u else mA g)
    rw [lookup_putF]
    by_cases q : g = f
    · rw [if_pos q, if_pos q]; exact ry
    · rw [if_neg q, if_neg q]; exact r g
  · by_cases q : g = f
    · rw [q]; exact (keys_putF f y fs).1
    · refine (keys_putF f y fs).2 g (wi g fun z => hg ?_)
      show (if g = f then some u else mA g) = none
      rw [if_neg q]; exact z

theorem Inv.made (I : Inv X pins σ H s) : Inv X pins σ (upd (upd H s.heap.objs.size (.own (s.heap.objs.size + 1))) (s.heap.objs.size + 1) (.ins C s.heap.objs.size []))
    { s with heap := (s.heap.push PySem.W.emptyDict).push (PySem.W.instObj C s.heap.objs.size) } := by
  have e1 : (s.heap.push PySem.W.emptyDict).get? s.heap.objs.size = some PySem.W.emptyDict := Heap.get?_push_size s.heap rfl
  have e2 : ((s.heap.push PySem.W.emptyDict).push (PySem.W.instObj C s.heap.objs.size)).get? (s.heap.objs.size + 1) = some (PySem.W.instObj C s.heap.objs.size) := by
    have := Heap.get?_push_size (s.heap.push PySem.W.emptyDict) (o := PySem.W.instObj C s.heap.objs.size) rfl
    rwa [Heap.size_push] at this
  have e3 : (s.heap.push PySem.W.emptyDict).Ns s.heap.objs.size (fun _ => none) := ⟨PySem.W.emptyDict, #[], _, e1, rfl, (fun e he => absurd he (by simp)), fun _ => rfl⟩
  have I1 := I.laid (a := s.heap.objs.size) (o := .own (s.heap.objs.size + 1)) (h' := s.heap.push PySem.W.emptyDict) (t' := s.toks) (fun b u q => Heap.get?_push_of_some _ q) (Nat.le_refl _) ⟨_, e1⟩
  refine I1.laid (a := s.heap.objs.size + 1) (o := .ins C s.heap.objs.size []) (t' := s.toks) (fun b u q => Heap.get?_push_of_some _ q) (Nat.le_of_eq (Heap.size_push _ _)) ?_
  have ne : s.heap.objs.size ≠ s.heap.objs.size + 1 := Nat.ne_of_lt (Nat.lt_succ_self _)
  refine ⟨by rw [upd_ne ne, upd_same], Nat.zero_le _, ne, e2, fun _ => none, (Heap.Ns1.of_empty e3).at fun o q => Heap.get?_push_of_some _ q, fun _ => True.intro, fun y hy => absurd rfl hy⟩

theorem attr_of {prog : Program} {w : World} {env : Env} {e : Expr} {f : Str} {pos : Pos} {s : Shared} {Q : Value → Shared → Prop} (hb : attributeBase e f env (eval e env) = eval e env)
    (h : wpAny (model prog w) A (eval e env) (fun o s₁ => wpAny (model prog w) A (getAttr o f true) Q E s₁) E s) : wpAny (model prog w) A (eval (.Attribute e f pos) env) Q E s :=
  Attribute_any_ h (by rw [arm_eval_Attribute, hb])
end

def tFld (K : PySem.W.Frag) (ta : TE) (f : Str) : TE := fun σ H Q => ta σ H fun x H1 => ∃ a C dx fs v, x = .ref a ∧ H1 a = some (.ins C dx fs) ∧ Cls K C ∧ NoAttr K C f ∧ fs.lookup f = some v ∧ Q v H1
def sFld (K : PySem.W.Frag) (ta tv : TE) (f : Str) : TS := fun D σ H => tv σ H fun y H1 => ta σ H1 fun x H2 => ∃ a C dx fs, x = .ref a ∧ H2 a = some (.ins C dx fs) ∧ Cls K C ∧ NoAttr K C f ∧ fs.length < 1000 ∧
  D.nx σ (upd H2 a (.ins C dx (putF f y fs)))
section
variable {X : Cx} {o e value : Expr} {f : Str} {pos pos' tpos : Pos} {ta tv : TE}
theorem pe_fld (he : PE X e ta) (hb : attributeBase e f X.env (eval e X.env) = eval e X.env) : PE X (.Attribute e f pos) (tFld X.K ta f) := by
  intro pins s σ H Q I h
  refine attr_of hb (thn (he pins s σ H _ I h) fun u s1 ⟨x, H1, I1, rx, a, C, dx, fs, v, ex, ea, c, n, l, q⟩ => ?_)
  subst ex
  obtain rfl : u = Value.ref a := rx
  exact getattr_ok I1 ea c n l fun u' s2 I2 ru => ⟨v, H1, I2, ru, q⟩
theorem ps_fld (ha : PE X o ta) (hv : PE X value tv) (hs : swapsWith value (some (.Attribute o f pos')) pos.line X.env = pure false) : PS X (.Assign [.Attribute o f pos'] value pos) (sFld X.K ta tv f) := by
  intro pins s σ H D I h
  refine plainObj_wpAny_Assign_Attribute (thn (hv pins s σ H _ I h) fun u s1 ⟨y, H1, I1, ry, q⟩ => thn (ha pins s1 σ H1 _ I1 q) fun ov s2 ⟨x, H2, I2, rx, a, C, dx, fs, ex, ea, c, n, l, q2⟩ => ?_) hs
  subst ex
  obtain rfl : ov = Value.ref a := rx
  exact setattr_ok I2 ea c n l ry fun s3 I3 => ⟨σ, _, I3, q2⟩
end

section
variable {X : Cx} {pins : List (Addr × Obj)} {σ : St} {H : Hp} {s : Shared} {A : Around} {E : Value → Shared → Prop} {Q : Value → Shared → Prop} {c : Value} {b : Bool}
inductive TyOf (K : PySem.W.Frag) (H : Hp) : V → Value → Prop where
  | non : TyOf K H .non (.type "NoneType")
  | bl (x : Bool) : TyOf K H (.bl x) (.type "bool")
  | int (i : Int) : TyOf K H (.int i) (.type "int")
  | str (x : Str) : TyOf K H (.str x) (.type "str")
  | flt (x : UInt64) : TyOf K H (.flt x) (.type "float")
  | lst {a : Addr} {xs : List V} (e : H a = some (.lst xs)) : TyOf K H (.ref a) (.type "list")
  | frz {a : Addr} {o : Obj} {xs : List V} (e : H a = some (.frz o (.lst xs))) : TyOf K H (.ref a) (.type "list")
  | tup {a : Addr} {xs : List V} (e : H a = some (.tup xs)) : TyOf K H (.ref a) (.type "tuple")
  | dK {a : Addr} {kvs : List (Key × V)} (e : H a = some (.dK kvs)) : TyOf K H (.ref a) (.type "dict")
  | dT {a : Addr} {kvs : List (List Key × V)} (e : H a = some (.dT kvs)) : TyOf K H (.ref a) (.type "dict")
  | ins {a C dx : Addr} {fs : List (Str × V)} (e : H a = some (.ins C dx fs)) (cl : Cls K C) (ha : PySem.W.findIn K (.ref C) "__class__" = some (some (.builtin "object.__class__")))
      (hn : PySem.W.specialIn K (.builtin "object.__class__") "__get__" = some (some (.builtin "getset_descriptor.__get__"))) (htk : PySem.W.takesIn K (.builtin "object.__class__") = some true)
      (hm : PySem.W.mroIn K C (.type "object") = some true) : TyOf K H (.ref a) (.ref C)
theorem isinst_ok {x : V} {u t : Value} (I : Inv X pins σ H s) (rx : RelV x u) (ty : TyOf X.K H x t) (e : PySem.W.kitOne X.K t c = some b) (h : ∀ tk, Q (.bool b) { s with toks := tk }) :
    wpAny (model X.prog X.w) A (call (.builtin "isinstance") [u, c]) Q E s := by
  cases ty with
  | non => cases (show u = Value.none from rx); exact PySem.W.kia_one PySem.W.kitx_none I.kIn True.intro e (fun z => nomatch z) h
  | bl y => cases (show u = Value.bool y from rx); exact PySem.W.kia_one PySem.W.kitx_bool I.kIn True.intro e (fun z => nomatch z) h
  | int i => obtain ⟨t, q⟩ := (show ∃ t, u = Value.int i t from rx); cases q; exact PySem.W.kia_one PySem.W.kitx_int I.kIn True.intro e (fun z => nomatch z) h
  | str y => obtain ⟨t, q⟩ := (show ∃ t, u = Value.str y t from rx); cases q; exact PySem.W.kia_one PySem.W.kitx_str I.kIn True.intro e (fun z => nomatch z) h
  | flt y => obtain ⟨t, q⟩ := (show ∃ t, u = Value.float y t from rx); cases q; exact PySem.W.kia_one PySem.W.kitx_float I.kIn True.intro e (fun z => nomatch z) h
  | @lst a xs ea =>
    cases (show u = Value.ref a from rx)
    obtain ⟨_, _, n, _, h1⟩ := (show ObjOk X.prog X.w H s.heap a (.lst xs) from I.hok a _ ea)
    exact PySem.W.kia_one PySem.W.kitx_list I.kIn ⟨_, h1, rfl⟩ e (fun z => nomatch z) h
  | @frz a ob xs ea =>
    cases (show u = Value.ref a from rx)
    obtain ⟨_, _, _, n, _, h1⟩ := (show ObjOk X.prog X.w H s.heap a (.frz ob (.lst xs)) from I.hok a _ ea)
    exact PySem.W.kia_one PySem.W.kitx_list I.kIn ⟨_, h1, rfl⟩ e (fun z => nomatch z) h
  | @tup a xs ea =>
    cases (show u = Value.ref a from rx)
    obtain ⟨_, _, _, p⟩ := (show ObjOk X.prog X.w H s.heap a (.tup xs) from I.hok a _ ea)
    obtain ⟨o, h1, h2, _⟩ := p
    exact PySem.W.kia_one PySem.W.kitx_tuple I.kIn ⟨o, h1, h2⟩ e (fun z => nomatch z) h
  | @dK a kvs ea =>
    cases (show u = Value.ref a from rx)
    obtain ⟨_, _, vs, _, p⟩ := (show ObjOk X.prog X.w H s.heap a (.dK kvs) from I.hok a _ ea)
    obtain ⟨o, es, ep, h1, h2, _⟩ := p
    exact PySem.W.kia_one PySem.W.kitx_dict I.kIn ⟨o, h1, h2.1⟩ e (fun z => nomatch z) h
  | @dT a kvs ea =>
    cases (show u = Value.ref a from rx)
    obtain ⟨_, _, xs, _, o, es, ep, h1, h2, _⟩ := (show ObjOk X.prog X.w H s.heap a (.dT kvs) from I.hok a _ ea)
    exact PySem.W.kia_one PySem.W.kitx_dict I.kIn ⟨o, h1, h2.1⟩ e (fun z => nomatch z) h
  | @ins a C dx fs ea cl ha hn htk hm =>
    cases (show u = Value.ref a from rx)
    obtain ⟨mA, O, _⟩ := ins_get I.hok ea
    obtain ⟨od, J, _⟩ := O.look
    exact PySem.W.kia_one (PySem.W.kitx_own (cl.get _) cl.hd ha hn htk hm) I.kIn J e (fun z => nomatch z) h
end
end L2

namespace L2
open PySem PySem.Spec PyProof.Rows

structure Room (k : Nat) (A : Around) : Prop where
  hd : A.handled = none
  dp : A.depth + 3 * k + 5 < recursionLimit
  un : A.units + 16 * k + 200 < cLine
theorem Room.mono {j k : Nat} {A : Around} (r : Room k A) (h : j ≤ k) : Room j A := ⟨r.hd, by have := r.dp; omega, by have := r.un; omega⟩
theorem Room.deeper {k : Nat} {A : Around} (r : Room (k + 1) A) (env : Env) : Room k (A.deeper env) :=
  ⟨r.hd, by have := r.dp; show A.depth + 1 + 3 * k + 5 < _; omega, by have := r.un; show A.units + 3 + 16 * k + 200 < _; omega⟩
theorem Room.in1 {k : Nat} {A : Around} (r : Room (k + 1) A) : Room k A.in1 :=
  ⟨r.hd, by have := r.dp; show A.depth + 3 * k + 5 < _; omega, by have := r.un; show A.units + 1 + 16 * k + 200 < _; omega⟩
theorem make_depth {A : Around} {C : Addr} {us : List Value} {kw : List (Str × Value)} : (A.under (.builtin "type.__call__" ⟨.ref C :: us, kw⟩)).depth = A.depth + 1 := by
  first | rfl | simp [Around.under, Code.weight, Code.isCreation, Code.isGuard, Code.isCaller, Code.frames, Code.isFrame, guardIds]
theorem make_units {A : Around} {C : Addr} {us : List Value} {kw : List (Str × Value)} : (A.under (.builtin "type.__call__" ⟨.ref C :: us, kw⟩)).units = A.units + 1 := by
  first | rfl | simp [Around.under, Code.cUnits, Code.frames, Code.isFrame]
theorem Room.make {k : Nat} {A : Around} (r : Room (k + 1) A) (C : Addr) (us : List Value) (kw : List (Str × Value)) : Room k (A.under (.builtin "type.__call__" ⟨.ref C :: us, kw⟩)) :=
  ⟨r.hd, by have := r.dp; rw [make_depth]; omega, by have := r.un; rw [make_units]; omega⟩
theorem Room.depth {k : Nat} {A : Around} (r : Room k A) : A.depth < recursionLimit := by have := r.dp; omega
theorem Room.units {k : Nat} {A : Around} (r : Room k A) : A.units + 64 < cLine := by have := r.un; omega
def tNil : TA := fun _ H Q => Q [] H
def tCons (ta : TE) (tr : TA) : TA := fun σ H Q => ta σ H fun x H1 => tr σ H1 fun xs H2 => Q (x :: xs) H2
section
variable {X : Cx} {e : Expr} {es : List Expr} {te : TE} {t : TA} {pos : Pos}
theorem pa_nil : PA X [] tNil := fun _ _ _ _ H Q I h => Calls.spliced_nil ⟨[], H, I, .nil, h⟩
theorem pa_cons (ha : PE X e te) (hr : PA X es t) (hs : starEach (e :: es) X.env = (false, eval e X.env) :: starEach es X.env := by rfl) : PA X (e :: es) (tCons te t) := by
  intro pos pins s σ H Q I h
  rw [hs]
  show wpAny _ _ (spliced ((false, eval e X.env) :: backTo pos (starEach es X.env))) _ _ s
  refine Calls.spliced_cons (thn (ha pins s σ H _ I h) fun u s1 ⟨x, H1, I1, r1, q1⟩ => ?_)
  exact thn (hr pos pins s1 σ H1 _ I1 q1) fun us s2 ⟨xs, H2, I2, r2, q2⟩ => ⟨x :: xs, H2, I2, .cons r1 r2, q2⟩

def tTup (t : TA) : TE := fun σ H Q => t σ H fun xs H1 => xs.length ≤ sizeLine ∧ ∀ p, H1 p = none → Q (.ref p) (upd H1 p (.tup xs))
def tLst (t : TA) : TE := fun σ H Q => t σ H fun xs H1 => xs.length ≤ sizeLine ∧ ∀ p, H1 p = none → Q (.ref p) (upd H1 p (.lst xs))
theorem pe_tup {x1} (h : PA X es t) : PE X (.Tuple es x1 pos) (tTup t) := by
  intro pins s σ H Q I hq
  refine wpAny_Tuple_spliced (thn (h pos pins s σ H _ I hq) fun us s1 ⟨xs, H1, I1, r, z, q⟩ => ⟨by rw [← r.length]; exact z, ?_⟩)
  have hf : H1 s1.heap.objs.size = none := I1.hok.fresh (Nat.le_refl _)
  refine ⟨.ref s1.heap.objs.size, upd H1 s1.heap.objs.size (.tup xs), I1.laid (t' := s1.toks) (fun b u e => Heap.get?_push_of_some _ e) (Nat.le_refl _) ?_, rfl, q _ hf⟩
  exact ⟨z, us, r, ⟨_, Heap.get?_push_size _ rfl, rfl, _, rfl⟩⟩
theorem pe_lst (h : PA X es t) : PE X (.List es pos) (tLst t) := by
  intro pins s σ H Q I hq
  refine wpAny_List_spliced (thn (h pos pins s σ H _ I hq) fun us s1 ⟨xs, H1, I1, r, z, q⟩ => ⟨by rw [← r.length]; exact z, ?_⟩)
  have hf : H1 s1.heap.objs.size = none := I1.hok.fresh (Nat.le_refl _)
  refine ⟨.ref s1.heap.objs.size, upd H1 s1.heap.objs.size (.lst xs), I1.laid (t' := s1.toks) (fun b u e => Heap.get?_push_of_some _ e) (Nat.le_refl _) ?_, rfl, q _ hf⟩
  exact ⟨z, us, 0, r, Heap.get?_push_size _ rfl⟩
end

abbrev Sp := List V → Hp → VK → XK → Prop
abbrev CXT := List Env → Hp → Shared → XK → Value → Shared → Prop

structure Env0 (P : Program) (w : World) (K : PySem.W.Frag) (mg : Str → Option Value) (base : Heap) (A : Around) (outer : List Env) (s : Shared) (H : Hp) : Prop where
  frames : A.frames = some outer
  mod : Mod K mg base
  bs : ∀ b o, base.get? b = some o → s.heap.get? b = some o ∧ H b = none
  bsz : base.objs.size ≤ s.heap.objs.size
  funs : s.heap.FunFrames base outer
  frf : ∀ b ∈ frs outer, H b = none
  hok : HOk P w H s.heap
  bare : AllBare s.gens
def CE (outer : List Env) (P : Program) (w : World) (H : Hp) (s : Shared) (Q : VK) (u : Value) (s' : Shared) : Prop :=
  ∃ v H', s'.os = s.os ∧ AllBare s'.gens ∧ Un (frs outer) [] H H' s.heap s'.heap ∧ HOk P w H' s'.heap ∧ RelV v u ∧ Q v H'
def CR (CX : CXT) (outer : List Env) (P : Program) (w : World) (H : Hp) (s : Shared) (Q : VK) (E : XK) (r : Result) (s' : Shared) : Prop :=
  match r with
  | .ok (.ret u) => CE outer P w H s Q u s'
  | .ok _ => False
  | .error e => CX outer H s E e s'
structure FnOk (P : Program) (w : World) (K : PySem.W.Frag) (mg : Str → Option Value) (base : Heap) (CX : CXT) (k : Nat) (f : Addr) (fd : FuncData) (ps : List Str) (sp : Sp) : Prop where
  len : ∀ vs H Q E, sp vs H Q E → vs.length = ps.length
  run : ∀ (A : Around) (outer : List Env) (s : Shared) (H : Hp) (args : Args) (us : List Value) (vs : List V) (Q : VK) (E : XK), Room k A → Env0 P w K mg base A outer s H → BindsTo s fd args (ps.zip us) → Vals vs us → sp vs H Q E →
    codeAny (model P w) A (.call (.ref f) args) (CR CX outer P w H s Q E) s
theorem FnOk.mono {P : Program} {w : World} {K : PySem.W.Frag} {mg : Str → Option Value} {base : Heap} {CX : CXT} {j k : Nat} {f : Addr} {fd : FuncData} {ps : List Str} {sp : Sp} (F : FnOk P w K mg base CX j f fd ps sp) (h : j ≤ k) :
    FnOk P w K mg base CX k f fd ps sp := ⟨F.len, fun A outer s H args us vs Q E hr => F.run A outer s H args us vs Q E (hr.mono h)⟩
theorem FnOk.imp {P : Program} {w : World} {K : PySem.W.Frag} {mg : Str → Option Value} {base : Heap} {CX : CXT} {k : Nat} {f : Addr} {fd : FuncData} {ps : List Str} {sp sp' : Sp} (F : FnOk P w K mg base CX k f fd ps sp)
    (h : ∀ vs H Q E, sp' vs H Q E → sp vs H Q E) : FnOk P w K mg base CX k f fd ps sp' :=
  ⟨fun vs H Q E q => F.len vs H Q E (h _ _ _ _ q), fun A outer s H args us vs Q E hr he hb hv hs => F.run A outer s H args us vs Q E hr he hb hv (h _ _ _ _ hs)⟩

theorem Env0.make {P : Program} {w : World} {K : PySem.W.Frag} {mg : Str → Option Value} {base : Heap} {A : Around} {outer : List Env} {s : Shared} {H : Hp} (e : Env0 P w K mg base A outer s H) (C : Addr) (us : List Value) (kw : List (Str × Value)) :
    Env0 P w K mg base (A.under (.builtin "type.__call__" ⟨.ref C :: us, kw⟩)) outer s H := ⟨by first | exact e.frames | (simpa [Around.under, Code.envs, Code.isFrame, pushEnvs] using e.frames), e.mod, e.bs, e.bsz, e.funs, e.frf, e.hok, e.bare⟩
theorem Env0.in1 {P : Program} {w : World} {K : PySem.W.Frag} {mg : Str → Option Value} {base : Heap} {A : Around} {outer : List Env} {s : Shared} {H : Hp} (e : Env0 P w K mg base A outer s H) :
    Env0 P w K mg base A.in1 outer s H := ⟨e.frames, e.mod, e.bs, e.bsz, e.funs, e.frf, e.hok, e.bare⟩

section
variable {X : Cx} {pins : List (Addr × Obj)} {σ : St} {H : Hp} {s s' : Shared}
theorem Inv.env0 (I : Inv X pins σ H s) : Env0 X.prog X.w X.K X.mg X.base X.A X.stack s H :=
  ⟨I.ok.frames, I.ok.mod, I.bs, Nat.le_trans I.ok.bsz I.sz, I.stack, I.stkFree, I.hok, I.bare⟩
theorem Inv.after {Q : VK} {u : Value} (I : Inv X pins σ H s) (h : CE X.stack X.prog X.w H s Q u s') : EP X pins σ Q u s' := by
  obtain ⟨v, H', os, bare, un, hok, r, q⟩ := h
  obtain ⟨hh, g, d, t, os'⟩ := s'
  obtain rfl : os' = s.os := os
  exact ⟨v, H', I.call (h' := hh) (g' := g) (d' := d) (t' := t) (ch := []) un hok bare (fun b z => absurd z (by simp)), r, q⟩
end

def tCall (sp : Sp) (dvs : List V) (E : XK) (t : TA) : TE := fun σ H Q => t σ H fun vs H1 => sp (vs ++ dvs) H1 Q E
def tMake (C : Addr) (sp : Sp) (dvs : List V) (E : XK) (t : TA) : TE := fun σ H Q => t σ H fun vs H1 => ∀ x dx, H1 x = none → H1 dx = none → dx ≠ x →
  sp (.ref x :: (vs ++ dvs)) (upd (upd H1 dx (.own x)) x (.ins C dx [])) (fun v H2 => v = .non ∧ Q (.ref x) H2) E

def Binds (K : PySem.W.Frag) (fd : FuncData) (ps : List Str) (ds : List Value) : Prop :=
  ∀ (s : Shared) (us : List Value), K.In s.heap → (us ++ ds).length = ps.length → BindsTo s fd ⟨us, []⟩ (ps.zip (us ++ ds))
theorem Binds.all {K : PySem.W.Frag} {fd : FuncData} {ps : List Str} (h : ∀ us : List Value, us.length = ps.length → bindArgs fd ⟨us, []⟩ = pure (ps.zip us)) : Binds K fd ps [] := fun s us _ hl => by
  rw [List.append_nil] at hl ⊢
  exact .of_eq (h us hl)

def Passes (CX : CXT) (X : Cx) (E : XK) : Prop := ∀ (pins : List (Addr × Obj)) (σ : St) (H : Hp) (s : Shared) (e : Value) (s' : Shared), Inv X pins σ H s → CX X.stack H s E e s' → X.xe e s'

section
variable {X : Cx} {CX : CXT} {k : Nat} {f C : Addr} {fd : FuncData} {ps : List Str} {sp : Sp} {dvs : List V} {ds : List Value} {E : XK} {x m : Str} {p pos apos : Pos} {e o : Expr} {es : List Expr} {ta : TE} {t : TA}

theorem run_fn {pins : List (Addr × Obj)} {σ : St} {H : Hp} {s : Shared} {Q : VK} {us : List Value} {vs : List V} (F : FnOk X.prog X.w X.K X.mg X.base CX k f fd ps sp) (hr : Room k X.A) (hb : Binds X.K fd ps ds) (hd : Vals dvs ds) (hx : Passes CX X E)
    (I : Inv X pins σ H s) (r : Vals vs us) (h : sp (vs ++ dvs) H Q E) : wpAny (model X.prog X.w) X.A (call (.ref f) us) (EP X pins σ Q) X.xe s := by
  have r2 : Vals (vs ++ dvs) (us ++ ds) := r.append hd
  have hl : (us ++ ds).length = ps.length := by rw [← r2.length]; exact F.len _ _ _ _ h
  refine wpAny_call (codeAny_mono (F.run X.A X.stack s H ⟨us, []⟩ (us ++ ds) (vs ++ dvs) Q E hr I.env0 (hb s us I.kIn hl) r2 h) fun r s' hq => ?_)
  cases r with
  | error e => exact hx pins σ H s e s' I hq
  | ok fl =>
    cases fl with
    | ret u => exact I.after hq
    | next => exact False.elim hq
    | brk => exact False.elim hq
    | cont => exact False.elim hq

theorem pe_call (F : FnOk X.prog X.w X.K X.mg X.base CX k f fd ps sp) (hr : Room k X.A) (hg : Gl X x) (hm : X.mg x = some (.ref f)) (hk : PySem.W.keepIn X.K (.ref f) = true) (hb : Binds X.K fd ps ds) (hd : Vals dvs ds) (hx : Passes CX X E)
    (ha : PA X (e :: es) t) (hdb : (x == ("__debug__" : Str)) = false := by decide) (he : starEach (e :: es) X.env = (false, eval e X.env) :: starEach es X.env := by rfl) (hpl : (backTo pos (starEach es X.env)).any (·.1) = false := by rfl) :
    PE X (.Call (.Name x p) (e :: es) [] pos) (tCall sp dvs E t) := by
  intro pins s σ H Q I h
  refine wpAny_Call_Name_kw (ld_glob I hg hm ?_ hdb)
  refine PySem.W.callWith_K (h₀ := X.base) I.ok.mod.kin hk (thn (ha pos pins s σ H _ I h) fun us s1 ⟨vs, H1, I1, r, q⟩ => ⟨I1.kIn, ?_⟩) he hpl
  exact run_fn F hr hb hd hx I1 r q
structure Mk (K : PySem.W.Frag) (C f : Addr) : Prop where
  makes : PySem.W.makesIn K C = true
  init : PySem.W.findIn K (.ref C) "__init__" = some (some (.ref f))
  fn : PySem.W.isFn K (.ref f) = true
  kp : PySem.W.keepIn K (.ref C) = true

theorem run_make {pins : List (Addr × Obj)} {σ : St} {H : Hp} {s : Shared} {Q : VK} {us : List Value} {vs : List V} (M : Mk X.K C f) (F : FnOk X.prog X.w X.K X.mg X.base CX k f fd ps sp) (hr : Room (k + 1) X.A) (hb : Binds X.K fd ps ds) (hd : Vals dvs ds)
    (hx : Passes CX X E) (I : Inv X pins σ H s) (r : Vals vs us)
    (h : ∀ x dx, H x = none → H dx = none → dx ≠ x → sp (.ref x :: (vs ++ dvs)) (upd (upd H dx (.own x)) x (.ins C dx [])) (fun v H2 => v = .non ∧ Q (.ref x) H2) E) :
    wpAny (model X.prog X.w) X.A (call (.ref C) us) (EP X pins σ Q) X.xe s := by
  have hq := h (s.heap.objs.size + 1) s.heap.objs.size (I.hok.fresh (Nat.le_succ _)) (I.hok.fresh (Nat.le_refl _)) (Nat.ne_of_lt (Nat.lt_succ_self _))
  have I2 := Inv.made (C := C) I
  have r2 : Vals (V.ref (s.heap.objs.size + 1) :: (vs ++ dvs)) (Value.ref (s.heap.objs.size + 1) :: (us ++ ds)) := .cons rfl (r.append hd)
  have hl : (Value.ref (s.heap.objs.size + 1) :: us ++ ds).length = ps.length := by
    have e := r2.length
    rw [F.len _ _ _ _ hq] at e
    exact e.symm
  refine wpAny_call (make_map (f := f) I.kIn M.makes M.init (beq_iff_eq.mp M.fn) (codeAny_mono (F.run _ X.stack _ _ ⟨Value.ref (s.heap.objs.size + 1) :: us, []⟩ (Value.ref (s.heap.objs.size + 1) :: (us ++ ds)) _ _ E (hr.make C us [])
    (I2.env0.make C us []) (hb _ (Value.ref (s.heap.objs.size + 1) :: us) I2.kIn hl) r2 hq) fun r s' hq' => ?_))
  cases r with
  | error e => exact hx pins σ _ _ e s' I2 hq'
  | ok fl =>
    cases fl with
    | ret u =>
      obtain ⟨v, H', I3, rv, ev, q3⟩ := I2.after hq'
      subst ev
      exact ⟨rv, ⟨V.ref (s.heap.objs.size + 1), H', I3, rfl, q3⟩⟩
    | next => exact False.elim hq'
    | brk => exact False.elim hq'
    | cont => exact False.elim hq'
theorem pe_make (M : Mk X.K C f) (F : FnOk X.prog X.w X.K X.mg X.base CX k f fd ps sp) (hr : Room (k + 1) X.A) (hg : Gl X x) (hm : X.mg x = some (.ref C)) (hb : Binds X.K fd ps ds) (hd : Vals dvs ds) (hx : Passes CX X E)
    (ha : PA X (e :: es) t) (hdb : (x == ("__debug__" : Str)) = false := by decide) (he : starEach (e :: es) X.env = (false, eval e X.env) :: starEach es X.env := by rfl) (hpl : (backTo pos (starEach es X.env)).any (·.1) = false := by rfl) :
    PE X (.Call (.Name x p) (e :: es) [] pos) (tMake C sp dvs E t) := by
  intro pins s σ H Q I h
  refine wpAny_Call_Name_kw (ld_glob I hg hm ?_ hdb)
  refine PySem.W.callWith_K (h₀ := X.base) I.ok.mod.kin M.kp (thn (ha pos pins s σ H _ I h) fun us s1 ⟨vs, H1, I1, r, q⟩ => ⟨I1.kIn, ?_⟩) he hpl
  exact run_make M F hr hb hd hx I1 r q
end

def PK (X : Cx) (kws : List Keyword) (t : TA) : Prop :=
  ∀ (pos : Pos) (pins : List (Addr × Obj)) (s : Shared) (σ : St) (H : Hp) (Q : List V → Hp → Prop), Inv X pins σ H s → t σ H Q → wpAny (model X.prog X.w) X.A (evalAll ((backToKw pos (keywordEach kws X.env)).map (·.2))) (AP X pins σ Q) X.xe s
section
variable {X : Cx} {CX : CXT} {k : Nat} {f C : Addr} {fd : FuncData} {ps ks : List Str} {sp : Sp} {E : XK} {x m : Str} {p pos apos kpos : Pos} {e o : Expr} {es : List Expr} {kws : List Keyword} {te ta : TE} {t tk : TA} {nm : Option Str}
theorem pk_nil : PK X [] tNil := fun _ _ _ _ H Q I h => wpAny_evalAll_nil ⟨[], H, I, .nil, h⟩
theorem pk_cons (ha : PE X e te) (hr : PK X kws t) : PK X (⟨nm, e, kpos⟩ :: kws) (tCons te t) := by
  intro pos pins s σ H Q I h
  show wpAny _ _ (evalAll ((do let v ← eval e X.env; standAt pos; pure v) :: (backToKw pos (keywordEach kws X.env)).map (·.2))) _ _ s
  refine wpAny_evalAll_cons (wpAny_bind (thn (ha pins s σ H _ I h) fun u s1 ⟨x, H1, I1, r1, q1⟩ => wpAny_bind (wpAny_standAt (wpAny_pure ?_))))
  exact thn (hr pos pins s1 σ H1 _ I1 q1) fun us s2 ⟨xs, H2, I2, r2, q2⟩ => ⟨x :: xs, H2, I2, .cons r1 r2, q2⟩

variable {g : List Value → List Value → List Value} {gV : List V → List V → List V}
end

structure FnScope (N P : List Str) (sc : Scope) : Prop where
  kind : sc.kind = .function
  co : sc.isCoroutine = false
  gen : sc.isGenerator = false
  nd : N.Nodup
  pre : N.take P.length = P
  par : ∀ x ∈ P, sc.names.lookup x = some .local ∨ sc.names.lookup x = some .cell
  nofree : ∀ y ∈ sc.names, y.2 ≠ .free

theorem bindL_out {kindOf : Str → Option NameKind} {x : Str} : ∀ {binds : List (Str × Value)} {m : Str → Option Value}, (∀ v, (x, v) ∉ binds) → bindL kindOf binds m x = m x
  | [], _, _ => rfl
  | (n, v) :: r, m, h => by
    unfold bindL
    rw [bindL_out fun w hw => h w (List.mem_cons_of_mem _ hw)]
    split
    · have : x ≠ n := by rintro rfl; exact h v List.mem_cons_self
      simp [this]
    · rfl
theorem bindC_out {kindOf : Str → Option NameKind} {x : Str} : ∀ {binds : List (Str × Value)} {m : Str → Option Value}, (∀ v, (x, v) ∉ binds) → bindC kindOf binds m x = m x
  | [], _, _ => rfl
  | (n, v) :: r, m, h => by
    unfold bindC
    rw [bindC_out fun w hw => h w (List.mem_cons_of_mem _ hw)]
    split
    · rfl
    · have : x ≠ n := by rintro rfl; exact h v List.mem_cons_self
      simp [this]
theorem bindL_get {kindOf : Str → Option NameKind} {x : Str} {v : Value} : ∀ {P : List Str} {vs : List Value} {i : Nat} {m : Str → Option Value}, P.Nodup → P[i]? = some x → vs[i]? = some v → kindOf x = some .local →
    bindL kindOf (P.zip vs) m x = some v
  | [], _, _, _, _, h, _, _ => by simp at h
  | _ :: _, [], _, _, _, _, h, _ => by simp at h
  | p :: P, w :: vs, 0, m, nd, h1, h2, hk => by
    simp at h1 h2; subst h1; subst h2
    show bindL kindOf ((p, w) :: P.zip vs) m p = _
    unfold bindL
    rw [bindL_out fun v hv => (List.nodup_cons.mp nd).1 (List.of_mem_zip hv).1, if_pos hk]
    simp
  | p :: P, w :: vs, i + 1, m, nd, h1, h2, hk => by
    show bindL kindOf ((p, w) :: P.zip vs) m x = _
    unfold bindL
    exact bindL_get (i := i) (List.nodup_cons.mp nd).2 (by simpa using h1) (by simpa using h2) hk
theorem bindC_get {kindOf : Str → Option NameKind} {x : Str} {v : Value} : ∀ {P : List Str} {vs : List Value} {i : Nat} {m : Str → Option Value}, P.Nodup → P[i]? = some x → vs[i]? = some v → kindOf x ≠ some .local →
    bindC kindOf (P.zip vs) m x = some v
  | [], _, _, _, _, h, _, _ => by simp at h
  | _ :: _, [], _, _, _, _, h, _ => by simp at h
  | p :: P, w :: vs, 0, m, nd, h1, h2, hk => by
    simp at h1 h2; subst h1; subst h2
    show bindC kindOf ((p, w) :: P.zip vs) m p = _
    unfold bindC
    rw [bindC_out fun v hv => (List.nodup_cons.mp nd).1 (List.of_mem_zip hv).1, if_neg hk]
    simp
  | p :: P, w :: vs, i + 1, m, nd, h1, h2, hk => by
    show bindC kindOf ((p, w) :: P.zip vs) m x = _
    unfold bindC
    exact bindC_get (i := i) (List.nodup_cons.mp nd).2 (by simpa using h1) (by simpa using h2) hk

def start (N : List Str) (vs : List V) : St := vs.map some ++ List.replicate (N.length - vs.length) none

def cxOf (CX : CXT) (P : Program) (w : World) (K : PySem.W.Frag) (mg : Str → Option Value) (base : Heap) (N : List Str) (qual : Str) (scope : Scope) (f : Addr) (cd : Value) (A : Around) (outer : List Env) (s : Shared) (H : Hp) (E : XK) : Cx where
  prog := P
  w := w
  K := K
  mg := mg
  base := base
  A := A.deeper (envOfC qual scope s.heap.objs.size f cd)
  N := N
  s_0 := s
  H_0 := H
  env := envOfC qual scope s.heap.objs.size f cd
  outer := outer
  stack := envOfC qual scope s.heap.objs.size f cd :: outer
  ex := []
  calm := true
  fn := fun _ => true
  pn := []
  xe := fun e s' => wpAny (model P w) (A.deeper (envOfC qual scope s.heap.objs.size f cd)) (leaving (envOfC qual scope s.heap.objs.size f cd) e) (fun _ s'' => CX outer H s E e s'') (fun e' s'' => CX outer H s E e' s'') s'

theorem cell_has {sc : Scope} {n : Nat} {x : Str} (h : sc.names.lookup x = some .cell) : ∃ c, (cellsFrom n sc.names []).lookup x = some c := by
  have q := PySem.W.cellsFrom_some sc.names n [] (.inl h)
  exact Option.isSome_iff_exists.mp q

theorem inv_start {CX : CXT} {P : Program} {w : World} {K : PySem.W.Frag} {mg : Str → Option Value} {base : Heap} {N ps : List Str} {qual : Str} {scope : Scope} {f : Addr} {cd : Value} {A : Around} {outer : List Env} {s s1 : Shared} {H : Hp} {E : XK} {us : List Value} {vs : List V}
    (S : FnScope N ps scope) (hd : A.handled = none) (e0 : Env0 P w K mg base A outer s H) (hl : vs.length = ps.length) (r : Vals vs us)
    (x : InCallC s s.heap.objs.size (bindL (envOfC qual scope s.heap.objs.size f cd).kindOf (ps.zip us) fun _ => none) (cellsFrom (s.heap.objs.size + 1) scope.names []) (bindC (envOfC qual scope s.heap.objs.size f cd).kindOf (ps.zip us) fun _ => none) s1) :
    Inv (cxOf CX P w K mg base N qual scope f cd A outer s H E) [] (start N vs) H s1 := by
  have hpl : ps.length ≤ N.length := by have := congrArg List.length S.pre; rw [List.length_take] at this; omega
  obtain ⟨h1, tk, rfl, hk⟩ := x.done
  have noA : ∀ b : Addr, b ∉ (cxOf CX P w K mg base N qual scope f cd A outer s H E).ex := fun b z => absurd (show b ∈ ([] : List Addr) from z) (by simp)
  refine ⟨⟨e0.mod, S.kind, rfl, rfl, Nat.le_refl _, fun y z c h1 h2 => ?_, fun y hy => ?_, fun y c _ h => ?_, fun _ => hd, Around.frames_deeper e0.frames, .inr ⟨rfl, rfl⟩, fun b z => absurd z (noA b), e0.bs, e0.bsz, fun b _ _ => noA b, fun b z => absurd z (noA b), e0.funs, e0.frf⟩,
    rfl, e0.bare, Un.kept hk, ⟨_, x.toInCall.ns, fun i y v h1 h2 h3 => ?_⟩, fun y c h => ⟨_, x.cell y c h⟩, e0.hok.fresh (Nat.le_refl _), fun y c h => ?_, fun p hp => absurd (show p ∈ ([] : List (Addr × Obj)) from hp) (by simp), e0.hok.kept hk, ?_⟩
  · exact name_of_addr x.apart (PySem.mem_of_lookup h1) (PySem.mem_of_lookup h2)
  · have hy : scope.names.lookup y = some .cell ∨ scope.names.lookup y = some .free := hy
    rcases hy with hy | hy
    · exact cell_has hy
    · exact absurd rfl (S.nofree _ (PySem.mem_of_lookup hy))
  · exact Nat.le_of_lt (x.above y c (PySem.mem_of_lookup h))
  · have hi : i < vs.length := by
      unfold start at h2
      by_cases hi : i < vs.length
      · exact hi
      · rw [List.getElem?_append_right (by simpa using hi)] at h2
        rw [List.getElem?_replicate] at h2
        split at h2 <;> cases h2
    have ha : vs[i]? = some v := by
      unfold start at h2
      rw [List.getElem?_append_left (by simpa using hi), List.getElem?_map] at h2
      cases e : vs[i]? with
      | none => rw [e] at h2; cases h2
      | some a => rw [e] at h2; cases h2; rfl
    obtain ⟨u, hu, rv⟩ := r.get ha
    have hp : ps[i]? = some y := by
      rw [← S.pre, List.getElem?_take_of_lt (by omega)]; exact h1
    have ndP : ps.Nodup := by rw [← S.pre]; exact S.nd.sublist (List.take_sublist _ _)
    refine ⟨u, rv, ?_⟩
    rcases S.par y (List.mem_of_getElem? hp) with k | k
    · exact .inl ⟨k, bindL_get ndP hp hu k⟩
    · obtain ⟨c, e⟩ := cell_has (n := s.heap.objs.size + 1) k
      refine .inr ⟨.inl k, c, e, ?_⟩
      have q := x.cell y c e
      rw [bindC_get ndP hp hu (by show scope.names.lookup y ≠ _; rw [k]; decide)] at q
      exact q
  · exact e0.hok.fresh (Nat.le_of_lt (x.above y c (PySem.mem_of_lookup h)))
  · unfold start
    show _ = N.length
    rw [List.length_append, List.length_map, List.length_replicate]
    omega

theorem fn_of {CX : CXT} {P : Program} {w : World} {K : PySem.W.Frag} {mg : Str → Option Value} {base : Heap} {k : Nat} {f : Addr} {name qual : Str} {params : Arguments} {body : List Stmt} {scope : Scope} {dV kV doc pm cdv ct oc : Value} {an od : Option Addr}
    {osl : Array (Option Value)} {N ps : List Str} {sp : Sp} (lk : K.lookup f = some ⟨oc, od, .func (PySem.W.fnOf name qual params body scope dV kV doc pm an cdv ct), osl⟩) (hcd : PySem.W.codeIn K cdv qual = true) (S : FnScope N ps scope)
    (len : ∀ vs H Q E, sp vs H Q E → vs.length = ps.length)
    (hbody : ∀ (A : Around) (outer : List Env) (s : Shared) (H : Hp) (vs : List V) (Q : VK) (E : XK), Room k (A.deeper (envOfC qual scope s.heap.objs.size f cdv)) → sp vs H Q E →
      ∃ t, PSs (cxOf CX P w K mg base N qual scope f cdv A outer s H E) body t ∧ t { nx := fun _ H' => Q .non H', rt := Q } (start N vs) H) :
    FnOk P w K mg base CX (k + 1) f (PySem.W.fnOf name qual params body scope dV kV doc pm an cdv ct) ps sp := by
  refine ⟨len, fun A outer s H args us vs Q E hr e0 hb r hsp => ?_⟩
  have hl := len _ _ _ _ hsp
  have KX : K.In s.heap := e0.mod.kin.keeps fun b o e => (e0.bs b o e).1
  have lim : s.heap.NoLimit := e0.mod.nolimit.keeps fun b o e => (e0.bs b o e).1
  have hkind : ∀ y ∈ ps.zip us, scope.names.lookup y.1 = some .local ∨ (scope.names.lookup y.1 = some .cell ∧ ((cellsFrom (s.heap.objs.size + 1) scope.names []).lookup y.1).isSome = true) := fun ⟨n, v⟩ hy => by
    rcases S.par n (List.of_mem_zip hy).1 with q | q
    · exact .inl q
    · exact .inr ⟨q, PySem.W.cellsFrom_some _ _ _ (.inl q)⟩
  refine codeAny_call_function hr.depth (KX _ _ lk) rfl S.co S.gen rfl (PySem.W.codeRec_of KX hcd) (hb _ _ _ _ ?_)
  refine wpAny_newFunctionEnv_cells S.kind hkind fun env he s1 x => ?_
  subst he
  refine ⟨lim.keeps x.toInCall.keep, codeAny_func ?_⟩
  obtain ⟨t, ht, hq⟩ := hbody A outer s H vs Q E (hr.deeper _) hsp
  have I : Inv (cxOf CX P w K mg base N qual scope f cdv A outer s H E) [] (start N vs) H s1 := inv_start S hr.hd e0 hl r x
  refine wpAny_mono (ht [] s1 (start N vs) H _ I hq) (fun fl s' hs => ?_) fun e s' hs => hs
  have fin : ∀ {σ' : St} {H' : Hp} {v : V} {u : Value}, Inv (cxOf CX P w K mg base N qual scope f cdv A outer s H E) [] σ' H' s' → RelV v u → Q v H' → CE outer P w H s Q u s' :=
    fun {σ' H' v u} J rv q => ⟨v, H', J.os, J.bare, J.base, J.hok, rv, q⟩
  cases fl with
  | ret u =>
    obtain ⟨v, σ', H', J, rv, q⟩ := hs
    exact fin J rv q
  | next =>
    obtain ⟨σ', H', J, q⟩ := hs
    exact fin (v := V.non) (u := Value.none) J rfl q
  | brk =>
    obtain ⟨_, _, _, q⟩ := hs
    exact False.elim q
  | cont =>
    obtain ⟨_, _, _, q⟩ := hs
    exact False.elim q
end L2

namespace L2
open PySem PySem.Spec PyProof.Rows
section
variable {X : Cx} {x : Str} {p pos : Pos} {e : Expr} {es : List Expr} {t : TA} {id T : String} {r : List V → Hp → VK → Prop}

def tCB (r : List V → Hp → VK → Prop) (t : TA) : TE := fun σ H Q => t σ H fun vs H1 => r vs H1 Q
theorem pe_callB (hc : CallR X (.builtin id) r) (hg : Gl X x) (hm : X.mg x = none) (hv : bootBuiltins x = some (.builtin id)) (ha : PA X (e :: es) t) (hn : x ≠ "__name__" := by decide) (hdb : (x == ("__debug__" : Str)) = false := by decide)
    (he : starEach (e :: es) X.env = (false, eval e X.env) :: starEach es X.env := by rfl) (hpl : (backTo pos (starEach es X.env)).any (·.1) = false := by rfl) : PE X (.Call (.Name x p) (e :: es) [] pos) (tCB r t) := by
  intro pins s σ H Q I h
  refine wpAny_Call_Name_kw (ld_blt I hg hm hv ?_ hn hdb)
  exact PyProof.Rows.callWith_builtin1 (thn (ha pos pins s σ H _ I h) fun us s1 ⟨vs, H1, I1, r1, q1⟩ => hc pins s1 σ H1 vs us Q I1 r1 q1) he hpl
theorem pe_callTy (hc : CallR X (.type T) r) (hg : Gl X x) (hm : X.mg x = none) (hv : bootBuiltins x = some (.type T)) (ha : PA X (e :: es) t) (hn : x ≠ "__name__" := by decide) (hdb : (x == ("__debug__" : Str)) = false := by decide)
    (he : starEach (e :: es) X.env = (false, eval e X.env) :: starEach es X.env := by rfl) (hpl : (backTo pos (starEach es X.env)).any (·.1) = false := by rfl) : PE X (.Call (.Name x p) (e :: es) [] pos) (tCB r t) := by
  intro pins s σ H Q I h
  refine wpAny_Call_Name_kw (ld_blt I hg hm hv ?_ hn hdb)
  exact PyProof.Rows.callWith_type1 (thn (ha pos pins s σ H _ I h) fun us s1 ⟨vs, H1, I1, r1, q1⟩ => hc pins s1 σ H1 vs us Q I1 r1 q1) he hpl
end
end L2

namespace HT
open PySem PyProof.Rows

section
open PySem.SeqAt
open PySem.AutoSeq1 (wpAny_loadPart')
open PySem.MeetsSeq PySem.MeetsSeq2 PySem.MeetsSeq3

end

section
variable {prog : Program} {w : World} {A : Around} {E : Value → Shared → Prop} {s : Shared}

def sIx (n d : Nat) : Option Int → Nat
  | none => d
  | some v => if v < 0 then (v + (n : Int)).toNat else min v.toNat n
theorem sIx_none (n d : Nat) : sIx n d none = d := rfl
theorem sIx_nat (n d k : Nat) : sIx n d (some (k : Int)) = min k n := by
  show (if (k : Int) < 0 then ((k : Int) + (n : Int)).toNat else min (k : Int).toNat n) = min k n
  rw [if_neg (by omega), Int.toNat_natCast]
end
end HT

namespace L2
open PySem PySem.Spec PyProof.Rows

abbrev TO := St → Hp → (Option Int → Hp → Prop) → Prop
def PO (X : Cx) (e : Option Expr) (t : TO) : Prop :=
  ∀ (pins : List (Addr × Obj)) (s : Shared) (σ : St) (H : Hp) (Q : Option Int → Hp → Prop), Inv X pins σ H s → t σ H Q →
    wpAny (model X.prog X.w) X.A (evalPart e X.env) (fun u s' => ∃ o H', Inv X pins σ H' s' ∧ IsPart u o ∧ Q o H') X.xe s
def tNoPart : TO := fun _ H Q => Q none H
def tPart (t : TE) : TO := fun σ H Q => t σ H fun x H1 => ∃ i, x = .int i ∧ Q (some i) H1

section
variable {X : Cx} {e : Expr} {te : TE} {lo hi : Option Expr} {tl th : TO} {pos p2 : Pos}

theorem po_none : PO X none tNoPart := by
  intro pins s σ H Q I h
  rw [evalPart_none]
  exact wpAny_pure ⟨none, H, I, .none, h⟩
theorem po_some (h : PE X e te) : PO X (some e) (tPart te) := by
  intro pins s σ H Q I hw
  rw [evalPart_some]
  refine thn (h pins s σ H _ I hw) fun u s1 ⟨x, H1, I1, r1, q1⟩ => ?_
  obtain ⟨i, rfl, q⟩ := q1
  obtain ⟨t, rfl⟩ := r1
  exact ⟨some i, H1, I1, .int i t, q⟩

def SlR (X : Cx) (r : V → Option Int → Option Int → Hp → VK → Prop) : Prop :=
  ∀ (pins : List (Addr × Obj)) (s : Shared) (σ : St) (H : Hp) (x : V) (v vl vu : Value) (lo hi : Option Int) (sl : Addr) (Q : VK), Inv X pins σ H s → RelV x v → s.heap.IsSliceOf sl vl vu .none → IsPart vl lo → IsPart vu hi → r x lo hi H Q →
    ∃ T id, typeLookup (.type T) "__getitem__" = pure (some (.builtin id)) ∧ s.TypeIs v T ∧ wpAny (model X.prog X.w) X.A (getItem v (.ref sl)) (EP X pins σ Q) X.xe s
def tSl (r : V → Option Int → Option Int → Hp → VK → Prop) (te : TE) (tl th : TO) : TE := fun σ H Q => te σ H fun x H1 => tl σ H1 fun l H2 => th σ H2 fun u H3 => r x l u H3 Q
theorem pe_slice {r : V → Option Int → Option Int → Hp → VK → Prop} (hr : SlR X r) (he : PE X e te) (hl : PO X lo tl) (hu : PO X hi th) : PE X (.Subscript e (.Slice lo hi none p2) pos) (tSl r te tl th) := by
  intro pins s σ H Q I h
  refine Subscript_ (thn (he pins s σ H _ I h) fun v s1 ⟨x, H1, I1, r1, q1⟩ => ?_)
  refine wpAny_Slice (thn (hl pins s1 σ H1 _ I1 q1) fun vl s2 ⟨l, H2, I2, pl, q2⟩ => thn (hu pins s2 σ H2 _ I2 q2) fun vu s3 ⟨u, H3, I3, pu, q3⟩ => ?_)
  rw [evalPart_none]
  refine wpAny_pure ?_
  have I4 : Inv X pins σ H3 { s3 with heap := s3.heap.push { cls := .type "slice", data := .fields #[vl, vu, .none] } } := I3.kept (t' := s3.toks) fun b ob q => Heap.get?_push_of_some _ q
  obtain ⟨T, id, hT, ht, hg⟩ := hr pins { s3 with heap := s3.heap.push { cls := .type "slice", data := .fields #[vl, vu, .none] } } σ H3 x v vl vu l u s3.heap.objs.size Q I4 r1 (Heap.IsSliceOf.new ..) pl pu q3
  show wpAny (model X.prog X.w) X.A (subscriptTail e (.Slice lo hi none p2) v (.ref s3.heap.objs.size)) (EP X pins σ Q) X.xe { s3 with heap := s3.heap.push { cls := .type "slice", data := .fields #[vl, vu, .none] } }
  exact tail_any (ops := [.ref s3.heap.objs.size, v]) ht hT hg (by with_unfolding_all rfl)

def cutV (xs : List V) (lo hi : Option Int) : List V := (xs.drop (HT.sIx xs.length 0 lo)).take (HT.sIx xs.length xs.length hi - HT.sIx xs.length 0 lo)
theorem cutV_length (xs : List V) (lo hi : Option Int) : (cutV xs lo hi).length ≤ xs.length := by
  unfold cutV
  rw [List.length_take, List.length_drop]
  omega
end
end L2

namespace L2
open PySem PySem.Spec PyProof.Rows

def ixN (n : Nat) (i : Int) : Option Nat := if 0 ≤ i then (if i < n then some i.toNat else none) else if -(n : Int) ≤ i then some (i + n).toNat else none
def atI {α : Type} (xs : List α) (i : Int) : Option α := (ixN xs.length i).bind fun j => xs[j]?
theorem ixN_seq {n : Nat} {i : Int} {j : Nat} (h : ixN n i = some j) : seqIndex? i n = some j ∧ j < n ∧ -(n : Int) ≤ i ∧ i < n := by
  unfold ixN at h
  by_cases h0 : 0 ≤ i
  · rw [if_pos h0] at h
    by_cases h1 : i < n
    · rw [if_pos h1] at h
      have e : i.toNat = j := Option.some.inj h
      exact ⟨by rw [seqIndex_of h0 h1, e], by omega, by omega, h1⟩
    · rw [if_neg h1] at h; cases h
  · rw [if_neg h0] at h
    by_cases h1 : -(n : Int) ≤ i
    · rw [if_pos h1] at h
      have e : (i + n).toNat = j := Option.some.inj h
      exact ⟨by rw [seqIndex_neg (by omega) h1, e], by omega, h1, by omega⟩
    · rw [if_neg h1] at h; cases h
theorem atI_get {α : Type} {xs : List α} {i : Int} {v : α} (h : atI xs i = some v) : ∃ j, seqIndex? i xs.length = some j ∧ xs[j]? = some v ∧ j < xs.length ∧ -(xs.length : Int) ≤ i ∧ i < xs.length := by
  unfold atI at h
  cases e : ixN xs.length i with
  | none => rw [e] at h; cases h
  | some j =>
    rw [e] at h
    obtain ⟨h1, h2, h3, h4⟩ := ixN_seq e
    exact ⟨j, h1, h, h2, h3, h4⟩
theorem atI_nat {α : Type} {xs : List α} {j : Nat} {v : α} (h : xs[j]? = some v) : atI xs (j : Int) = some v := by
  have hj : j < xs.length := (List.getElem?_eq_some_iff.mp h).1
  have e : ixN xs.length (j : Int) = some j := by
    unfold ixN
    rw [if_pos (by omega), if_pos (by omega)]; simp
  unfold atI; rw [e]; exact h
def PlainIx (b : Expr) : Prop := ∀ o i, subscripted b false o i = operate [o, i] (getItem o i)
def IxR (X : Cx) (r : R2) : Prop :=
  ∀ (value slice : Expr) (pins : List (Addr × Obj)) (s : Shared) (σ : St) (H : Hp) (x y : V) (v u : Value) (Q : VK), Inv X pins σ H s → RelV x v → RelV y u → r x y H Q →
    subscripted slice false v u = operate [v, u] (getItem v u) → wpAny (model X.prog X.w) X.A (subscriptTail value slice v u) (EP X pins σ Q) X.xe s
def MtR (X : Cx) (id : String) (r : V → List V → Hp → VK → Prop) : Prop :=
  ∀ (pins : List (Addr × Obj)) (s : Shared) (σ : St) (H : Hp) (x : V) (xs : List V) (v : Value) (us : List Value) (Q : VK), Inv X pins σ H s → RelV x v → Vals xs us → r x xs H Q →
    wpAny (model X.prog X.w) X.A (call (.builtin id) (v :: us)) (EP X pins σ Q) X.xe s
section
variable {X : Cx} {a b : Expr} {ta tb : TE} {pos : Pos}
theorem pe_ix {r : R2} (hr : IxR X r) (ha : PE X a ta) (hb : PE X b tb) (hs : PlainIx b) : PE X (.Subscript a b pos) (tOp r ta tb) := by
  intro pins s σ H Q I h
  exact Subscript_ (binT ha hb I h fun v u s2 x y H2 I2 rx ry q => hr a b pins s2 σ H2 x y v u Q I2 rx ry q (hs _ _))

def rIxL (K : PySem.W.Frag) : R2 := fun x y H Q => ∃ p xs i v, x = .ref p ∧ y = .int i ∧ SqL K H p xs ∧ atI xs i = some v ∧ Q v H
def rIxT (K : PySem.W.Frag) : R2 := fun x y H Q => ∃ p xs i v, x = .ref p ∧ y = .int i ∧ SqT K H p xs ∧ atI xs i = some v ∧ Q v H
theorem ix_list : IxR X (rIxL X.K) := by
  intro value slice pins s σ H x y v u Q I rx ry h hs
  obtain ⟨p, xs, i, z, rfl, rfl, hq, he, q⟩ := h
  cases rx
  obtain ⟨t, rfl⟩ := ry
  obtain ⟨its, r, pl, hz⟩ := I.list hq
  obtain ⟨j, h1, h2, h3, h4, h5⟩ := atI_get he
  obtain ⟨w, ew, rw'⟩ := r.get h2
  have hl := r.length
  have hn := line63
  have fin : EP X pins σ Q w s := ⟨z, H, I, rw', q⟩
  by_cases h0 : 0 ≤ i
  · have hj : i.toNat = j := by
      rw [seqIndex_of h0 h5] at h1
      exact Option.some.inj h1
    exact item_listR pl.isList h0 (by omega) (by rw [hj]; simpa using ew) fin hs
  · have hj : (i + (its.toArray.size : Int)).toNat = j := by
      rw [seqIndex_neg (by omega) h4] at h1
      rw [List.size_toArray, ← hl]
      exact Option.some.inj h1
    exact subscriptTail_builtinR (x := w) pl.isList.typeIs slot_list_getitem.lookup
      (wpAny_getItem_list_neg (Q := fun r s' => r = w ∧ EP X pins σ Q r s') pl.isList (by omega) (by rw [List.size_toArray] <;> omega) (by omega) (by rw [hj]; simpa using ew) ⟨rfl, fin⟩) hs
theorem ix_tup : IxR X (rIxT X.K) := by
  intro value slice pins s σ H x y v u Q I rx ry h hs
  obtain ⟨p, xs, i, z, rfl, rfl, hq, he, q⟩ := h
  cases rx
  obtain ⟨t, rfl⟩ := ry
  obtain ⟨its, r, pl, hz⟩ := I.tuple hq
  obtain ⟨j, h1, h2, h3, h4, h5⟩ := atI_get he
  obtain ⟨w, ew, rw'⟩ := r.get h2
  have hl := r.length
  have hn := line63
  have fin : EP X pins σ Q w s := ⟨z, H, I, rw', q⟩
  exact subscriptTail_builtinR (x := w) pl.typeIs slot_tuple_getitem.lookup
    (getItem_tuple (j := j) (Q := fun r s' => r = w ∧ EP X pins σ Q r s') pl (by omega) (by omega) (by rw [List.size_toArray, ← hl]; exact h1) (by simpa using ew) ⟨rfl, fin⟩) hs
theorem mapSeq_set (its : List Value) (n j : Nat) (u : Value) : Obj.mapSeq (·.setIfInBounds j u) { cls := .type "list", data := .seq its.toArray n } = { cls := .type "list", data := .seq (its.set j u).toArray n } := by
  simp [Obj.mapSeq]
theorem Inv.lst {pins : List (Addr × Obj)} {σ : St} {H : Hp} {s : Shared} {p : Addr} {xs : List V} (I : Inv X pins σ H s) (h : H p = some (.lst xs)) :
    ∃ (its : List Value) (n : Nat), Vals xs its ∧ s.heap.get? p = some { cls := .type "list", data := .seq its.toArray n } ∧ xs.length ≤ sizeLine := by
  obtain ⟨z, its, n, r, e⟩ := I.hok p _ h
  exact ⟨its, n, r, e, z⟩
theorem Inv.lstUpd {pins : List (Addr × Obj)} {σ : St} {H : Hp} {s : Shared} {p : Addr} {xs ys : List V} {its its' : List Value} {n n' : Nat} {f : Obj → Obj} (I : Inv X pins σ H s) (h : H p = some (.lst xs))
    (ho : s.heap.get? p = some { cls := .type "list", data := .seq its.toArray n }) (hf : f { cls := .type "list", data := .seq its.toArray n } = { cls := .type "list", data := .seq its'.toArray n' }) (r : Vals ys its') (hz : ys.length ≤ sizeLine) (t : Nat) :
    Inv X pins σ (upd H p (.lst ys)) { s with heap := s.heap.update p f, toks := t } := by
  have e : (s.heap.update p f).get? p = some { cls := .type "list", data := .seq its'.toArray n' } := by
    rw [Heap.get?_update_self f ho (by rw [hf] <;> rfl), hf]
  refine I.write (x := p) (e := p) (by rw [h]; trivial) (.inl rfl) (fun b u hb q => (Heap.get?_update_other _ _ (Ne.symm hb)).trans q) ⟨_, e⟩ ?_
  exact ⟨hz, its', n', r, e⟩
def rSetL : V → V → V → Hp → (Hp → Prop) → Prop := fun o i v H Q => ∃ p xs k j, o = .ref p ∧ i = .int k ∧ H p = some (.lst xs) ∧ ixN xs.length k = some j ∧ Q (upd H p (.lst (xs.set j v)))
theorem set_list : PSet X rSetL := by
  intro pins s σ H o i v ov iv u Q I ro ri rv h
  obtain ⟨p, xs, k, j, rfl, rfl, hp, hj, q⟩ := h
  cases ro
  obtain ⟨t, rfl⟩ := ri
  obtain ⟨its, n, r, ho, hz⟩ := I.lst hp
  obtain ⟨h1, h2, h3, h4⟩ := ixN_seq hj
  have hl := r.length
  have hn := line63
  have I' : Inv X pins σ (upd H p (.lst (xs.set j v))) { s with heap := s.heap.update p (Obj.mapSeq (·.setIfInBounds j u)) } :=
    I.lstUpd hp ho (mapSeq_set its n j u) (r.set rv j) (by rw [List.length_set]; exact hz) s.toks
  by_cases h0 : 0 ≤ k
  · have hk : k.toNat = j := by
      rw [seqIndex_of h0 h4] at h1
      exact Option.some.inj h1
    exact PySem.W.ki_setAt ho h0 (by omega) (by rw [List.size_toArray, ← hl]; exact h4) (by rw [hk]; exact ⟨_, I', q⟩)
  · have hk : (k + (its.toArray.size : Int)).toNat = j := by
      rw [seqIndex_neg (by omega) h3] at h1
      rw [List.size_toArray, ← hl]
      exact Option.some.inj h1
    exact PySem.W.ki_setBack ho (by omega) (by rw [List.size_toArray, ← hl]; exact h3) (by omega) (by rw [hk]; exact ⟨_, I', q⟩)

theorem slice_bounds (lo hi : Option Int) (n : Nat) : (sliceBounds lo hi none n).1 = ((HT.sIx n 0 lo : Nat) : Int) ∧ (sliceBounds lo hi none n).2.1 = ((HT.sIx n n hi : Nat) : Int) ∧ (sliceBounds lo hi none n).2.2 = 1 := by
  refine ⟨?_, ?_, rfl⟩
  · cases lo with
    | none => simp [sliceBounds, HT.sIx]
    | some i =>
      simp only [sliceBounds, HT.sIx, Option.getD_none, show (1 : Int) > 0 by decide, if_true]
      by_cases h : i < 0
      · simp only [h, if_true] <;> omega
      · simp only [h, if_false] <;> omega
  · cases hi with
    | none => simp [sliceBounds, HT.sIx]
    | some i =>
      simp only [sliceBounds, HT.sIx, Option.getD_none, show (1 : Int) > 0 by decide, if_true]
      by_cases h : i < 0
      · simp only [h, if_true] <;> omega
      · simp only [h, if_false] <;> omega
theorem slicePick_cut (its : List Value) (lo hi : Option Int) : slicePick its.toArray lo hi none = ((its.drop (HT.sIx its.length 0 lo)).take (HT.sIx its.length its.length hi - HT.sIx its.length 0 lo)).toArray := by
  obtain ⟨h1, h2, h3⟩ := slice_bounds lo hi its.toArray.size
  unfold slicePick
  rw [h1, h2, h3]
  simp only [sliceRange_one, pick_run, List.size_toArray] <;> rfl
def rSlL (K : PySem.W.Frag) : V → Option Int → Option Int → Hp → VK → Prop := fun x lo hi H Q => ∃ a xs, x = .ref a ∧ SqL K H a xs ∧ ∀ p, H p = none → Q (.ref p) (upd H p (.lst (cutV xs lo hi)))
theorem sl_list : SlR X (rSlL X.K) := by
  intro pins s σ H x v vl vu lo hi sl Q I rx hs pl pu h
  obtain ⟨a, xs, rfl, hx, q⟩ := h
  cases rx
  obtain ⟨its, r, ht, hz⟩ := I.list hx
  have hlen := r.length
  refine ⟨"list", _, slot_list_getitem.lookup, ht.isList.typeIs, ?_⟩
  refine wpAny_getItem_list_slice ht.isList hs pl pu .none (by simp) ?_ (by rw [List.size_toArray] <;> omega)
  rw [slicePick_cut, ← hlen]
  refine ⟨.ref s.heap.objs.size, _, I.laid (t' := s.toks) (o := .lst (cutV xs lo hi)) (fun b ob q => Heap.get?_push_of_some _ q) (Nat.le_refl _) ?_, rfl, q _ (I.hok.fresh (Nat.le_refl _))⟩
  exact ⟨Nat.le_trans (cutV_length xs lo hi) hz, _, 0, (r.drop (HT.sIx xs.length 0 lo)).take (HT.sIx xs.length xs.length hi - HT.sIx xs.length 0 lo), Heap.get?_push_size _ rfl⟩

theorem call_len_seq : CallR X (.builtin "len") (fun xs H Q => ∃ p ys, xs = [.ref p] ∧ (SqL X.K H p ys ∨ SqT X.K H p ys) ∧ Q (.int ys.length) H) := by
  intro pins s σ H xs us Q I r h
  obtain ⟨p, ys, rfl, hq, q⟩ := h
  obtain ⟨u, rfl, rx⟩ := vals1 r
  cases rx
  have hn := line63
  rcases hq with hq | hq
  · obtain ⟨its, r', pl, hz⟩ := I.list hq
    have hlen := r'.length
    exact Calls.call_len_list pl.isList (by simp only [List.size_toArray] <;> omega) ⟨.int ys.length, H, I.tok _, ⟨s.toks + 1, by rw [List.size_toArray, hlen]⟩, q⟩
  · obtain ⟨its, r', pl, hz⟩ := I.tuple hq
    have hlen := r'.length
    exact len_tuple pl (by simp only [List.size_toArray] <;> omega) ⟨.int ys.length, H, I.tok _, ⟨s.toks + 1, by rw [List.size_toArray, hlen]⟩, q⟩
theorem call_list_of : CallR X (.type "list") (fun xs H Q => ∃ p ys, xs = [.ref p] ∧ (SqL X.K H p ys ∨ SqT X.K H p ys) ∧ ∀ l, H l = none → Q (.ref l) (upd H l (.lst ys))) := by
  intro pins s σ H xs us Q I r h
  obtain ⟨p, ys, rfl, hq, q⟩ := h
  obtain ⟨u, rfl, rx⟩ := vals1 r
  cases rx
  have fin : ∀ (its : List Value), Vals ys its → ys.length ≤ sizeLine → ∀ (h' : Heap) (c' : Nat), (∀ b o', s.heap.get? b = some o' → h'.get? b = some o') →
      h'.get? s.heap.objs.size = some { cls := .type "list", dict := none, data := .seq its.toArray c', slots := #[] } → EP X pins σ Q (.ref s.heap.objs.size) { s with heap := h' } := fun its r' hz h' c' kp e =>
    ⟨.ref s.heap.objs.size, _, I.laid (t' := s.toks) kp (Nat.le_refl _) (show ObjOk X.prog X.w _ h' _ (.lst ys) from ⟨hz, its, c', r', e⟩), rfl, q _ (I.hok.fresh (Nat.le_refl _))⟩
  rcases hq with hq | hq
  · obtain ⟨its, r', pl, hz⟩ := I.list hq
    have hlen := r'.length
    obtain ⟨o, ho, hc, n, hd⟩ := pl.isList
    exact call_list_seq p (.inl rfl) ho hc hd (fun h' c' kp e => fin its r' hz h' c' kp e) (by simp only [List.size_toArray] <;> omega)
  · obtain ⟨its, r', pl, hz⟩ := I.tuple hq
    have hlen := r'.length
    obtain ⟨o, ho, hc, n, hd⟩ := pl
    exact call_list_seq p (.inr rfl) ho hc hd (fun h' c' kp e => fin its r' hz h' c' kp e) (by simp only [List.size_toArray] <;> omega)
def tyV (K : PySem.W.Frag) (T : String) (x : V) (H : Hp) : Prop := match x with
  | .str _ => T = "str"
  | .int _ => T = "int"
  | .ref p => (T = "list" ∧ ∃ xs, SqL K H p xs) ∨ (T = "tuple" ∧ ∃ o, K.lookup p = some o ∧ o.cls = .type "tuple" ∧ o.dict = none) ∨
      (T = "dict" ∧ ((∃ kvs, H p = some (.dK kvs)) ∨ ∃ kvs, H p = some (.dT kvs))) ∨ (T = "set" ∧ ∃ S n, H p = some (.set S n))
  | _ => False
theorem tyV_is {pins : List (Addr × Obj)} {σ : St} {H : Hp} {s : Shared} {T : String} {x : V} {v : Value} (I : Inv X pins σ H s) (r : RelV x v) (ty : tyV X.K T x H) :
    s.TypeIs v T ∧ ∀ a, v = .ref a → ∃ ob, s.heap.get? a = some ob ∧ ob.dict = none := by
  cases x with
  | str z =>
    obtain ⟨t, rfl⟩ := r
    cases (show T = "str" from ty)
    exact ⟨typeIs_str s z t, fun _ e => nomatch e⟩
  | int i =>
    obtain ⟨t, rfl⟩ := r
    cases (show T = "int" from ty)
    exact ⟨typeIs_int s i t, fun _ e => nomatch e⟩
  | ref p =>
    cases r
    rcases ty with ⟨rfl, xs, hq⟩ | ⟨rfl, o, hk, hc, hd⟩ | ⟨rfl, hk⟩ | ⟨rfl, S, n, hk⟩
    · obtain ⟨its, _, pl, _⟩ := I.list hq
      refine ⟨pl.isList.typeIs, fun a e => ?_⟩
      cases e
      obtain ⟨o, n, e, c, hd, _⟩ := pl
      exact ⟨o, e, hd⟩
    · refine ⟨⟨o, I.kIn p o hk, hc⟩, fun a e => ?_⟩
      cases e
      exact ⟨o, I.kIn _ o hk, hd⟩
    · have z : ∃ o, s.heap.get? p = some o ∧ o.ExactDict := by
        rcases hk with ⟨kvs, hk⟩ | ⟨kvs, hk⟩
        · obtain ⟨_, _, _, _, o, _, _, e, ex, _⟩ := I.hok p _ hk
          exact ⟨o, e, ex⟩
        · obtain ⟨_, _, _, _, o, _, _, e, ex, _⟩ := I.hok p _ hk
          exact ⟨o, e, ex⟩
      obtain ⟨o, e, ex⟩ := z
      refine ⟨⟨o, e, ex.1⟩, fun a e2 => ?_⟩
      cases e2
      exact ⟨o, e, ex.2.1⟩
    · obtain ⟨o, _, _, _, e, ex, _⟩ := I.hok p _ hk
      refine ⟨⟨o, e, ex.1⟩, fun a e2 => ?_⟩
      cases e2
      exact ⟨o, e, ex.2.1⟩
  | _ => exact False.elim ty
def tBM (K : PySem.W.Frag) (T : String) (r : V → List V → Hp → VK → Prop) (to : TE) (t : TA) : TE := fun σ H Q => to σ H fun x H1 => tyV K T x H1 ∧ t σ H1 fun xs H2 => r x xs H2 Q
variable {o e : Expr} {es : List Expr} {to : TE} {t : TA} {name : Str} {apos cpos : Pos} {T id : String} {r : V → List V → Hp → VK → Prop}
theorem pe_bm (pa : PlainAttrs T) (slot : Slot T name id) (hty : typeOf (.builtin id) = pure (.type "method_descriptor")) (hm : MtR X id r) (ho : PE X o to) (ha : PA X (e :: es) t)
    (hbase : attributeBase o name X.env (eval o X.env) = eval o X.env := by rfl)
    (hfew : ((backTo cpos (starEach (e :: es) X.env)).all (fun x => !x.1) && (backToKw cpos (keywordEach [] X.env)).all (fun x => x.1.isSome)
      && decide ((e :: es).length + ([] : List Keyword).length + (if ([] : List Keyword).isEmpty then 0 else 1) < 30)) = true := by rfl)
    (hline : (apos.endLine == cpos.line) = true := by rfl) (hs : starEach (e :: es) X.env = (false, eval e X.env) :: starEach es X.env := by rfl) (hplain : (backTo cpos (starEach es X.env)).any (·.1) = false := by rfl) :
    PE X (.Call (.Attribute o name apos) (e :: es) [] cpos) (tBM X.K T r to t) := by
  intro pins s σ H Q I h
  refine wpAny_Call_method_late hbase hfew hline rfl (thn (ho pins s σ H _ I h) fun v s1 ⟨x, H1, I1, r1, ty, q1⟩ => ?_)
  obtain ⟨h1, h2⟩ := tyV_is I1 r1 ty
  refine ⟨T, id, pa, slot, hty, h1, h2, ?_⟩
  have hA := ha cpos pins s1 σ H1 _ I1 q1
  rw [hs] at hA ⊢
  refine Calls.callWith_builtin (by show (false || (backTo cpos (starEach es X.env)).any (·.1)) = false; rw [hplain] <;> rfl) (Calls.evalArgs_plain ?_)
  exact thn hA fun us s2 ⟨vs, H2, I2, r2, q2⟩ => hm pins s2 σ H2 x vs v us Q I2 r1 r2 q2
end
end L2

namespace L2
open PySem PySem.Spec PyProof.Rows

def MtM (X : Cx) (id : String) (r : V → List V → Hp → VK → Prop) : Prop :=
  ∀ (pins : List (Addr × Obj)) (s : Shared) (σ : St) (H : Hp) (x : V) (xs : List V) (v : Value) (us : List Value) (Q : VK), Inv X pins σ H s → RelV x v → Vals xs us → r x xs H Q →
    wpAny (model X.prog X.w) X.A (call (.builtin id) (v :: us)) (EP X pins σ Q) X.xe s

theorem Vals.one : ∀ {x : V} {us : List Value}, Vals [x] us → ∃ u, us = [u] ∧ RelV x u
  | _, _, .cons r .nil => ⟨_, rfl, r⟩
theorem Vals.zero : ∀ {us : List Value}, Vals [] us → us = []
  | _, .nil => rfl
theorem Vals.eraseIdx : ∀ {xs : List V} {us : List Value} (i : Nat), Vals xs us → Vals (xs.eraseIdx i) (us.eraseIdx i)
  | _, _, _, .nil => .nil
  | _, _, 0, .cons _ t => t
  | _, _, i + 1, .cons r t => .cons r (Vals.eraseIdx i t)
theorem Vals.reverse {xs : List V} {us : List Value} (h : Vals xs us) : Vals xs.reverse us.reverse := by
  induction h with
  | nil => exact .nil
  | cons r t ih => rw [List.reverse_cons, List.reverse_cons]; exact Vals.append ih (.cons r .nil)
theorem len_erase {α : Type} : ∀ (l : List α) (i : Nat), (l.eraseIdx i).length ≤ l.length
  | [], _ => Nat.le_refl _
  | _ :: _, 0 => Nat.le_succ _
  | _ :: r, i + 1 => Nat.succ_le_succ (len_erase r i)
section
variable {X : Cx} {pins : List (Addr × Obj)} {σ : St} {H : Hp} {s : Shared} {l b : Addr} {xs ys zs : List V}

theorem Inv.lset {its its' : List Value} {n : Nat} {f : Array Value → Array Value} {t' : Nat} (I : Inv X pins σ H s) (hH : H l = some (.lst xs))
    (e : s.heap.get? l = some { cls := .type "list", data := .seq its.toArray n }) (hf : f its.toArray = its'.toArray) (hv : Vals ys its') (hz : ys.length ≤ sizeLine) :
    Inv X pins σ (upd H l (.lst ys)) { s with heap := s.heap.update l (Obj.mapSeq f), toks := t' } := by
  have q := PySem.IsL.update e f
  rw [hf] at q
  refine I.write (x := l) (e := l) (by rw [hH]; exact trivial) (.inl rfl) (fun b' u hb hu => (Heap.get?_update_other s.heap (Obj.mapSeq f) (Ne.symm hb)).trans hu) ⟨_, q⟩ ?_
  exact ⟨hz, its', _, hv, q⟩
theorem Inv.lnew {its : List Value} {t' : Nat} (I : Inv X pins σ H s) (hv : Vals ys its) (hz : ys.length ≤ sizeLine) :
    Inv X pins σ (upd H s.heap.objs.size (.lst ys)) { s with heap := s.heap.push { cls := .type "list", data := .seq its.toArray }, toks := t' } :=
  I.laid (fun _ _ q => Heap.get?_push_of_some _ q) (Nat.le_refl _) ⟨hz, its, 0, hv, Heap.get?_push_size _ rfl⟩
theorem Inv.fresh (I : Inv X pins σ H s) : H s.heap.objs.size = none := I.hok.fresh (Nat.le_refl _)
theorem Inv.lstM (I : Inv X pins σ H s) (hH : H l = some (.lst xs)) : xs.length ≤ sizeLine ∧ ∃ (its : List Value) (n : Nat), Vals xs its ∧ xs.length = its.length ∧ s.heap.get? l = some { cls := .type "list", data := .seq its.toArray n } := by
  obtain ⟨z, its, n, r, e⟩ := I.hok l _ hH
  exact ⟨z, its, n, r, r.length, e⟩

theorem notLongL {n : Nat} (h : n ≤ sizeLine) : Builtin.List.listTooLong n = false := by
  unfold Builtin.List.listTooLong
  exact decide_eq_false (by omega)
end

section
variable {X : Cx}

def rAppend : V → List V → Hp → VK → Prop := fun x vs H Q => ∃ l xs y, x = .ref l ∧ vs = [y] ∧ H l = some (.lst xs) ∧ xs.length < sizeLine ∧ Q .non (upd H l (.lst (xs ++ [y])))
theorem mt_append : MtM X "list.append" rAppend := by
  intro pins s σ H x vs v us Q I rx rv h
  obtain ⟨l, xs, y, rfl, rfl, hH, hz, q⟩ := h
  cases rx
  obtain ⟨u, rfl, ru⟩ := rv.one
  obtain ⟨z, its, n, r, hl, e⟩ := I.lstM hH
  refine call_meets F.slot_list_append ⟨_, e, rfl⟩ F.entry_list_append (F.args_list_append_2 _ _) (PySem.list_append l its.toArray n u (by rw [List.size_toArray]; omega)) ⟨e, ?_⟩
  refine ⟨.non, _, I.lset (its' := its ++ [u]) hH e (by simp) (r.append (.cons ru .nil)) ?_, rfl, q⟩
  rw [List.length_append, List.length_singleton]
  omega

def rExtend : V → List V → Hp → VK → Prop := fun x vs H Q => ∃ l b xs zs, x = .ref l ∧ vs = [.ref b] ∧ H l = some (.lst xs) ∧ H b = some (.lst zs) ∧ xs.length + zs.length ≤ sizeLine ∧ Q .non (upd H l (.lst (xs ++ zs)))
theorem mt_extend : MtM X "list.extend" rExtend := by
  intro pins s σ H x vs v us Q I rx rv h
  obtain ⟨l, b, xs, zs, rfl, rfl, hH, hB, hz, q⟩ := h
  cases rx
  obtain ⟨u, rfl, ru⟩ := rv.one
  cases ru
  obtain ⟨z, its, n, r, hl, e⟩ := I.lstM hH
  obtain ⟨z2, its2, n2, r2, hl2, e2⟩ := I.lstM hB
  have hsz : its.toArray.size + its2.toArray.size ≤ sizeLine := by rw [List.size_toArray, List.size_toArray]; omega
  have hlong : ¬ (!its.toArray.isEmpty && Builtin.List.listTooLong (its.toArray.size + its2.toArray.size)) = true := by
    rw [notLongL hsz, Bool.and_false]
    exact Bool.false_ne_true
  refine call_meets F.slot_list_extend ⟨_, e, rfl⟩ F.entry_list_extend (F.args_list_extend_2 _ _)
    (AutoSeq1.list_extend_list_list_0 l its.toArray n b its2.toArray n2 hlong (by rw [List.size_toArray]; omega) (by omega)) ⟨e, e2, ?_⟩
  refine ⟨.non, _, I.lset (its' := its ++ its2) hH e (by simp) (r.append r2) ?_, rfl, q⟩
  rw [List.length_append]
  omega

def rPopAt : V → List V → Hp → VK → Prop := fun x vs H Q => ∃ l xs i k y, x = .ref l ∧ vs = [.int i] ∧ H l = some (.lst xs) ∧ -(2 ^ 63) ≤ i ∧ i < 2 ^ 63 ∧ seqIndex? i xs.length = some k ∧ xs[k]? = some y ∧ Q y (upd H l (.lst (xs.eraseIdx k)))
theorem mt_popAt : MtM X "list.pop" rPopAt := by
  intro pins s σ H x vs v us Q I rx rv h
  obtain ⟨l, xs, i, k, y, rfl, rfl, hH, h1, h2, hk, hy, q⟩ := h
  cases rx
  obtain ⟨u, rfl, ru⟩ := rv.one
  obtain ⟨t, rfl⟩ := ru
  obtain ⟨z, its, n, r, hl, e⟩ := I.lstM hH
  obtain ⟨w, hw, rw'⟩ := r.get hy
  refine call_meets F.slot_list_pop ⟨_, e, rfl⟩ F.entry_list_pop (F.args_list_pop_2 _ _)
    (MeetsSeq.list_pop_at l its.toArray n i t k w (fitsIndex_both h1 h2) (by rw [List.size_toArray, ← hl]; exact hk) (by rw [← Array.getElem?_toList]; exact hw) (by rw [List.size_toArray]; omega)) ⟨e, ?_⟩
  refine ⟨y, _, I.lset (its' := its.eraseIdx k) hH e ?_ (r.eraseIdx k) ?_, rw', q⟩
  · show its.toArray.eraseIdxIfInBounds k = (its.eraseIdx k).toArray
    rw [List.eraseIdxIfInBounds_toArray]
  · have := len_erase xs k
    omega

def rCat : R2 := fun x y H Q => ∃ l b xs zs, x = .ref l ∧ y = .ref b ∧ H l = some (.lst xs) ∧ H b = some (.lst zs) ∧ xs.length + zs.length ≤ sizeLine ∧ ∀ p, H p = none → Q (.ref p) (upd H p (.lst (xs ++ zs)))
theorem op_cat : OpR X (binaryOp .Add) rCat := by
  intro pins s σ H x y v u Q I rx ry h
  obtain ⟨l, b, xs, zs, rfl, rfl, hH, hB, hz, q⟩ := h
  cases rx
  cases ry
  obtain ⟨z, its, n, r, hl, e⟩ := I.lstM hH
  obtain ⟨z2, its2, n2, r2, hl2, e2⟩ := I.lstM hB
  refine PySem.P.add_list e e2 ?_ (by rw [List.size_toArray, List.size_toArray]; omega)
  have ea : its.toArray ++ its2.toArray = (its ++ its2).toArray := by simp
  rw [ea]
  exact ⟨.ref _, _, I.lnew (t' := s.toks) (r.append r2) (by rw [List.length_append]; omega), rfl, q _ I.fresh⟩
end

section
variable {prog : Program} {w : World} {A : Around} {E : Value → Shared → Prop} {s : Shared}
end

section
variable {X : Cx}
end
end L2

namespace L2
open PySem PySem.Spec PyProof.Rows

theorem Vals.ints : ∀ {ns : List Int} {us : List Value}, Vals (ns.map V.int) us → IntsAre us ns
  | [], us, h => by
    rw [List.map_nil] at h
    cases h
    exact IntsAre.nil
  | n :: ns, us, h => by
    rw [List.map_cons] at h
    cases h with
    | cons r t =>
      obtain ⟨k, rfl⟩ := r
      exact IntsAre.cons n k (Vals.ints t)
theorem Vals.strs : ∀ {xs : List Str} {us : List Value}, Vals (xs.map V.str) us → StrsAre us xs
  | [], us, h => by
    rw [List.map_nil] at h
    cases h
    exact StrsAre.nil
  | x :: xs, us, h => by
    rw [List.map_cons] at h
    cases h with
    | cons r t =>
      obtain ⟨k, rfl⟩ := r
      exact StrsAre.cons x k (Vals.strs t)
theorem Vals.ref1 {a : Addr} {us : List Value} (r : Vals [V.ref a] us) : us = [Value.ref a] := by
  cases r with
  | cons r t =>
    cases t
    cases r
    rfl
section
variable {prog : Program} {w : World} {A : Around} {E : Value → Shared → Prop} {s : Shared} {l : Addr} {its : List Value} {ns : List Int} {Q : Value → Shared → Prop}
theorem sum_raw (hh : A.handled = none) (hl : s.heap.IsList l its.toArray) (hi : IntsAre its ns)
    (h : ∀ h' tk t', (∀ b o, s.heap.get? b = some o → h'.get? b = some o) → Q (.int ns.sum t') { s with heap := h', toks := tk }) : wpAny (model prog w) A (call (.builtin "sum") [.ref l]) Q E s := by
  obtain ⟨xs, e⟩ := hi.allInts.items
  have hn : numsOf (intItems xs).toList = ns := by rw [← e]; exact hi.numsOf
  rw [nums_intItems] at hn
  rw [e] at hl
  refine PySem.sum_intListG hh hl fun h' tk t' hk => ?_
  have := h h' tk t' hk
  rw [preSum_eq, List.take_of_length_le (by simp), hn]; exact this
theorem min_raw (hh : A.handled = none) (hl : s.heap.IsList l its.toArray) (hi : IntsAre its ns) (hne : 0 < ns.length)
    (h : ∀ h' tk M t', (∀ b o, s.heap.get? b = some o → h'.get? b = some o) → M ∈ ns → (∀ a, a ∈ ns → M ≤ a) → Q (.int M t') { s with heap := h', toks := tk }) : wpAny (model prog w) A (call (.builtin "min") [.ref l]) Q E s := by
  obtain ⟨xs, e⟩ := hi.allInts.items
  have hn : numsOf (intItems xs).toList = ns := by rw [← e]; exact hi.numsOf
  rw [nums_intItems] at hn
  subst hn
  rw [e] at hl
  have hsz : 0 < xs.size := by simpa using hne
  refine PySem.min_intList hh hl hsz fun v h' tk hv hk => ?_
  obtain ⟨t, rfl⟩ := intItems_at hv
  obtain ⟨h1, h2⟩ := argBest_lt (numAt xs) (xs.size - 1)
  refine h h' tk _ t hk ?_ fun a ha => ?_
  · rw [numAt_eq]; exact PySem.getD_mem (by rw [List.length_map, Array.length_toList]; omega)
  · obtain ⟨j, hj, rfl⟩ := mem_getD ha
    rw [List.length_map, Array.length_toList] at hj
    rw [← numAt_eq]; exact h2 j (by omega)
end

section
variable {X : Cx}
def rSum (K : PySem.W.Frag) : List V → Hp → VK → Prop := fun vs H Q => ∃ (a : Addr) (ns : List Int), vs = [V.ref a] ∧ SqL K H a (ns.map V.int) ∧ Q (.int ns.sum) H
def rMin (K : PySem.W.Frag) : List V → Hp → VK → Prop := fun vs H Q => ∃ (a : Addr) (ns : List Int), vs = [V.ref a] ∧ SqL K H a (ns.map V.int) ∧ 0 < ns.length ∧ ∀ m, m ∈ ns → (∀ y, y ∈ ns → m ≤ y) → Q (.int m) H
theorem cr_sum (hc : X.calm = true) : CallR X (.builtin "sum") (rSum X.K) := by
  intro pins s σ H vs us Q I r h
  obtain ⟨a, ns, rfl, hs, q⟩ := h
  obtain ⟨its, rv, hl, _⟩ := I.list hs
  rw [Vals.ref1 r]
  exact sum_raw (I.ok.hd hc) hl.isList rv.ints fun h' tk t' hk => ⟨.int _, H, I.kept hk, ⟨_, rfl⟩, q⟩
theorem cr_min (hc : X.calm = true) : CallR X (.builtin "min") (rMin X.K) := by
  intro pins s σ H vs us Q I r h
  obtain ⟨a, ns, rfl, hs, hne, q⟩ := h
  obtain ⟨its, rv, hl, _⟩ := I.list hs
  rw [Vals.ref1 r]
  exact min_raw (I.ok.hd hc) hl.isList rv.ints hne fun h' tk m t' hk h1 h2 => ⟨.int _, H, I.kept hk, ⟨_, rfl⟩, q m h1 h2⟩

end

section
variable {X : Cx}
end

section
variable {X : Cx}
end

section
variable {X : Cx}
end

mutual
inductive Dp (K : PySem.W.Frag) (H : Hp) : V → PyData → Prop
  | non : Dp K H .non .none
  | bl (b : Bool) : Dp K H (.bl b) (.bool b)
  | int (i : Int) : Dp K H (.int i) (.int i)
  | str (x : Str) : Dp K H (.str x) (.str x)
  | lst {a : Addr} {xs : List V} {ds : List PyData} : SqL K H a xs → DpAll K H xs ds → Dp K H (.ref a) (.list ds)
  | tup {a : Addr} {xs : List V} {ds : List PyData} : SqT K H a xs → DpAll K H xs ds → Dp K H (.ref a) (.tuple ds)
inductive DpAll (K : PySem.W.Frag) (H : Hp) : List V → List PyData → Prop
  | nil : DpAll K H [] []
  | cons {v : V} {vs : List V} {d : PyData} {ds : List PyData} : Dp K H v d → DpAll K H vs ds → DpAll K H (v :: vs) (d :: ds)
end
section
variable {X : Cx} {pins : List (Addr × Obj)} {σ : St} {H : Hp} {s : Shared}
mutual
theorem Dp.reads (I : Inv X pins σ H s) : ∀ (d : PyData) (v : V) (u : Value), Dp X.K H v d → RelV v u → ∃ as, Reads s.heap u d as
  | .none, _, _, h, r => by
    cases h
    cases r
    exact ⟨_, Reads.none⟩
  | .bool b, _, _, h, r => by
    cases h
    cases r
    exact ⟨_, Reads.bool b⟩
  | .int i, _, _, h, r => by
    cases h
    obtain ⟨t, rfl⟩ := r
    exact ⟨_, Reads.int i t⟩
  | .str x, _, _, h, r => by
    cases h
    obtain ⟨t, rfl⟩ := r
    exact ⟨_, Reads.str x t⟩
  | .list ds, _, _, h, r => by
    cases h with
    | lst hs ha =>
      cases r
      obtain ⟨its, rv, ⟨o, n, ho, hc, _, hd⟩, _⟩ := I.list hs
      obtain ⟨as, hr⟩ := Dp.readsAll I ds _ its ha rv
      exact ⟨_, Reads.list ho hc hd hr⟩
  | .tuple ds, _, _, h, r => by
    cases h with
    | tup hs ha =>
      cases r
      obtain ⟨its, rv, ⟨o, ho, hc, n, hd⟩, _⟩ := I.tuple hs
      obtain ⟨as, hr⟩ := Dp.readsAll I ds _ its ha rv
      exact ⟨_, Reads.tuple ho hc hd hr⟩
  | .dict _, _, _, h, _ => by cases h
theorem Dp.readsAll (I : Inv X pins σ H s) : ∀ (ds : List PyData) (vs : List V) (us : List Value), DpAll X.K H vs ds → Vals vs us → ∃ as, ReadsAll s.heap us ds as
  | [], _, _, h, r => by
    cases h
    cases r
    exact ⟨_, ReadsAll.nil⟩
  | d :: ds, _, _, h, r => by
    cases h with
    | cons h1 h2 =>
      cases r with
      | cons r1 r2 =>
        obtain ⟨as, q1⟩ := Dp.reads I d _ _ h1 r1
        obtain ⟨bs, q2⟩ := Dp.readsAll I ds _ _ h2 r2
        exact ⟨_, ReadsAll.cons q1 q2⟩
end
end
section
variable {X : Cx}
def rEqD (K : PySem.W.Frag) : R2 := fun x y H Q => ∃ d e, Dp K H x d ∧ Dp K H y e ∧ SeqAt.shaped d = true ∧ SeqAt.shaped e = true ∧ Q (.bl (PyData.eqv d e)) H
def rNeD (K : PySem.W.Frag) : R2 := fun x y H Q => ∃ d e, Dp K H x d ∧ Dp K H y e ∧ SeqAt.shaped d = true ∧ SeqAt.shaped e = true ∧ Q (.bl (!PyData.eqv d e)) H
theorem op_eqD (hu : X.A.units + 64 < cLine) : OpR X (compareOp .Eq) (rEqD X.K) := by
  intro pins s σ H x y v u Q I rx ry h
  obtain ⟨d, e, hd, he, sd, se, q⟩ := h
  obtain ⟨as, r1⟩ := Dp.reads I d x v hd rx
  obtain ⟨bs, r2⟩ := Dp.reads I e y u he ry
  exact SeqAt.compareEq_shaped r1 r2 sd se hu ⟨.bl _, H, I, rfl, q⟩
theorem op_neD (hu : X.A.units + 64 < cLine) : OpR X (compareOp .NotEq) (rNeD X.K) := by
  intro pins s σ H x y v u Q I rx ry h
  obtain ⟨d, e, hd, he, sd, se, q⟩ := h
  obtain ⟨as, r1⟩ := Dp.reads I d x v hd rx
  obtain ⟨bs, r2⟩ := Dp.reads I e y u he ry
  exact SeqAt.compareNe_shaped r1 r2 sd se hu ⟨.bl _, H, I, rfl, q⟩
end
end L2

namespace L2
open PySem PySem.Spec PyProof.Rows
abbrev CellAt (h : Heap) (c : Addr) (v : Option Value) : Prop := h.IsCell c v
def relS (scope sc : Scope) : Scope :=
  { scope with names := scope.names.map fun (n, k) => if (k == .free && sc.kind == .function && sc.names.lookup n == some .cell) then (n, .cell) else (n, k) }

def cloFrom (cells : List (Str × Addr)) : List (Str × NameKind) → List (Str × Addr) → List (Str × Addr)
  | [], acc => acc
  | (n, k) :: r, acc => if k == .free then cloFrom cells r ((n, (cells.lookup n).getD 0) :: acc) else cloFrom cells r acc

theorem closure_loop (env : Env) (f : Str × NameKind → List (Str × Addr) → Sem (ForInStep (List (Str × Addr))))
    (hf : ∀ n k c, f (n, k) c = if k == .free then (do let a ← cellOf env n; pure (.yield ((n, a) :: c))) else pure (.yield c)) :
    ∀ (names : List (Str × NameKind)) (acc : List (Str × Addr)), (∀ y ∈ names, y.2 = .free → ∃ c, env.cells.lookup y.1 = some c) → forIn names acc f = pure (cloFrom env.cells names acc)
  | [], acc, _ => by rw [List.forIn_nil]; rfl
  | (n, k) :: r, acc, h => by
    rw [List.forIn_cons, hf]
    have ih := fun acc => closure_loop env f hf r acc fun y hy => h y (List.mem_cons_of_mem _ hy)
    unfold cloFrom
    by_cases hk : (k == NameKind.free) = true
    · rw [if_pos hk, if_pos hk]
      obtain ⟨c, hc⟩ := h (n, k) List.mem_cons_self (by simpa using hk)
      have e : cellOf env n = pure c := by unfold cellOf; rw [hc]
      rw [e]
      have e2 : (env.cells.lookup n).getD 0 = c := by rw [hc]; rfl
      rw [e2]
      exact ih _
    · rw [if_neg hk, if_neg hk]
      exact ih _
theorem closure_ok {scope : Scope} {env : Env} (h : ∀ y ∈ scope.names, y.2 = .free → ∃ c, env.cells.lookup y.1 = some c) : closureFor scope env = pure (cloFrom env.cells scope.names []) := by
  simp only [closureFor]
  rw [closure_loop env _ (fun n k c => rfl) scope.names [] h]
  rfl

theorem mem_lookup {α : Type} : ∀ {l : List (Str × α)} {n : Str} {c : α}, (n, c) ∈ l → ∃ c', l.lookup n = some c'
  | (k, v) :: r, n, c, h => by
    rw [List.lookup_cons]
    cases hb : n == k with
    | true => exact ⟨_, rfl⟩
    | false =>
      rcases List.mem_cons.mp h with e | h
      · cases e; simp at hb
      · exact mem_lookup h

theorem cloFrom_mem {cells : List (Str × Addr)} : ∀ {names : List (Str × NameKind)} {acc : List (Str × Addr)} {n : Str} {c : Addr}, (n, c) ∈ cloFrom cells names acc → (n, c) ∈ acc ∨ ((n, .free) ∈ names ∧ c = (cells.lookup n).getD 0)
  | [], _, _, _, h => .inl h
  | (m, k) :: r, acc, n, c, h => by
    unfold cloFrom at h
    split at h
    · rename_i hk
      have hk : k = .free := by simpa using hk
      rcases cloFrom_mem h with h | ⟨h1, h2⟩
      · rcases List.mem_cons.mp h with e | h
        · cases e; exact .inr ⟨hk ▸ List.mem_cons_self, rfl⟩
        · exact .inl h
      · exact .inr ⟨List.mem_cons_of_mem _ h1, h2⟩
    · rcases cloFrom_mem h with h | ⟨h1, h2⟩
      · exact .inl h
      · exact .inr ⟨List.mem_cons_of_mem _ h1, h2⟩
theorem cloFrom_acc {cells : List (Str × Addr)} : ∀ {names : List (Str × NameKind)} {acc : List (Str × Addr)} {p : Str × Addr}, p ∈ acc → p ∈ cloFrom cells names acc
  | [], _, _, h => h
  | (m, k) :: r, acc, p, h => by
    unfold cloFrom
    split
    · exact cloFrom_acc (List.mem_cons_of_mem _ h)
    · exact cloFrom_acc h
theorem cloFrom_has {cells : List (Str × Addr)} : ∀ {names : List (Str × NameKind)} {acc : List (Str × Addr)} {n : Str}, (n, .free) ∈ names → (n, (cells.lookup n).getD 0) ∈ cloFrom cells names acc
  | (m, k) :: r, acc, n, h => by
    unfold cloFrom
    rcases List.mem_cons.mp h with e | h
    · cases e
      exact cloFrom_acc List.mem_cons_self
    · split
      · exact cloFrom_has h
      · exact cloFrom_has h

theorem cells_mem : ∀ {names : List (Str × NameKind)} {h : Heap} {acc : List (Str × Addr)} {x : Str} {c : Addr}, (x, c) ∈ cellsFrom h.objs.size names acc →
    (x, c) ∈ acc ∨ ((x, .cell) ∈ names ∧ h.objs.size ≤ c ∧ CellAt (pushCells h names) c none)
  | [], _, _, _, _, h => .inl h
  | (n, k) :: r, h, acc, x, c, hm => by
    unfold cellsFrom at hm
    unfold pushCells
    split at hm
    · rename_i hk
      rw [if_pos hk]
      have hk : k = .cell := by simpa using hk
      rw [← Heap.size_push h { cls := .type "cell", data := .cell none }] at hm
      rcases cells_mem hm with hm | ⟨h1, h2, h3⟩
      · rcases List.mem_cons.mp hm with e | hm
        · cases e
          exact .inr ⟨hk ▸ List.mem_cons_self, Nat.le_refl _, _, pushCells_keeps r _ _ _ (Heap.get?_push_size _ rfl), rfl⟩
        · exact .inl hm
      · rw [Heap.size_push] at h2
        exact .inr ⟨List.mem_cons_of_mem _ h1, Nat.le_of_succ_le h2, h3⟩
    · rename_i hk
      rw [if_neg hk]
      rcases cells_mem hm with hm | ⟨h1, h2, h3⟩
      · exact .inl hm
      · exact .inr ⟨List.mem_cons_of_mem _ h1, h2, h3⟩
theorem cells_acc : ∀ {names : List (Str × NameKind)} {n : Nat} {acc : List (Str × Addr)} {p : Str × Addr}, p ∈ acc → p ∈ cellsFrom n names acc
  | [], _, _, _, h => h
  | (m, k) :: r, n, acc, p, h => by
    unfold cellsFrom
    split
    · exact cells_acc (List.mem_cons_of_mem _ h)
    · exact cells_acc h
theorem cells_has : ∀ {names : List (Str × NameKind)} {n : Nat} {acc : List (Str × Addr)} {x : Str}, (x, .cell) ∈ names → ∃ c, (x, c) ∈ cellsFrom n names acc
  | (m, k) :: r, n, acc, x, h => by
    unfold cellsFrom
    rcases List.mem_cons.mp h with e | h
    · cases e
      exact ⟨n, cells_acc List.mem_cons_self⟩
    · split
      · exact cells_has h
      · exact cells_has h
theorem cells_inj : ∀ {names : List (Str × NameKind)} {h : Heap} {acc : List (Str × Addr)} {x y : Str} {c : Addr}, (∀ p ∈ acc, p.2 < h.objs.size) → (∀ x y c, (x, c) ∈ acc → (y, c) ∈ acc → x = y) →
    (x, c) ∈ cellsFrom h.objs.size names acc → (y, c) ∈ cellsFrom h.objs.size names acc → x = y
  | [], _, _, _, _, _, _, hi, h1, h2 => hi _ _ _ h1 h2
  | (n, k) :: r, h, acc, x, y, c, hl, hi, h1, h2 => by
    unfold cellsFrom at h1 h2
    split at h1
    · rename_i hk
      rw [if_pos hk] at h2
      rw [← Heap.size_push h { cls := .type "cell", data := .cell none }] at h1 h2
      refine cells_inj (h := h.push _) (fun p hp => ?_) (fun x y c a b => ?_) h1 h2
      · rw [Heap.size_push]
        rcases List.mem_cons.mp hp with rfl | hp
        · exact Nat.lt_succ_self _
        · exact Nat.lt_succ_of_lt (hl p hp)
      · rcases List.mem_cons.mp a with e | a <;> rcases List.mem_cons.mp b with e' | b
        · cases e; cases e'; rfl
        · cases e; exact absurd (hl _ b) (Nat.lt_irrefl _)
        · cases e'; exact absurd (hl _ a) (Nat.lt_irrefl _)
        · exact hi _ _ _ a b
    · rename_i hk
      rw [if_neg hk] at h2
      exact cells_inj hl hi h1 h2

theorem newEnv_comp {M : Model} {A : Around} {E : Value → Shared → Prop} {s : Shared} {scope : Scope} {globals : Addr} {closure : List (Str × Addr)} {qual : Str} {func : Option Addr} {code : Value} {around : Env} {builtins : Addr} {Q : Env → Shared → Prop}
    (h : Q (newEnv scope s.heap.objs.size globals (cellsFrom (s.heap.objs.size + 1) scope.names closure) qual func code (some around) builtins)
      { s with heap := pushCells (s.heap.push { cls := .type "dict", data := .dict #[] }) scope.names }) :
    wpAny M A (newFunctionEnv scope globals closure [] qual func code (some around) builtins) Q E s := by
  simp only [newFunctionEnv, Option.isSome_some, if_true]
  refine wpAny_bind (wpAny_alloc ?_)
  refine wpAny_bind (wpAny_layCells _ (fun n k c => rfl) scope.names closure _ _ ?_)
  rw [show ({ s with heap := s.heap.push { cls := .type "dict", data := .dict #[] } } : Shared).heap.objs.size = s.heap.objs.size + 1 from Heap.size_push ..]
  rw [List.forIn_nil]
  exact wpAny_bind (wpAny_pure (wpAny_pure h))

theorem lookup_relS {sc : Scope} : ∀ {names : List (Str × NameKind)} {x : Str} {k : NameKind},
    (names.map fun (n, k) => if (k == NameKind.free && sc.kind == .function && sc.names.lookup n == some .cell) then (n, NameKind.cell) else (n, k)).lookup x = some k →
    ∃ k', names.lookup x = some k' ∧ (k = k' ∨ (k' = .free ∧ k = .cell))
  | [], _, _, h => by simp at h
  | (n, k₀) :: r, x, k, h => by
    have ih := @lookup_relS sc r x k
    have h' : List.lookup x ((if (k₀ == NameKind.free && sc.kind == .function && sc.names.lookup n == some .cell) = true then (n, NameKind.cell) else (n, k₀)) :: (r.map _)) = some k := h
    cases hx : x == n with
    | true =>
      simp only [List.lookup_cons, hx]
      by_cases hc : (k₀ == NameKind.free && sc.kind == .function && sc.names.lookup n == some .cell) = true
      · rw [if_pos hc] at h'
        simp only [List.lookup_cons, hx] at h'
        cases h'
        simp only [Bool.and_eq_true, beq_iff_eq] at hc
        exact ⟨k₀, rfl, .inr ⟨hc.1.1, rfl⟩⟩
      · rw [if_neg hc] at h'
        simp only [List.lookup_cons, hx] at h'
        cases h'
        exact ⟨_, rfl, .inl rfl⟩
    | false =>
      simp only [List.lookup_cons, hx]
      by_cases hc : (k₀ == NameKind.free && sc.kind == .function && sc.names.lookup n == some .cell) = true
      · rw [if_pos hc] at h'
        simp only [List.lookup_cons, hx] at h'
        exact ih h'
      · rw [if_neg hc] at h'
        simp only [List.lookup_cons, hx] at h'
        exact ih h'
structure BlkOk (N : List Str) (sc scope : Scope) (own : List (Str × Nat)) : Prop where
  kind : scope.kind = .function
  uniq : ∀ y ∈ scope.names, scope.names.lookup y.1 = some y.2
  ix : ∀ p ∈ own, N[p.2]? = some p.1
  free : ∀ y ∈ scope.names, y.2 = .free → sc.names.lookup y.1 = some .cell ∨ sc.names.lookup y.1 = some .free
  own : ∀ y ∈ scope.names, y.2 = .local ∨ y.2 = .cell → y.1 ∈ own.map (·.1) ∨ y.1 ∉ N
def wipe (σ : St) : List Nat → St
  | [] => σ
  | v :: vs => (wipe σ vs).set v none
theorem wipe_length (σ : St) : ∀ vs : List Nat, (wipe σ vs).length = σ.length
  | [] => rfl
  | v :: vs => by unfold wipe; rw [List.length_set, wipe_length σ vs]
theorem wipe_some {σ : St} {i : Nat} {x : V} : ∀ {vs : List Nat}, (wipe σ vs)[i]? = some (some x) → σ[i]? = some (some x) ∧ i ∉ vs
  | [], h => ⟨h, by simp⟩
  | v :: vs, h => by
    unfold wipe at h
    by_cases hi : v = i
    · subst hi
      by_cases hv : v < (wipe σ vs).length
      · rw [List.getElem?_set_self hv] at h; cases h
      · rw [List.getElem?_eq_none (by simpa using hv)] at h; cases h
    · rw [List.getElem?_set_ne hi] at h
      obtain ⟨h1, h2⟩ := wipe_some h
      exact ⟨h1, by simp only [List.mem_cons, not_or]; exact ⟨fun e => hi e.symm, h2⟩⟩

abbrev Cx.blk (X : Cx) (s : Shared) (H : Hp) (scope : Scope) (cenv : Env) (fp : List Addr) : Cx := { X with s_0 := s, H_0 := H, env := cenv, outer := X.stack, ex := fp, fn := fun x => scope.names.lookup x == some .cell, pn := [], xe := fun _ _ => False }
section
variable {X : Cx} {pins : List (Addr × Obj)} {σ : St} {H : Hp} {s : Shared}
theorem block_start {scope : Scope} {own : List (Str × Nat)} {fp : List Addr} (I : Inv X pins σ H s) (ok : BlkOk X.N X.env.scope scope own) (hN : X.N.Nodup) (hfp : ∀ b ∈ fp, FpOk X pins H b ∧ b < s.heap.objs.size) :
    Inv (X.blk s H scope (compEnvC scope (cellsFrom (s.heap.objs.size + 1) scope.names (cloFrom X.env.cells scope.names [])) s.heap.objs.size X.env) fp) [] (wipe σ (own.map (·.2))) H { s with heap := pushCells (s.heap.push { cls := .type "dict", data := .dict #[] }) scope.names } := by
  have hfree : ∀ y ∈ scope.names, y.2 = .free → ∃ c, X.env.cells.lookup y.1 = some c := fun y hy e => by
    rcases ok.free y hy e with k | k
    · exact I.ok.has _ (.inl k)
    · exact I.ok.has _ (.inr k)
  generalize hcenv : compEnvC scope (cellsFrom (s.heap.objs.size + 1) scope.names (cloFrom X.env.cells scope.names [])) s.heap.objs.size X.env = cenv
  have kp : ∀ b o, s.heap.get? b = some o → (pushCells (s.heap.push { cls := .type "dict", data := .dict #[] }) scope.names).get? b = some o := fun b o e => pushCells_keeps _ _ _ _ (Heap.get?_push_of_some _ e)
  have hL : cenv.locals = s.heap.objs.size := by rw [← hcenv]; rfl
  have hcl : cenv.cells = cellsFrom (s.heap.objs.size + 1) scope.names (cloFrom X.env.cells scope.names []) := by rw [← hcenv]; rfl
  have hsc : cenv.scope = relS scope X.env.scope := by rw [← hcenv]; rfl
  rw [← Heap.size_push s.heap { cls := .type "dict", data := .dict #[] }] at hcl
  have cm : ∀ {y c}, (y, c) ∈ cloFrom X.env.cells scope.names [] → X.env.cells.lookup y = some c ∧ c < s.heap.objs.size := fun {y c} hm => by
    rcases cloFrom_mem hm with hm | ⟨h1, rfl⟩
    · cases hm
    · obtain ⟨c, hc⟩ := hfree _ h1 rfl
      rw [hc]
      obtain ⟨w, z⟩ := I.cell _ _ hc
      exact ⟨rfl, z.lt⟩
  have mem : ∀ {y c}, cenv.cells.lookup y = some c → (X.env.cells.lookup y = some c ∧ c < s.heap.objs.size) ∨ (s.heap.objs.size + 1 ≤ c ∧ CellAt (pushCells (s.heap.push { cls := .type "dict", data := .dict #[] }) scope.names) c none) := fun {y c} e => by
    rw [hcl] at e
    rcases cells_mem (PySem.mem_of_lookup e) with hm | ⟨_, h2, h3⟩
    · exact .inl (cm hm)
    · rw [Heap.size_push] at h2; exact .inr ⟨h2, h3⟩
  have look : ∀ {y}, scope.names.lookup y = some .free → ∃ c, cenv.cells.lookup y = some c ∧ X.env.cells.lookup y = some c := fun {y} hl => by
    have hy : (y, NameKind.free) ∈ scope.names := PySem.mem_of_lookup hl
    obtain ⟨c', e'⟩ := mem_lookup (cells_acc (names := scope.names) (n := (s.heap.push { cls := .type "dict", data := .dict #[] }).objs.size) (cloFrom_has (cells := X.env.cells) (acc := []) hy))
    rw [← hcl] at e'
    refine ⟨c', e', ?_⟩
    rw [hcl] at e'
    rcases cells_mem (PySem.mem_of_lookup e') with hm | ⟨h1, _, _⟩
    · exact (cm hm).1
    · have := ok.uniq _ h1
      rw [hl] at this; cases this
  have okB : (X.blk s H scope cenv fp).Ok := by
    refine ⟨I.ok.mod, by show cenv.scope.kind = _; rw [hsc]; exact ok.kind, by show cenv.globals = _; rw [← hcenv]; exact I.ok.glob, by show cenv.builtins = _; rw [← hcenv]; exact I.ok.blt, by show s.heap.objs.size ≤ cenv.locals; rw [hL]; exact Nat.le_refl _,
      fun y z c e1 e2 => ?_, fun y hy => ?_, fun y c z e => ?_, I.ok.hd, I.ok.frames, .inl rfl, fun b hb => ⟨?_, fun y c e z => ?_⟩, I.bs, Nat.le_trans I.ok.bsz I.sz, fun b o e hb => ?_, fun b hb z => ?_, I.stack, I.stkFree⟩
    · have e1 : cenv.cells.lookup y = some c := e1
      have e2 : cenv.cells.lookup z = some c := e2
      rw [hcl] at e1 e2
      refine cells_inj (fun p hp => ?_) (fun y z c a b => I.ok.inj y z c (cm a).1 (cm b).1) (PySem.mem_of_lookup e1) (PySem.mem_of_lookup e2)
      rw [Heap.size_push]
      exact Nat.lt_succ_of_lt (cm (y := p.1) (c := p.2) hp).2
    · show ∃ c, cenv.cells.lookup y = some c
      have key : ∀ k, cenv.kindOf y = some k → (k = .cell ∨ k = .free) → ∃ c, cenv.cells.lookup y = some c := fun k hk hk' => by
        unfold Env.kindOf at hk
        rw [hsc] at hk
        obtain ⟨k', e, r⟩ := lookup_relS hk
        have : k' = .cell ∨ k' = .free := by
          rcases r with rfl | ⟨rfl, _⟩
          · exact hk'
          · exact .inr rfl
        rcases this with rfl | rfl
        · obtain ⟨c, hm⟩ := cells_has (n := (s.heap.push { cls := .type "dict", data := .dict #[] }).objs.size) (acc := cloFrom X.env.cells scope.names []) (PySem.mem_of_lookup e)
          obtain ⟨c', e'⟩ := mem_lookup hm
          exact ⟨c', by rw [hcl]; exact e'⟩
        · obtain ⟨c, h1, _⟩ := look e
          exact ⟨c, h1⟩
      rcases hy with hy | hy
      · exact key _ hy (.inl rfl)
      · exact key _ hy (.inr rfl)
    · have z : (scope.names.lookup y == some NameKind.cell) = true := z
      have z : scope.names.lookup y = some .cell := by simpa using z
      have e : cenv.cells.lookup y = some c := e
      rw [hcl] at e
      rcases cells_mem (PySem.mem_of_lookup e) with hm | ⟨_, h2, _⟩
      · rcases cloFrom_mem hm with hm | ⟨h1, _⟩
        · cases hm
        · have q := ok.uniq _ h1
          rw [z] at q; cases q
      · rw [Heap.size_push] at h2
        exact Nat.le_of_succ_le h2
    · show b ≠ cenv.locals
      rw [hL]; exact Nat.ne_of_lt (hfp b hb).2
    · have e : cenv.cells.lookup y = some c := e
      rcases mem e with ⟨h1, _⟩ | ⟨h1, _⟩
      · exact (hfp b hb).1.2.2.2.2.1 y c h1 z
      · have h2 : s.heap.objs.size + 1 ≤ b := by rw [← z]; exact h1
        exact absurd (Nat.lt_of_lt_of_le (hfp b hb).2 (Nat.le_of_succ_le h2)) (Nat.lt_irrefl _)
    · rcases (hfp b hb).1.2.2.2.1 with z | z
      · exact I.ok.noex b o e z
      · exact absurd (Nat.lt_of_lt_of_le (Heap.lt_size e) (Nat.le_trans I.ok.bsz z)) (Nat.lt_irrefl _)
    · rcases List.mem_cons.mp (I.stkSub b z) with z | z
      · exact (hfp b hb).1.2.1 z
      · exact (hfp b hb).1.2.2.1 z
  refine ⟨okB, rfl, I.bare, Un.kept kp, ⟨fun _ => none, ?_, fun i y av e1 e2 e3 => ?_⟩, fun y c e => ?_, ?_, fun y c e => ?_, fun p hp => ?_, I.hok.kept kp, by rw [wipe_length]; exact I.len⟩
  · show Heap.Ns _ cenv.locals _
    rw [hL]
    exact Heap.Ns.keeps (Heap.Ns.new ..) fun b o e => pushCells_keeps _ _ _ _ e
  · obtain ⟨e2, hne⟩ := wipe_some e2
    have hfr : scope.names.lookup y = some .free ∧ (cenv.kindOf y = some .cell ∨ cenv.kindOf y = some .free) := by
      have key : ∀ k, cenv.scope.names.lookup y = some k → k = .local ∨ k = .cell ∨ k = .free → scope.names.lookup y = some .free ∧ (cenv.kindOf y = some .cell ∨ cenv.kindOf y = some .free) := fun k hk hk' => by
        have hk0 := hk
        rw [hsc] at hk
        obtain ⟨k', e, r⟩ := lookup_relS hk
        have no : ¬ (k' = .local ∨ k' = .cell) := fun hh => by
          rcases ok.own _ (PySem.mem_of_lookup e) hh with e' | e'
          · obtain ⟨p, hp, hpy⟩ := List.mem_map.mp e'
            have e3 := ok.ix p hp
            have : p.1 = y := hpy
            rw [this] at e3
            exact hne (List.mem_map.mpr ⟨p, hp, nodup_ix hN e3 e1⟩)
          · exact e' (List.mem_of_getElem? e1)
        rcases r with rfl | ⟨rfl, rfl⟩
        · rcases hk' with rfl | rfl | rfl
          · exact absurd (.inl rfl) no
          · exact absurd (.inr rfl) no
          · exact ⟨e, .inr hk0⟩
        · exact ⟨e, .inl hk0⟩
      have e3 : Vis cenv.scope y := e3
      rcases e3 with e3 | e3 | e3
      · exact key _ e3 (.inl rfl)
      · exact key _ e3 (.inr (.inl rfl))
      · exact key _ e3 (.inr (.inr rfl))
    obtain ⟨m, hn, hl⟩ := I.loc
    have hvis : Vis X.env.scope y := (ok.free _ (PySem.mem_of_lookup hfr.1) rfl).elim (fun k => .inr (.inl k)) (fun k => .inr (.inr k))
    obtain ⟨w, r, q⟩ := hl i y av e1 e2 hvis
    refine ⟨w, r, .inr ⟨hfr.2, ?_⟩⟩
    obtain ⟨c, h1, h2⟩ := look hfr.1
    rcases q with ⟨k, _⟩ | ⟨_, c', e', z⟩
    · have k : X.env.scope.names.lookup y = some .local := k
      rcases ok.free _ (PySem.mem_of_lookup hfr.1) rfl with k' | k' <;> rw [show X.env.scope.names.lookup y = _ from k'] at k <;> cases k
    · rw [h2] at e'; cases e'
      exact ⟨c, h1, z.keeps kp⟩
  · have e : cenv.cells.lookup y = some c := e
    rcases mem e with ⟨h1, _⟩ | ⟨_, z⟩
    · obtain ⟨w, z⟩ := I.cell y c h1
      exact ⟨w, z.keeps kp⟩
    · exact ⟨_, z⟩
  · show H cenv.locals = none
    rw [hL]; exact I.hok.fresh (Nat.le_refl _)
  · have e : cenv.cells.lookup y = some c := e
    rcases mem e with ⟨h1, _⟩ | ⟨h1, _⟩
    · exact I.freeC y c h1
    · exact I.hok.fresh (Nat.le_of_succ_le h1)
  · exact absurd (show p ∈ ([] : List (Addr × Obj)) ++ [] from hp) (by simp)

theorem app_ok {E : Value → Shared → Prop} {D : Addr} {xs : List V} {y : V} {v : Value} {Q : Value → Shared → Prop} (I : Inv X pins σ H s) (hD : H D = some (.lst xs)) (hz : xs.length < sizeLine) (r : RelV y v)
    (h : ∀ s', Inv X pins σ (upd H D (.lst (xs ++ [y]))) s' → Q .none s') : wpAny (model X.prog X.w) X.A (call (.builtin "list.append") [.ref D, v]) Q E s := by
  obtain ⟨hz', its, n, ri, e⟩ := I.hok D _ hD
  have hl := ri.length
  refine append_at (hsz := by rw [List.size_toArray]; omega) e fun h' sb ho' => ?_
  refine h { s with heap := h' } (I.write (t' := s.toks) (by rw [hD]; trivial) (.inl rfl) (fun b u hb q => (sb.2 b hb).trans q) ⟨_, ho'⟩ ⟨by rw [List.length_append]; exact hz, its ++ [v], n + 1, ri.append (.cons r .nil), ?_⟩)
  rw [ho']
  simp

def PTs (X : Cx) (ifs : List Expr) (t : TT) : Prop :=
  ∀ (pins : List (Addr × Obj)) (s : Shared) (σ : St) (H : Hp) (Q : Bool → Hp → Prop), Inv X pins σ H s → t σ H Q →
    wpAny (model X.prog X.w) X.A (forIn ifs true fun c r => if r = true then do let ok ← isTrue c X.env (eval c X.env); pure (ForInStep.yield ok) else pure (ForInStep.yield r)) (TP X pins σ Q) X.xe s
def tYes : TT := fun _ H Q => Q true H
theorem pts_nil : PTs X [] tYes := fun _ _ _ H _ I h => wpAny_tests_nil ⟨H, I, h⟩
theorem pts_one {c : Expr} {t : TT} (h : PT X c t) : PTs X [c] t := fun pins s σ H Q I hw => wpAny_tests_one (h pins s σ H Q I hw)
end

theorem thnF {α : Type} {t : Sem α} {Q Q' : α → Shared → Prop} {M : Model} {A : Around} {E : Value → Shared → Prop} {s : Shared} (h : wpAny M A t Q (fun _ _ => False) s) (hQ : ∀ a s, Q a s → Q' a s) : wpAny M A t Q' E s := wpAny_mono h hQ fun _ _ z => False.elim z

theorem compLoop_any {prog : Program} {w : World} {A : Around} {R : Result → Shared → Prop} {s : Shared} {elt target iter : Expr} {ifs : List Expr} {scope : Scope} {pos : Pos} {it acc : Value} {env : Env} (I : Nat → Shared → Prop)
    (turn : ∀ n s, I n s → wpAny (model prog w) A (pyNext it) (fun r s₁ => match r with
      | none => R (.ok .next) s₁
      | some v => wpAny (model prog w) A (letOwnedTupleGo target it v) (fun _ s₁' => wpAny (model prog w) A (assign target env v) (fun _ s₂ =>
          wpAny (model prog w) A (forIn ifs true fun c r => if r = true then do let ok ← isTrue c env (eval c env); pure (ForInStep.yield ok) else pure (ForInStep.yield r)) (fun ok s₃ =>
            if ok = true then wpAny (model prog w) A (eval elt env) (fun x s₄ =>
              wpAny (model prog w) A (call (.builtin "list.append") [acc, x]) (fun _ s₅ => ∃ m, m < n ∧ I m s₅) (notedBy (model prog w) A env fun e s' => R (.error e) s') s₄) (notedBy (model prog w) A env fun e s' => R (.error e) s') s₃
            else ∃ m, m < n ∧ I m s₃) (notedBy (model prog w) A env fun e s' => R (.error e) s') s₂) (notedBy (model prog w) A env fun e s' => R (.error e) s') s₁') (notedBy (model prog w) A env fun e s' => R (.error e) s') s₁) (notedBy (model prog w) A env fun e s' => R (.error e) s') s)
    (n : Nat) (h : I n s) :
    codeAny (model prog w) A (.compLoop (.ListComp elt [⟨target, iter, ifs, 0⟩] scope pos) 0 it acc env) R s := by
  refine codeAny_loop rfl I (fun n s hI => ?_) n h
  show wpAny _ A ((compTurn (.ListComp elt [⟨target, iter, ifs, 0⟩] scope pos) 0 it acc env).onRaise (fun x => do noteFrame x env; theTreesLotGoes x)) _ _ s
  refine wpAny_noted ?_
  rw [compTurn_list]
  refine wpAny_bind (wpAny_standAt (wpAny_bind (wpAny_mono (turn n s hI) (fun r s₁ h₁ => ?_) fun _ _ h' => h')))
  cases r with
  | none => exact wpAny_pure h₁
  | some v =>
    refine wpAny_bind (wpAny_mono h₁ (fun _ s₁' h₁' => ?_) fun _ _ h' => h')
    refine wpAny_bind (wpAny_mono h₁' (fun _ s₂ h₂ => wpAny_bind (wpAny_mono h₂ (fun ok s₃ h₃ => ?_) fun _ _ h' => h')) fun _ _ h' => h')
    cases ok with
    | false => exact wpAny_pure ⟨rfl, h₃⟩
    | true =>
      exact wpAny_bind (wpAny_bind (wpAny_mono h₃ (fun x s₄ h₄ => wpAny_bind (wpAny_mono h₄ (fun _ s₅ h₅ => wpAny_pure (wpAny_pure ⟨rfl, h₅⟩)) fun _ _ h' => h')) fun _ _ h' => h'))

section
variable {X : Cx}
def tLc (wi : TI) (g : TG) (tt : TT) (te : TE) (vs : List Nat) : TE := fun σ H Q => wi σ H fun J H1 => ∀ D, H1 D = none → ∃ W : Nat → Nat → Hp → Prop, (∃ m, W 0 m (upd H1 D (.lst []))) ∧ ∀ i m H, W i m H →
  (J.stop i H ∧ Q (.ref D) H) ∨ (J.go i H ∧ ∃ Nx : Hp → Prop, (∀ H', Nx H' → ∃ m', m' < m ∧ W (i + 1) m' H') ∧ ∀ x H', J.yld i H x H' → g x (wipe σ vs) H' fun σ2 H2 => wipe σ2 vs = wipe σ vs ∧ tt σ2 H2 fun b H3 =>
    if b = true then te σ2 H3 fun y H4 => ∃ acc, H4 D = some (.lst acc) ∧ acc.length < sizeLine ∧ Nx (upd H4 D (.lst (acc ++ [y]))) else Nx H3)
theorem lc_core {pins : List (Addr × Obj)} {s : Shared} {σ : St} {H : Hp} {Q : VK} {elt tg iter : Expr} {ifs : List Expr} {scope : Scope} {own : List (Str × Nat)} {pos pos' : Pos} {wi : TI} {g : TG} {tt : TT} {te : TE} {use : Option (Value → Sem Unit)} {Qf : Value → Shared → Prop}
    (hc : X.calm = true) (hN : X.N.Nodup) (I : Inv X pins σ H s) (hi : PI X tg iter wi) (ok : BlkOk X.N X.env.scope scope own)
    (hg : ∀ (s : Shared) (H : Hp) (C : Addr) (cl : List (Str × Addr)) (fp : List Addr), PG (X.blk s H scope (compEnvC scope cl C X.env) fp) tg g) (ht : ∀ (s : Shared) (H : Hp) (C : Addr) (cl : List (Str × Addr)) (fp : List Addr), PTs (X.blk s H scope (compEnvC scope cl C X.env) fp) ifs tt)
    (he : ∀ (s : Shared) (H : Hp) (C : Addr) (cl : List (Str × Addr)) (fp : List Addr), PE (X.blk s H scope (compEnvC scope cl C X.env) fp) elt te) (hs : ∀ x, foldedSetIterable iter X.env x = pure x)
    (h : tLc wi g tt te (own.map (·.2)) σ H Q)
    (hRR : ∀ D C s' m H', Inv X pins σ H' s' → Q (.ref D) H' → s'.heap.Ns C m → FpOk X pins H' C → compPost (model X.prog X.w) X.A X.xe use Qf (.ref D) C (.ok .next) s') :
    wpAny (model X.prog X.w) X.A (comprehension (.ListComp elt [⟨tg, iter, ifs, 0⟩] scope pos) scope X.env pos' (newList []) false (eval iter X.env) use) Qf X.xe s := by
  have hfree : ∀ y ∈ scope.names, y.2 = .free → ∃ c, X.env.cells.lookup y.1 = some c := fun y hy e => by
    rcases ok.free y hy e with k | k
    · exact I.ok.has _ (.inl k)
    · exact I.ok.has _ (.inr k)
  refine wpAny_comprehension_free (use := use) rfl hs (closure_ok hfree) ok.kind (fun y hy e => by rw [ok.uniq y hy, e])
    (thn (hi pins s σ H _ I h) fun xv s1 hx => thn hx fun itv s2 h2 => ?_)
  obtain ⟨it, fp, tn, J, H2, e, I2, T, st2, f2, q⟩ := h2
  subst e
  refine wpAny_newObj_type (newEnv_comp ?_) (by show 0 ≤ sizeLine; decide)
  generalize hD : s2.heap.objs.size = D
  have hDn : H2 D = none := I2.hok.fresh (Nat.le_of_eq hD)
  obtain ⟨W, ⟨m0, w0⟩, turn⟩ := q D hDn
  generalize hs3 : ({ s2 with heap := s2.heap.push { cls := .type "list", data := .seq ([] : List Value).toArray } } : Shared) = s3
  have I3 : Inv X pins σ (upd H2 D (.lst [])) s3 := by
    rw [← hs3]
    refine I2.laid (t' := s2.toks) (fun b o e => Heap.get?_push_of_some _ e) (Nat.le_of_eq hD) ⟨Nat.zero_le _, [], 0, .nil, ?_⟩
    rw [← hD]
    exact Heap.get?_push_size _ rfl
  have h3 : s3.heap = s2.heap.push { cls := .type "list", data := .seq ([] : List Value).toArray } := by rw [← hs3]
  have sz : ∀ b ∈ fp, b < s2.heap.objs.size := fun b hb => by
    obtain ⟨o, e, _⟩ := T.obj _ _ st2 b hb
    exact Heap.lt_size e
  have f3 : ∀ b ∈ fp, FpOk X pins (upd H2 D (.lst [])) b ∧ b < s3.heap.objs.size := fun b hb => by
    have hlt := sz b hb
    refine ⟨⟨?_, (f2 b hb).2⟩, by rw [h3, Heap.size_push]; exact Nat.lt_succ_of_lt hlt⟩
    rw [upd_ne (by rw [← hD]; exact Nat.ne_of_lt hlt)]
    exact (f2 b hb).1
  have st3 : tn 0 s3.heap := T.keep _ _ _ st2 fun b _ o e => by rw [h3]; exact Heap.get?_push_of_some _ e
  have I4 := block_start I3 ok hN f3
  have pg := hg s3 (upd H2 D (.lst [])) s3.heap.objs.size (cellsFrom (s3.heap.objs.size + 1) scope.names (cloFrom X.env.cells scope.names [])) fp
  have pt := ht s3 (upd H2 D (.lst [])) s3.heap.objs.size (cellsFrom (s3.heap.objs.size + 1) scope.names (cloFrom X.env.cells scope.names [])) fp
  have pe := he s3 (upd H2 D (.lst [])) s3.heap.objs.size (cellsFrom (s3.heap.objs.size + 1) scope.names (cloFrom X.env.cells scope.names [])) fp
  show codeAny _ _ (.compStart (.ListComp elt [⟨tg, iter, ifs, 0⟩] scope pos) 0 (.ref it) (.ref D) (compEnvC scope (cellsFrom (s3.heap.objs.size + 1) scope.names (cloFrom X.env.cells scope.names [])) s3.heap.objs.size X.env)) (compPost (model X.prog X.w) X.A X.xe use Qf (.ref D) s3.heap.objs.size) { s3 with heap := pushCells (s3.heap.push { cls := .type "dict", data := .dict #[] }) scope.names }
  have nfp : ∀ b ∈ fp, (upd H2 D (.lst [])) b = none := fun b hb => (f3 b hb).1.1
  generalize hce : compEnvC scope (cellsFrom (s3.heap.objs.size + 1) scope.names (cloFrom X.env.cells scope.names [])) s3.heap.objs.size X.env = ce at I4 pg pt pe ⊢
  have cL : ce.locals = s3.heap.objs.size := by subst hce; rfl
  generalize hH3 : upd H2 D (.lst []) = H3 at I3 I4 pg pt pe w0 nfp f3
  generalize hs4 : ({ s3 with heap := pushCells (s3.heap.push { cls := .type "dict", data := .dict #[] }) scope.names } : Shared) = s4 at I4 ⊢
  have st4 : tn 0 s4.heap := T.keep _ _ _ st3 fun b _ o e => by rw [← hs4]; exact pushCells_keeps _ _ _ _ (Heap.get?_push_of_some _ e)
  have stat : ∀ {σ' : St} {H' : Hp} {s' : Shared}, Inv (X.blk s3 H3 scope ce fp) [] σ' H' s' → (∀ b ∈ fp, H' b = none) → ∀ b ∈ fp, FpOk (X.blk s3 H3 scope ce fp) [] H' b := fun {σ' H' s'} I' hn b hb =>
    ⟨hn b hb, (I'.ok.exf b hb).1, I'.ok.exfs b hb, .inl hb, fun x c e => (I'.ok.exf b hb).2 x c e, fun p hp => absurd (show p ∈ ([] : List (Addr × Obj)) ++ [] from hp) (by simp)⟩
  have loop : codeAny (model X.prog X.w) X.A (.compLoop (.ListComp elt [⟨tg, iter, ifs, 0⟩] scope pos) 0 (.ref it) (.ref D) ce) (compPost (model X.prog X.w) X.A X.xe use Qf (.ref D) s3.heap.objs.size) s4 := by
    refine compLoop_any (fun n s' => ∃ i H', Inv (X.blk s3 H3 scope ce fp) [] (wipe σ (own.map (·.2))) H' s' ∧ tn i s'.heap ∧ (∀ b ∈ fp, H' b = none) ∧ W i n H') ?_ m0 ⟨0, H3, I4, st4, nfp, w0⟩
    rintro n s5 ⟨i, H5, I5, st5, n5, w5⟩
    rcases turn i n H5 w5 with ⟨stop, qq⟩ | ⟨go, Nx, hNx, step⟩
    · have td := T.done (X.blk s3 H3 scope ce fp) rfl rfl rfl hc i [] s5 _ H5 (fun _ _ => False) I5 (stat I5 n5) st5 stop
      refine thnF td fun r s6 ⟨hr, I6⟩ => ?_
      subst hr
      have I7 : Inv X pins σ H5 s6 := I3.call' (ch := fp) I6.os I6.base I6.hok I6.bare fun b hb => ⟨(f3 b hb).1.2.2.2.1, (f3 b hb).1.2.1, (f3 b hb).1.2.2.2.2.1, (f3 b hb).1.2.2.2.2.2⟩
      have nC : H5 s3.heap.objs.size = none := by
        have z : H5 ce.locals = none := I6.free
        rw [cL] at z
        exact z
      obtain ⟨m, hn, _⟩ := I6.loc
      have hn : s6.heap.Ns ce.locals m := hn
      rw [cL] at hn
      exact hRR D s3.heap.objs.size s6 m H5 I7 qq hn (I3.fpOk (Nat.le_refl _) nC)
    · have ti := T.item (X.blk s3 H3 scope ce fp) rfl rfl rfl hc i [] s5 _ H5 (fun _ _ => False) I5 (stat I5 n5) st5 go
      refine thnF ti fun r s6 ⟨u, hr, h6⟩ => ?_
      subst hr
      refine thnF h6 fun _ s7 ⟨x, H7, I7, r7, y7, st7, n7⟩ => ?_
      have I7' := I7.pinned (stat I7 n7) (T.obj _ _ st7)
      refine thnF (pg _ s7 _ H7 x u _ I7' r7 (step x H7 y7)) fun _ s8 ⟨σ8, H8, I8, hw8, q8⟩ => ?_
      refine thnF (pt _ s8 σ8 H8 _ I8 q8) fun b s9 ⟨H9, I9, q9⟩ => ?_
      have fin : ∀ {s' : Shared} {H' : Hp}, Inv (X.blk s3 H3 scope ce fp) ([] ++ pinsAt fp s7.heap) σ8 H' s' → Nx H' → ∃ m, m < n ∧ ∃ i H', Inv (X.blk s3 H3 scope ce fp) [] (wipe σ (own.map (·.2))) H' s' ∧ tn i s'.heap ∧ (∀ b ∈ fp, H' b = none) ∧ W i m H' := fun {s' H'} I' nx => by
        obtain ⟨m', hm, w'⟩ := hNx H' nx
        have pin' : ∀ b ∈ fp, ∀ o, s7.heap.get? b = some o → s'.heap.get? b = some o ∧ H' b = none := fun b hb o e =>
          let z := I'.pin (b, o) (List.mem_append_right _ (List.mem_append_right _ (mem_pinsAt hb e)))
          ⟨z.1, z.2.1⟩
        have hl : (wipe σ (own.map (·.2))).length = σ8.length := by rw [← hw8, wipe_length]
        refine ⟨m', hm, i + 1, H', (I'.unpinned (pins := [])).weak hl (fun j v e => ?_), T.keep _ _ _ st7 fun b hb o e => (pin' b hb o e).1, fun b hb => ?_, w'⟩
        · rw [← hw8] at e
          exact (wipe_some e).1
        · obtain ⟨o, e, _⟩ := T.obj _ _ st7 b hb
          exact (pin' b hb o e).2
      cases b with
      | false =>
        simp only [Bool.false_eq_true, if_false] at q9 ⊢
        exact fin I9 q9
      | true =>
        simp only [if_true] at q9 ⊢
        refine thnF (pe _ s9 σ8 H9 _ I9 q9) fun z s10 ⟨yv, H10, I10, r10, acc, hD10, hz10, nx⟩ => ?_
        exact app_ok (X := X.blk s3 H3 scope ce fp) I10 hD10 hz10 r10 fun s11 I11 => fin I11 nx
  exact codeAny_compStart_list loop (T.self X.A 0 _ _ _ st4 loop)
theorem pe_lc {elt tg iter : Expr} {ifs : List Expr} {scope : Scope} {own : List (Str × Nat)} {pos : Pos} {wi : TI} {g : TG} {tt : TT} {te : TE} (hc : X.calm = true) (hN : X.N.Nodup) (hi : PI X tg iter wi) (ok : BlkOk X.N X.env.scope scope own)
    (hg : ∀ (s : Shared) (H : Hp) (C : Addr) (cl : List (Str × Addr)) (fp : List Addr), PG (X.blk s H scope (compEnvC scope cl C X.env) fp) tg g) (ht : ∀ (s : Shared) (H : Hp) (C : Addr) (cl : List (Str × Addr)) (fp : List Addr), PTs (X.blk s H scope (compEnvC scope cl C X.env) fp) ifs tt)
    (he : ∀ (s : Shared) (H : Hp) (C : Addr) (cl : List (Str × Addr)) (fp : List Addr), PE (X.blk s H scope (compEnvC scope cl C X.env) fp) elt te) (hs : ∀ x, foldedSetIterable iter X.env x = pure x := by intro _; rfl) :
    PE X (.ListComp elt [⟨tg, iter, ifs, 0⟩] scope pos) (tLc wi g tt te (own.map (·.2))) := by
  intro pins s σ H Q I h
  rw [eval_ListComp]
  refine lc_core hc hN I hi ok hg ht he hs h fun D C s' m H' I' q hn f => ⟨m, hn, fun h'' sb => ?_⟩
  obtain ⟨f0, f1, f2, f3, f4, f5⟩ := f
  exact ⟨.ref D, H', I'.turned (t' := s'.toks) (fun b o hb e => (sb.2 b hb).trans e) f0 f1 f3 f4 f5, rfl, q⟩
theorem ps_setLc {i : Nat} {y : Str} {py : Pos} {elt tg iter : Expr} {ifs : List Expr} {scope : Scope} {own : List (Str × Nat)} {pos spos : Pos} {wi : TI} {g : TG} {tt : TT} {te : TE} (hc : X.calm = true) (hN : X.N.Nodup) (hy : X.N[i]? = some y) (hyl : X.env.scope.names.lookup y = some .local)
    (hsw : swapsWith (.ListComp elt [⟨tg, iter, ifs, 0⟩] scope pos) (some (.Name y py)) spos.line X.env = pure true) (hi : PI X tg iter wi) (ok : BlkOk X.N X.env.scope scope own)
    (hg : ∀ (s : Shared) (H : Hp) (C : Addr) (cl : List (Str × Addr)) (fp : List Addr), PG (X.blk s H scope (compEnvC scope cl C X.env) fp) tg g) (ht : ∀ (s : Shared) (H : Hp) (C : Addr) (cl : List (Str × Addr)) (fp : List Addr), PTs (X.blk s H scope (compEnvC scope cl C X.env) fp) ifs tt)
    (he : ∀ (s : Shared) (H : Hp) (C : Addr) (cl : List (Str × Addr)) (fp : List Addr), PE (X.blk s H scope (compEnvC scope cl C X.env) fp) elt te) (hs : ∀ x, foldedSetIterable iter X.env x = pure x := by intro _; rfl) :
    PS X (.Assign [.Name y py] (.ListComp elt [⟨tg, iter, ifs, 0⟩] scope pos) spos) (tAsg (tLc wi g tt te (own.map (·.2))) (gName i)) := by
  intro pins s σ H D I h
  rw [exec_Assign_Name_used _ _ _ _ hsw]
  refine wpAny_bind (wpAny_standAt (wpAny_bind ?_))
  show wpAny _ X.A (do let _ ← comprehension (.ListComp elt [⟨tg, iter, ifs, 0⟩] scope pos) scope X.env (firstIterPos [⟨tg, iter, ifs, 0⟩] pos) (newList []) false (eval iter X.env) (some (assign (.Name y py) X.env))) _ _ s
  have h : tLc wi g tt te (own.map (·.2)) σ H (fun x H1 => gName i x σ H1 D.nx) := h
  refine wpAny_bind (thn (lc_core (Qf := fun _ s' => SP X pins D .next s') hc hN I hi ok hg ht he hs h fun L C s' m H' I' q hn f => ?_) fun _ s' hq => wpAny_pure (wpAny_pure hq))
  show wpAny _ _ (assign (.Name y py) X.env (.ref L)) _ _ _
  refine wpAny_assign_Name (store_ok2 (v := V.ref L) I' hN hy (.inl hyl) rfl (fun s2 I2 ⟨a, sb, ha⟩ => ?_) (.inr hyl))
  obtain ⟨f0, f1, f2, f3, f4, f5⟩ := f
  have haC : C ≠ a := by
    rcases ha with z | z
    · rw [z]; exact f1
    · exact fun e => f4 y a z e.symm
  refine ⟨m, hn.sameBut sb haC, fun h3 sb3 => ?_⟩
  exact ⟨_, H', I2.turned (t' := s2.toks) (fun b o hb e => (sb3.2 b hb).trans e) f0 f1 f3 f4 f5, q⟩
theorem sw_true {elt : Expr} {gs : List Comprehension} {scope : Scope} {pos py : Pos} {y : Str} {l : Nat} {env : Env} (hk : env.scope.kind = .function) (hy : env.scope.names.lookup y = some .local) (hl : (py.line == pos.line) = true)
    (ha : (scope.names.any fun (n, k) => n == y && (k == .local || k == .cell)) = false) : swapsWith (.ListComp elt gs scope pos) (some (.Name y py)) l env = pure true := by
  have ky : env.kindOf y = some .local := hy
  have hb : env.blockKind = .function := by unfold Env.blockKind; rw [hk]; rfl
  unfold swapsWith
  simp only [hb, ky, ha, Expr.pos, hl]
  rfl
end

theorem lc_range {lo : Int} {n : Nat} {g : TG} {tt : TT} {te : TE} {vs : List Nat} {σ : St} {H1 : Hp} {D : Addr} {Qd : Hp → Prop} (Pv : Nat → Hp → Prop) (h0 : Pv 0 (upd H1 D (.lst [])))
    (hs : ∀ i H, i < n → Pv i H → g (.int (lo + i)) (wipe σ vs) H fun σ2 H2 => wipe σ2 vs = wipe σ vs ∧ tt σ2 H2 fun b H3 =>
      if b = true then te σ2 H3 fun y H4 => ∃ acc, H4 D = some (.lst acc) ∧ acc.length < sizeLine ∧ Pv (i + 1) (upd H4 D (.lst (acc ++ [y]))) else Pv (i + 1) H3) (hd : ∀ H, Pv n H → Qd H) :
    ∃ W : Nat → Nat → Hp → Prop, (∃ m, W 0 m (upd H1 D (.lst []))) ∧ ∀ i m H, W i m H →
      ((Itr lo n).stop i H ∧ Qd H) ∨ ((Itr lo n).go i H ∧ ∃ Nx : Hp → Prop, (∀ H', Nx H' → ∃ m', m' < m ∧ W (i + 1) m' H') ∧ ∀ x H', (Itr lo n).yld i H x H' → g x (wipe σ vs) H' fun σ2 H2 => wipe σ2 vs = wipe σ vs ∧ tt σ2 H2 fun b H3 =>
        if b = true then te σ2 H3 fun y H4 => ∃ acc, H4 D = some (.lst acc) ∧ acc.length < sizeLine ∧ Nx (upd H4 D (.lst (acc ++ [y]))) else Nx H3) := by
  refine ⟨fun i m H => m = n - i ∧ i ≤ n ∧ Pv i H, ⟨n, by simp, Nat.zero_le _, h0⟩, ?_⟩
  rintro i m H ⟨rfl, hi, p⟩
  by_cases hlt : i < n
  · refine .inr ⟨hlt, Pv (i + 1), fun H' p' => ⟨n - (i + 1), by omega, rfl, hlt, p'⟩, fun x H' y => ?_⟩
    obtain ⟨e, y⟩ := y
    subst e y
    exact hs i _ hlt p
  · have e : i = n := by omega
    subst e
    exact .inl ⟨Nat.le_refl _, hd H p⟩
theorem lc_list {K : PySem.W.Frag} {a : Addr} {xs : List V} {g : TG} {tt : TT} {te : TE} {vs : List Nat} {σ : St} {H1 : Hp} {D : Addr} {Qd : Hp → Prop} (Pv : Nat → Hp → Prop) (h0 : Pv 0 (upd H1 D (.lst []))) (hl : ∀ i H, i ≤ xs.length → Pv i H → SqL K H a xs)
    (hs : ∀ i x H, xs[i]? = some x → Pv i H → g x (wipe σ vs) H fun σ2 H2 => wipe σ2 vs = wipe σ vs ∧ tt σ2 H2 fun b H3 =>
      if b = true then te σ2 H3 fun y H4 => ∃ acc, H4 D = some (.lst acc) ∧ acc.length < sizeLine ∧ Pv (i + 1) (upd H4 D (.lst (acc ++ [y]))) else Pv (i + 1) H3) (hd : ∀ H, Pv xs.length H → Qd H) :
    ∃ W : Nat → Nat → Hp → Prop, (∃ m, W 0 m (upd H1 D (.lst []))) ∧ ∀ i m H, W i m H →
      ((Itl K a).stop i H ∧ Qd H) ∨ ((Itl K a).go i H ∧ ∃ Nx : Hp → Prop, (∀ H', Nx H' → ∃ m', m' < m ∧ W (i + 1) m' H') ∧ ∀ x H', (Itl K a).yld i H x H' → g x (wipe σ vs) H' fun σ2 H2 => wipe σ2 vs = wipe σ vs ∧ tt σ2 H2 fun b H3 =>
        if b = true then te σ2 H3 fun y H4 => ∃ acc, H4 D = some (.lst acc) ∧ acc.length < sizeLine ∧ Nx (upd H4 D (.lst (acc ++ [y]))) else Nx H3) := by
  refine ⟨fun i m H => m = xs.length - i ∧ i ≤ xs.length ∧ Pv i H, ⟨xs.length, by simp, Nat.zero_le _, h0⟩, ?_⟩
  rintro i m H ⟨rfl, hi, p⟩
  have q := hl i H hi p
  by_cases hlt : i < xs.length
  · refine .inr ⟨⟨xs, xs[i], q, by simp [hlt]⟩, Pv (i + 1), fun H' p' => ⟨xs.length - (i + 1), by omega, rfl, hlt, p'⟩, fun x H' y => ?_⟩
    obtain ⟨e, y⟩ := y
    subst e
    exact hs i x _ (y xs q) p
  · have e : i = xs.length := by omega
    subst e
    exact .inl ⟨⟨xs, q, Nat.le_refl _⟩, hd H p⟩
def blkC (N : List Str) (sc scope : Scope) (own : List (Str × Nat)) : Bool :=
  (match scope.kind with | .function => true | _ => false) && (scope.names.all fun y => decide (scope.names.lookup y.1 = some y.2)) && (own.all fun p => decide (N[p.2]? = some p.1)) &&
    (scope.names.all fun y => match y.2 with
      | .free => (match sc.names.lookup y.1 with | some .cell => true | some .free => true | _ => false)
      | .local => decide (y.1 ∈ own.map (·.1)) || decide (y.1 ∉ N)
      | .cell => decide (y.1 ∈ own.map (·.1)) || decide (y.1 ∉ N)
      | _ => true)
theorem blkOk_by {N : List Str} {sc scope : Scope} {own : List (Str × Nat)} (h : blkC N sc scope own = true) : BlkOk N sc scope own := by
  unfold blkC at h
  simp only [Bool.and_eq_true, List.all_eq_true, decide_eq_true_eq] at h
  obtain ⟨⟨⟨h1, h2⟩, h3⟩, h4⟩ := h
  refine ⟨?_, h2, h3, fun y hy e => ?_, fun y hy e => ?_⟩
  · split at h1
    · assumption
    · cases h1
  · have q := h4 y hy
    simp only [e] at q
    split at q <;> first | exact .inl (by assumption) | exact .inr (by assumption) | cases q
  · have q := h4 y hy
    rcases e with e | e <;> (simp only [e, Bool.or_eq_true, decide_eq_true_eq] at q; exact q)
end L2

namespace L2
open PySem PySem.Spec PyProof.Rows

section
variable {prog : Program} {w : World} {A : Around} {R : Result → Shared → Prop} {s : Shared} {elt t0 i0 t1 i1 : Expr} {ifs0 ifs1 : List Expr} {scope : Scope} {pos : Pos} {it acc : Value} {env : Env}
end

section
variable {X : Cx}
end
end L2

namespace L2
open PySem PySem.Spec PyProof.Rows

section
variable {κ : Type} [DecidableEq κ]
def valV (kvs : List (κ × V)) (k : κ) : Option V := (kvs.find? fun kv => decide (kv.1 = k)).map (·.2)
def putK (kvs : List (κ × V)) (k : κ) (v : V) : List (κ × V) :=
  if (kvs.any fun kv => decide (kv.1 = k)) = true then kvs.map (fun kv => if kv.1 = k then (kv.1, v) else kv) else kvs ++ [(k, v)]
def dropK (kvs : List (κ × V)) (k : κ) : List (κ × V) := kvs.filter fun kv => decide (kv.1 ≠ k)

theorem RelO.getD {o : Option V} {u : Option Value} {d : V} {d' : Value} (r : RelO o u) (rd : RelV d d') : RelV (o.getD d) (u.getD d') := by
  cases o with
  | none => cases u with
    | none => exact rd
    | some _ => exact (show False from r).elim
  | some _ => cases u with
    | none => exact (show False from r).elim
    | some _ => exact r

theorem KV.any {kvs : List (κ × V)} {vs : List (κ × Value)} (r : KV kvs vs) (k : κ) : (kvs.any fun kv => decide (kv.1 = k)) = vs.any fun kv => decide (kv.1 = k) := by
  unfold KV at r
  induction r with
  | nil => rfl
  | cons h t ih => rw [List.any_cons, List.any_cons, ih, h.1]
theorem KV.drop {kvs : List (κ × V)} {vs : List (κ × Value)} (r : KV kvs vs) (k : κ) : KV (dropK kvs k) (without vs k) := by
  unfold KV at r ⊢
  unfold dropK without
  induction r with
  | nil => exact .nil
  | @cons p q ps qs h t ih =>
    obtain ⟨h1, h2⟩ := h
    rw [List.filter_cons, List.filter_cons]
    by_cases e : p.1 = k
    · have a : ¬ decide (p.1 ≠ k) = true := by simp [e]
      have b : ¬ decide (q.1 ≠ k) = true := by simp [h1.symm.trans e]
      rw [if_neg a, if_neg b]; exact ih
    · have e' : ¬ q.1 = k := fun z => e (h1.trans z)
      have a : decide (p.1 ≠ k) = true := by simp [e]
      have b : decide (q.1 ≠ k) = true := by simp [e']
      rw [if_pos a, if_pos b]; exact .cons ⟨h1, h2⟩ ih
theorem KV.keys {kvs : List (κ × V)} {vs : List (κ × Value)} (r : KV kvs vs) : kvs.map (·.1) = vs.map (·.1) := by
  unfold KV at r
  induction r with
  | nil => rfl
  | cons h t ih => rw [List.map_cons, List.map_cons, ih, h.1]
theorem KV.length {kvs : List (κ × V)} {vs : List (κ × Value)} (r : KV kvs vs) : kvs.length = vs.length := Paired.length r
end


abbrev KT (H : Hp) : List (List Key × V) → List (List Key × Addr × Value) → Prop := Paired fun p q => p.1 = q.1 ∧ H q.2.1 = some (.tup (p.1.map kV)) ∧ RelV p.2 q.2.2
theorem KT.keeps {H H' : Hp} {kvs : List (List Key × V)} {xs : List (List Key × Addr × Value)} (r : KT H kvs xs) (ht : ∀ b ys, H b = some (.tup ys) → H' b = some (.tup ys)) : KT H' kvs xs :=
  Paired.mapP r fun _ _ z => ⟨z.1, ht _ _ z.2.1, z.2.2⟩

section
variable {P : Program} {w : World} {H : Hp} {h : Heap} {a : Addr}
end

def DGet (H : Hp) (a : Addr) (y : V) (r : Option V) : Prop :=
  (∃ kvs k, Rd H a (.dK kvs) ∧ y = kV k ∧ r = valV kvs k) ∨ ∃ kvs k b, Rd H a (.dT kvs) ∧ y = .ref b ∧ H b = some (.tup (k.map kV)) ∧ r = valV kvs k
def DPut (H : Hp) (a : Addr) (y v : V) (H' : Hp) : Prop :=
  (∃ kvs k, H a = some (.dK kvs) ∧ y = kV k ∧ kvs.length < sizeLine ∧ H' = upd H a (.dK (putK kvs k v))) ∨
  ∃ kvs k b, H a = some (.dT kvs) ∧ y = .ref b ∧ H b = some (.tup (k.map kV)) ∧ kvs.length < sizeLine ∧ H' = upd H a (.dT (putK kvs k v))
theorem DGet.k {H : Hp} {a : Addr} {kvs : List (Key × V)} {k : Key} (e : H a = some (.dK kvs)) : DGet H a (kV k) (valV kvs k) := .inl ⟨kvs, k, .inl e, rfl, rfl⟩
theorem DGet.t {H : Hp} {a b : Addr} {kvs : List (List Key × V)} {k : List Key} (e : H a = some (.dT kvs)) (eb : H b = some (.tup (k.map kV))) : DGet H a (.ref b) (valV kvs k) := .inr ⟨kvs, k, b, .inl e, rfl, eb, rfl⟩
theorem DPut.k {H : Hp} {a : Addr} {kvs : List (Key × V)} {k : Key} {v : V} (e : H a = some (.dK kvs)) (hl : kvs.length < sizeLine) : DPut H a (kV k) v (upd H a (.dK (putK kvs k v))) := .inl ⟨kvs, k, e, rfl, hl, rfl⟩
theorem DPut.t {H : Hp} {a b : Addr} {kvs : List (List Key × V)} {k : List Key} {v : V} (e : H a = some (.dT kvs)) (eb : H b = some (.tup (k.map kV))) (hl : kvs.length < sizeLine) :
    DPut H a (.ref b) v (upd H a (.dT (putK kvs k v))) := .inr ⟨kvs, k, b, e, rfl, eb, hl, rfl⟩


section
variable {X : Cx} {pins : List (Addr × Obj)} {σ : St} {H : Hp} {s : Shared} {a : Addr} {y v : V} {u r : Value} {o : Option V} {A : Around} {E : Value → Shared → Prop}

theorem Inv.big (I : Inv X pins σ H s) : sysModules < s.heap.objs.size := by
  have h : mainGlobals < s.heap.objs.size := (I.mod.glob.keeps I.bk).lt
  exact Nat.lt_trans (by decide) h

end

section
variable {X : Cx} {pins : List (Addr × Obj)} {σ : St} {H : Hp} {s : Shared} {a : Addr} {kvs : List (Key × V)} {k : Key} {u : Value} {A : Around} {E : Value → Shared → Prop}
end


section
variable {X : Cx} {o i e value : Expr} {pos pos' tpos : Pos} {td ty tv : TE}
end


section
variable {X : Cx} {pos : Pos}
end

section
variable {X : Cx} {pins : List (Addr × Obj)} {σ : St} {H : Hp} {s : Shared} {a : Addr} {y d : V} {u r : Value} {o : Option V} {A : Around} {E : Value → Shared → Prop}
end

section
variable {X : Cx} {o e f : Expr} {apos cpos : Pos} {td ty tx : TE}
end

section
variable {X : Cx} {pins : List (Addr × Obj)} {σ : St} {H : Hp} {s : Shared} {a : Addr} {kvs : List (Key × V)} {A : Around} {E : Value → Shared → Prop}
end


section
variable {X : Cx} {pins : List (Addr × Obj)} {σ : St} {H : Hp} {s : Shared} {a : Addr} {y : V} {u : Value} {A : Around} {E : Value → Shared → Prop}
end
end L2

namespace L2
open PySem PySem.Spec PyProof.Rows

section
variable {prog : Program} {w : World} {A : Around} {E : Value → Shared → Prop}
end

section
variable {X : Cx}
end
end L2

namespace L2
open PySem PySem.Spec PyProof.Rows

theorem boot_reversed5 : bootBuiltins "reversed" = some (.type "reversed") := by decide +kernel

section
variable {X : Cx} {pins : List (Addr × Obj)} {σ : St} {H : Hp} {s : Shared} {h' : Heap}
theorem Inv.turnedNew {t' : Nat} {ch : List Addr} {T : Addr} {ob : HO} (I : Inv X pins σ H s) (k : ∀ b o, b ∉ ch → s.heap.get? b = some o → h'.get? b = some o) (hf : ∀ b ∈ ch, FpOk X pins H b) (hT : s.heap.objs.size ≤ T)
    (new : ObjOk X.prog X.w (upd H T ob) h' T ob) : Inv X pins σ (upd H T ob) { s with heap := h', toks := t' } := by
  have hn : H T = none := I.hok.fresh hT
  have nit : ∀ b u, H b = some u → b ∉ ch := fun b u e z => by
    have q := (hf b z).1
    rw [q] at e; cases e
  refine I.step (g' := s.gens) (d' := s.drawn) (ch := ch) (fun b hb => ⟨(hf b hb).2.2.2.1, (hf b hb).2.1, (hf b hb).2.2.2.2.1, (hf b hb).2.2.2.2.2⟩) (fun b o _ _ hc e _ => k b o hc e) (fun b o _ _ hc e _ => ⟨o.slots, k b o hc e⟩)
    (fun b o _ e n => ?_) (fun b o hc e => ⟨o, k b o hc e⟩) (fun b xs e => ?_) (fun b o u e => ?_) (fun b ps e => ⟨#[], ?_⟩) (fun m hm => ?_) (fun b u e => ?_) I.bare
  · rw [upd_ne (Nat.ne_of_lt (Nat.lt_of_lt_of_le (Heap.lt_size e) hT))]; exact n
  · rw [upd_ne (ne_of_none e hn)]; exact e
  · rw [upd_ne (ne_of_none e hn)]; exact e
  · rw [upd_ne (ne_of_none e hn), e]; simp
  · obtain ⟨o, es, ep, ho, r⟩ := hm
    exact ⟨o, es, ep, k _ o (fun z => (hf _ z).2.1 rfl) ho, r⟩
  · by_cases hb : b = T
    · subst hb
      rw [upd_same] at e
      cases e
      exact new
    · rw [upd_ne hb] at e
      refine (I.hok b u e).stay (fun c v hc q => k c v ?_ q) (fun c q => by rw [upd_ne (ne_of_none q hn)]; exact q) fun c xs q => by rw [upd_ne (ne_of_none q hn)]; exact q
      rcases hc with z | z
      · rw [z]; exact nit b u e
      · exact nit c _ z

end
section
variable {X : Cx}
theorem pi_one {tg : Expr} {pins : List (Addr × Obj)} {σ : St} {H : Hp} {s : Shared} {R : It → Hp → Prop} {J : It} {tn : Nat → Heap → Prop} {tk : Nat} (I : Inv X pins σ H s) (o : Obj)
    (T : Turn X.prog X.w X.K tg J [s.heap.objs.size] s.heap.objs.size tn) (st : tn 0 (s.heap.push o)) (q : R J H) : PIE X pins σ tg R (.ref s.heap.objs.size) { s with heap := s.heap.push o, toks := tk } := by
  refine ⟨s.heap.objs.size, [s.heap.objs.size], tn, J, H, rfl, I.kept fun b ob e => Heap.get?_push_of_some _ e, T, st, fun b hb => ?_, q⟩
  have e : b = s.heap.objs.size := by simpa using hb
  subst e
  exact I.fpOk (Nat.le_refl _) (I.hok.fresh (Nat.le_refl _))
end

section
variable {X : Cx} {tg : Expr}
end
def Itv (K : PySem.W.Frag) (a : Addr) (n : Nat) : It :=
  ⟨fun i H => i < n ∧ ∃ (xs : List V) (x : V), SqL K H a xs ∧ xs[n - 1 - i]? = some x, fun i H x H' => H' = H ∧ ∀ xs, SqL K H a xs → xs[n - 1 - i]? = some x, fun i _ => n ≤ i⟩
theorem turn_rev {P : Program} {w : World} {K : PySem.W.Frag} {tg : Expr} (a it : Addr) (n : Nat) : Turn P w K tg (Itv K a n) [it] it (fun i h => i ≤ n ∧ h.IsRevIter it a ((n : Int) - 1 - (i : Nat))) where
  mem := by simp
  obj := fun i h st b hb => by
    have e : b = it := by simpa using hb
    subst e
    obtain ⟨_, o, e, c, d⟩ := st
    exact ⟨o, e, fun v z => by rw [d] at z; cases z⟩
  keep := fun i h h' st k => ⟨st.1, st.2.at fun o e => k it (by simp) o e⟩
  item := by
    intro X hP hw hK hc i pins s σ H E I hf st hg
    subst hP hw hK
    obtain ⟨hin, xs, x, hq, hx⟩ := hg
    obtain ⟨its, rv, p, hz⟩ := I.list hq
    obtain ⟨u, hu, ru⟩ := rv.get hx
    obtain ⟨f0, f1, f2, f3, f4, f5⟩ := hf it (by simp)
    obtain ⟨_, hit⟩ := st
    have e1 : (n : Int) - 1 - ((i : Nat) : Int) = ((n - 1 - i : Nat) : Int) := by omega
    rw [e1] at hit
    refine wpAny_pyNext_rev_item hit p.isList (x := u) (by simpa using hu) fun h' st' sb => ?_
    have e2 : ((n - 1 - i : Nat) : Int) - 1 = (n : Int) - 1 - ((i + 1 : Nat) : Int) := by omega
    rw [e2] at st'
    have I1 : Inv X pins σ H { s with heap := h' } := I.turned (t' := s.toks) (fun b o hb e => (sb.2 b hb).trans e) f0 f1 f3 f4 f5
    obtain ⟨o, e, c, d⟩ := id st'
    exact ⟨u, rfl, go_of (s := { s with heap := h' }) e c d (by decide) ⟨x, H, I1, ru, ⟨rfl, fun ys hy => by rw [I.list_inj hy hq]; exact hx⟩, ⟨hin, st'⟩, fun b hb => (hf b hb).1⟩⟩
  done := by
    intro X hP hw hK hc i pins s σ H E I hf st hg
    subst hP hw hK
    obtain ⟨f0, f1, f2, f3, f4, f5⟩ := hf it (by simp)
    obtain ⟨hin, hit⟩ := st
    have hge : n ≤ i := hg
    have e1 : (n : Int) - 1 - ((i : Nat) : Int) = -1 := by omega
    rw [e1] at hit
    exact wpAny_pyNext_rev_end (I.ok.hd hc) hit fun h' eb => ⟨rfl, I.turned (t' := s.toks) (fun b o hb e => eb b o hb e) f0 f1 f3 f4 f5⟩
  self := fun A i s Q E st h => wpAny_pyIter_revIter st.2 h
def iRev (K : PySem.W.Frag) (ta : TA) : TI := fun σ H R => ta σ H fun vs H1 => ∃ (a : Addr) (xs : List V), vs = [.ref a] ∧ SqL K H1 a xs ∧ R (Itv K a xs.length) H1
section
variable {X : Cx} {tg : Expr}
theorem pi_reversed {e : Expr} {ta : TA} {p pos : Pos} (hg : Gl X "reversed") (hm : X.mg "reversed" = none) (ha : PA X [e] ta) (hs : starEach [e] X.env = [(false, eval e X.env)] := by rfl) : PI X tg (.Call (.Name "reversed" p) [e] [] pos) (iRev X.K ta) := by
  intro pins s σ H R I h
  refine Call_ (ld_blt I hg hm boot_reversed5 (PyProof.Rows.callWith_type1 (thn (ha pos pins s σ H _ I h) fun us s1 ⟨vs, H1, I1, r1, q1⟩ => ?_) hs rfl))
  obtain ⟨a, xs, e, hq, q⟩ := q1
  subst e
  cases r1 with
  | cons r rr =>
    cases rr
    cases r
    obtain ⟨its, rv, p', hz⟩ := I1.list hq
    have hl := rv.length
    have e1 : ((its.toArray.size : Nat) : Int) - 1 = (xs.length : Int) - 1 - ((0 : Nat) : Int) := by simp only [List.size_toArray]; omega
    refine call_reversed_list p'.isList (wpAny_pyIter_revIter (l := a) (i := ((its.toArray.size : Nat) : Int) - 1) ⟨_, Heap.get?_push_size _ rfl, rfl, rfl⟩ ?_)
    refine pi_one (tk := s1.toks) I1 _ (turn_rev a _ xs.length) ⟨Nat.zero_le _, ?_⟩ q
    rw [← e1]
    exact ⟨_, Heap.get?_push_size _ rfl, rfl, rfl⟩
end

section
variable {prog : Program} {w : World} {A : Around} {E : Value → Shared → Prop} {s : Shared}
end

section
variable {X : Cx} {pins : List (Addr × Obj)} {σ : St} {H : Hp} {s : Shared} {d : Addr} {o : Obj}
end

section
variable {P : Program} {w : World} {K : PySem.W.Frag} {tg : Expr} {d : Addr} {o : Obj} {es : Array DictEntry} {ep : Nat}
end

section
variable {X : Cx} {tg e : Expr} {td : TE} {apos cpos : Pos}
end

def Ite (K : PySem.W.Frag) (a : Addr) : It :=
  ⟨fun i H => ∃ (xs : List V) (x : V), SqL K H a xs ∧ xs[i]? = some x, fun i H v H' => ∃ T x, v = .ref T ∧ H T = none ∧ H' = upd H T (.tup [.int (i : Nat), x]) ∧ ∀ xs, SqL K H a xs → xs[i]? = some x, fun i H => ∃ xs : List V, SqL K H a xs ∧ xs.length ≤ i⟩
theorem turn_enum {P : Program} {w : World} {K : PySem.W.Frag} {elts : List Expr} {kk : Nat} {tpos : Pos} (a e it : Addr) :
    Turn P w K (.Tuple elts kk tpos) (Ite K a) [e, it] e (fun i h => (∃ old, IsEnum h e it ((i : Nat) : Int) old) ∧ h.IsListIter it a i ∧ e ≠ it) where
  mem := by simp
  obj := fun i h st b hb => by
    obtain ⟨⟨old, he⟩, ⟨o, ho, hc, hd⟩, _⟩ := st
    have e' : b = e ∨ b = it := by simpa using hb
    rcases e' with z | z
    · rw [z]; exact ⟨_, he, fun v q => nomatch q⟩
    · rw [z]; exact ⟨o, ho, fun v q => by rw [hd] at q; cases q⟩
  keep := fun i h h' st k => let ⟨⟨old, he⟩, hi, hne⟩ := st; ⟨⟨old, k e (by simp) _ he⟩, hi.at fun o q => k it (by simp) o q, hne⟩
  item := by
    intro X hP hw hK hc i pins s σ H E I hf st hg
    subst hP hw hK
    obtain ⟨⟨old, he⟩, hit, hne⟩ := st
    obtain ⟨xs, x, hq, hx⟩ := hg
    obtain ⟨its, rv, p, hz⟩ := I.list hq
    obtain ⟨u, hu, ru⟩ := rv.get hx
    have hel : e < s.heap.objs.size := Heap.lt_size he
    have hil : it < s.heap.objs.size := by obtain ⟨_, q, _⟩ := hit; exact Heap.lt_size q
    refine wpAny_pyNext_enum_item he hit p.isList (x := u) (by simpa using hu) hne fun h' ho hit' hT hsz hk => ?_
    refine ⟨_, rfl, wpAny_letOwnedTupleGo_enum (s := { s with heap := h', toks := s.toks + 1 }) ho fun h'' he' sb => ?_⟩
    have hT2 : h''.get? s.heap.objs.size = some { cls := .type "tuple", data := .seq #[.int i s.toks, u] } := (sb.2 _ (Nat.ne_of_gt hel)).trans hT
    have new : ObjOk X.prog X.w (upd H s.heap.objs.size (.tup [.int (i : Nat), x])) h'' s.heap.objs.size (.tup [.int (i : Nat), x]) :=
      ⟨by show 2 ≤ sizeLine; decide, [.int i s.toks, u], .cons ⟨_, rfl⟩ (.cons ru .nil), ⟨_, hT2, rfl, _, rfl⟩⟩
    have I1 : Inv X pins σ (upd H s.heap.objs.size (.tup [.int (i : Nat), x])) { s with heap := h'', toks := s.toks + 1 } :=
      I.turnedNew (ch := [e, it]) (fun b ob hb q => (sb.2 b (fun z => hb (by simp [z]))).trans (hk b ob (fun z => hb (by simp [z])) (fun z => hb (by simp [z])) q)) hf (Nat.le_refl _) new
    refine ⟨.ref s.heap.objs.size, _, I1, rfl, ⟨_, x, rfl, I.hok.fresh (Nat.le_refl _), rfl, fun ys hy => by rw [I.list_inj hy hq]; exact hx⟩, ⟨⟨u, ?_⟩, hit'.at fun o q => (sb.2 it (Ne.symm hne)).trans q, hne⟩, fun b hb => ?_⟩
    · have e1 : ((i + 1 : Nat) : Int) = (i : Int) + 1 := by omega
      rw [e1]; exact he'
    · have hb' : b < s.heap.objs.size := by
        have e' : b = e ∨ b = it := by simpa using hb
        rcases e' with z | z
        · rw [z]; exact hel
        · rw [z]; exact hil
      rw [upd_ne (Nat.ne_of_lt hb')]
      exact (hf b hb).1
  done := by
    intro X hP hw hK hc i pins s σ H E I hf st hg
    subst hP hw hK
    obtain ⟨⟨old, he⟩, hit, hne⟩ := st
    obtain ⟨xs, hq, hx⟩ := hg
    obtain ⟨its, rv, p, hz⟩ := I.list hq
    obtain ⟨f0, f1, f2, f3, f4, f5⟩ := hf it (by simp)
    have hl := rv.length
    exact wpAny_pyNext_enum_end (I.ok.hd hc) he hit p.isList (by simp; omega) fun h' eb => ⟨rfl, I.turned (t' := s.toks) (fun b o hb q => eb b o hb q) f0 f1 f3 f4 f5⟩
  self := fun A i s Q E st h => let ⟨⟨_, he⟩, _⟩ := st; wpAny_pyIter_enum he h
def iEnum (K : PySem.W.Frag) (ta : TA) : TI := fun σ H R => ta σ H fun vs H1 => ∃ a xs, vs = [.ref a] ∧ SqL K H1 a xs ∧ R (Ite K a) H1
theorem pi_enum {X : Cx} {e : Expr} {ta : TA} {p pos tpos : Pos} {elts : List Expr} {kk : Nat} (hg : Gl X "enumerate") (hm : X.mg "enumerate" = none) (ha : PA X [e] ta) (hs : starEach [e] X.env = [(false, eval e X.env)] := by rfl) :
    PI X (.Tuple elts kk tpos) (.Call (.Name "enumerate" p) [e] [] pos) (iEnum X.K ta) := by
  intro pins s σ H R I h
  refine Call_ (ld_blt I hg hm boot_enumerate (PyProof.Rows.callWith_type1 (thn (ha pos pins s σ H _ I h) fun us s1 ⟨vs, H1, I1, r1, q1⟩ => ?_) hs rfl))
  obtain ⟨a, xs, ex, hq, q⟩ := q1
  subst ex
  cases r1 with
  | cons r rr =>
    cases rr
    cases r
    obtain ⟨its, rv, p', hz⟩ := I1.list hq
    refine call_enumerate_list p'.isList fun h' he hit hsz hk => wpAny_pyIter_enum he ?_
    have I2 : Inv X pins σ H1 { s1 with heap := h' } := I1.kept (t' := s1.toks) hk
    refine ⟨s1.heap.objs.size + 1, [s1.heap.objs.size + 1, s1.heap.objs.size], _, _, H1, rfl, I2, turn_enum a (s1.heap.objs.size + 1) s1.heap.objs.size, ⟨⟨.none, he⟩, hit, Nat.succ_ne_self _⟩, fun b hb => ?_, q⟩
    have e' : b = s1.heap.objs.size + 1 ∨ b = s1.heap.objs.size := by simpa using hb
    have hle : s1.heap.objs.size ≤ b := by
      rcases e' with z | z
      · rw [z]; exact Nat.le_add_right _ _
      · rw [z]; exact Nat.le_refl _
    exact I1.fpOk hle (I1.hok.fresh hle)
end L2

section 
namespace Bits
open PySem PyProof.Rows

end Bits
end 

section 
namespace TL
open PySem PySem.Builtin PySem.Builtin.Str PySem.StrLaws

abbrev tl (x : Str) : List Nat := x.cps.toList
def pre (S l : List Nat) : Bool := l.take S.length == S
def par (S : List Nat) : List Nat → List Nat → Option (List Nat × List Nat)
  | _, [] => none
  | acc, c :: r => if pre S (c :: r) = true then some (acc, (c :: r).drop S.length) else par S (acc ++ [c]) r

end TL
end 

namespace L2
open PySem PySem.Spec PyProof.Rows

section
variable {X : Cx} {pins : List (Addr × Obj)} {σ : St} {H : Hp} {s : Shared} {Q : VK}
end

section
variable {X : Cx}

end

section
variable {X : Cx} {o e : Expr} {to te : TE}
end
end L2

namespace L2
open PySem PySem.Spec PyProof.Rows

section
variable {X : Cx}
end

end L2

namespace Att
open PySem PySem.W PySem.Calls PyProof.Rows

theorem ints_of_wellAll {P : Params} {h : Heap} : ∀ (ns : List Int) (vs : List Value), WellAll P h vs (ns.map WData.int) → IntsAre vs ns := by
  intro ns
  induction ns with
  | nil =>
    intro vs w
    rw [List.map_nil] at w
    cases w
    exact .nil
  | cons n ns ih =>
    intro vs w
    rw [List.map_cons] at w
    cases w with
    | cons a b =>
      cases a
      exact .cons _ _ (ih _ b)

theorem script_of {l : OpenLaw} {n : Nat} (hn : l.most = some n) {P : Params} {h : Heap} {args : List WData} {vals : List Value}
    (hpre : l.row.toRowW.claim.pre args = true) (hwl : WellAll P h vals args) :
    ∃ a vs ns, vals = [Value.ref a] ∧ args = [WData.list (ns.map WData.int)] ∧ h.get? a = some { cls := .type "list", data := .seq vs.toArray } ∧ IntsAre vs ns ∧ ns.length ≤ n := by
  have hsh : WShape.hasAll [] args [.list .int] = true := (pre_splitW hpre).1
  have hc : l.pre.holds [] { args := args } = true := (pre_splitW hpre).2
  obtain ⟨d, r, rfl, h1, h2⟩ := hasAllW_cons hsh
  obtain rfl := hasAllW_nil h2
  obtain ⟨xs, rfl, h3⟩ := hasW_list h1
  obtain ⟨ns, rfl⟩ := items_int h3
  have hlen : ns.length ≤ n := by
    unfold OpenLaw.pre at hc
    have h4 : (WTm.not (.lt (.lit (.int (n : Int))) (.len (.arg 0)))).holds [] { args := [.list (ns.map .int)] } = true := by
      have h4 := (holds_andW hc).1
      rw [hn] at h4
      exact h4
    have h5 := condW_of h4 (w_not (w_lt w_lit (w_len_list (w_arg rfl))))
    rw [List.length_map] at h5
    refine Nat.le_of_not_lt fun q => ?_
    have q' : (n : Int) < ((ns.length : Nat) : Int) := by omega
    first
      | (rw [decide_eq_true q'] at h5; exact absurd h5 (by decide))
      | (simp at h5; omega)
  cases hwl with
  | cons w1 w2 =>
    cases w2
    cases w1 with
    | list ho hall => exact ⟨_, _, ns, rfl, rfl, ho, ints_of_wellAll ns _ hall, hlen⟩

theorem post_true (l : OpenLaw) (args : List WData) : l.row.toRowW.claim.post args (.bool true) args = true :=
  postW_of (r := l.row.toRowW) (X := (true == true))
    (show WShape.has [] (.bool true) .bool = true by first | rfl | decide | simp [WShape.has, WShape.arms, WShape.armsAll])
    (show (WTm.eq .res (.lit (.bool true))).value [] { args := args, res := some (.bool true), after := args } = some (.bool (true == true)) from w_eq_bool (w_res rfl) w_lit) rfl

theorem attach_call {l : OpenLaw} {n : Nat} {q : Program} {loose : List Str} {XP : (Str → Option Value) → Heap → Prop} {YP : World → Heap → Prop} {d : DefRec}
    (hn : l.most = some n) (hdf : d.params.defaults = [])
    (call : ∀ (w : World) (s₀ s₁ : Shared) (mg mb : Str → Option Value) (fa : Addr) (o : Obj) (pm cd doc : Value) (a : Addr) (vs : List Value) (ns : List Int),
      Ground q loose [] XP w s₀ mg mb s₁.heap → YP w s₁.heap →
      s₁.heap.get? fa = some o → o.data = .func (docDef d.name d.params d.body d.scope pm cd doc) → s₁.heap.CodeRec cd d.name → mg d.name = some (.ref fa) →
      s₁.heap.get? a = some { cls := .type "list", data := .seq vs.toArray } → IntsAre vs ns → ns.length ≤ n → s₁.gens = #[] →
      codeAny (model l.prog w) callerA (.call (.ref fa) ⟨[.ref a], []⟩) (fun r s' => r = .ok (.ret (.bool true)) ∧ OldK s₁.heap s'.heap ∧ s'.os = s₁.os ∧ AllBare s'.gens) s₁) :
    WalkO q loose XP YP l.row.toRowW d [] (fun f vs => PySem.call f vs) := by
  intro w s₀ s₁ mg mb G Y fa o pm cd doc dV kV ho hd hcd hD hmg hg args vals as hpre hlay hrd hwl hlo
  obtain rfl : dV = .none := Dflts.none hD hdf
  obtain rfl : kV = .none := Dflts.noKw hD
  obtain ⟨a, vs, ns, rfl, rfl, hobj, hints, hlen⟩ := script_of hn hpre hwl
  refine enter_call (codeAny_mono (call w s₀ s₁ mg mb fa o pm cd doc a vs ns G Y ho (fd_plain hd) hcd hmg hobj hints hlen hg) fun r s' hq => ?_)
  obtain ⟨rfl, h2, h3, h4⟩ := hq
  exact ⟨.inl ⟨.bool true, .bool true, [], rfl, fun _ => rfl, .bool true, post_true l _, fun _ => ⟨List.Pairwise.nil, fun _ hm => (nomatch hm)⟩⟩, h2, h3, h4⟩

section
variable {prog : Program} {w : World} {A : Around} {E : Value → Shared → Prop} {s : Shared} {K : Frag}

end
end Att

namespace L2
open PySem PySem.Spec PyProof.Rows

theorem vals_ints : ∀ {vs : List Value} {ns : List Int}, IntsAre vs ns → Vals (ns.map V.int) vs
  | _, _, .nil => .nil
  | _, _, .cons n t h => .cons ⟨t, rfl⟩ (vals_ints h)

end L2

namespace L2
open PySem PySem.Spec PyProof.Rows

end L2


namespace L2
open PySem PySem.Spec PyProof.Rows

def inClass (s : Stmt) (j : Nat) : Stmt := match s with
  | .ClassDef _ _ _ body _ _ _ _ _ _ _ => body.getD j (.Pass ⟨0, 0, 0, 0⟩)
  | _ => .Pass ⟨0, 0, 0, 0⟩
def defArgs (s : Stmt) : Arguments := match s with
  | .FunctionDef _ a _ _ _ _ _ _ _ _ => a
  | _ => { posonlyargs := [], args := [], vararg := none, kwonlyargs := [], kw_defaults := [], kwarg := none, defaults := [] }
def defBody (s : Stmt) : List Stmt := match s with
  | .FunctionDef _ _ b _ _ _ _ _ _ _ => b
  | _ => []
def defScope (s : Stmt) : Scope := match s with
  | .FunctionDef _ _ _ _ _ _ sc _ _ _ => sc
  | _ => { kind := .function, names := [], isGenerator := false, isCoroutine := false }

abbrev CX0 : CXT := fun _ _ _ _ _ _ => False
abbrev E0 : XK := fun _ _ _ => False
theorem pass0 {X : Cx} : Passes CX0 X E0 := fun _ _ _ _ _ _ _ h => h.elim

structure Fun (K : PySem.W.Frag) (x qual : Str) (st : Stmt) (f : Addr) (fd : FuncData) : Prop where
  ex : ∃ (oc : Value) (od : Option Addr) (kV doc pm : Value) (an : Option Addr) (cdv ct : Value) (osl : Array (Option Value)),
    fd = PySem.W.fnOf x qual (defArgs st) (defBody st) (defScope st) .none kV doc pm an cdv ct ∧ K.lookup f = some ⟨oc, od, .func fd, osl⟩ ∧ PySem.W.codeIn K cdv qual = true
  kp : PySem.W.keepIn K (.ref f) = true
section
variable {P : Program} {w : World} {K : PySem.W.Frag} {mg : Str → Option Value} {base : Heap}
theorem Fun.ok {x qual : Str} {st : Stmt} {f : Addr} {fd : FuncData} {N ps : List Str} {k : Nat} {sp : Sp} (F : Fun K x qual st f fd) (S : FnScope N ps (defScope st)) (len : ∀ vs H Q E, sp vs H Q E → vs.length = ps.length)
    (hbody : ∀ (cdv : Value) (A : Around) (outer : List Env) (s : Shared) (H : Hp) (vs : List V) (Q : VK) (E : XK), Room k (A.deeper (envOfC qual (defScope st) s.heap.objs.size f cdv)) → sp vs H Q E →
      ∃ t, PSs (cxOf CX0 P w K mg base N qual (defScope st) f cdv A outer s H E).nox (defBody st) t ∧ t { nx := fun _ H' => Q .non H', rt := Q } (start N vs) H) : FnOk P w K mg base CX0 (k + 1) f fd ps sp := by
  obtain ⟨oc, od, kV, doc, pm, an, cdv, ct, osl, rfl, lk, hcd⟩ := F.ex
  refine fn_of lk hcd S len fun A outer s H vs Q E hr hsp => ?_
  obtain ⟨t, h, q⟩ := hbody cdv A outer s H vs Q E hr hsp
  exact ⟨t, h.nox, q⟩
theorem Fun.binds {x qual : Str} {st : Stmt} {f : Addr} {fd : FuncData} {ps : List Str} (F : Fun K x qual st f fd)
    (h : ∀ (kV doc pm : Value) (an : Option Addr) (cdv ct : Value) (us : List Value), us.length = ps.length → bindArgs (PySem.W.fnOf x qual (defArgs st) (defBody st) (defScope st) .none kV doc pm an cdv ct) ⟨us, []⟩ = pure (ps.zip us)) : Binds K fd ps [] := by
  obtain ⟨oc, od, kV, doc, pm, an, cdv, ct, osl, rfl, lk, hcd⟩ := F.ex
  exact .all (h kV doc pm an cdv ct)
theorem fun_mk {x qual : Str} {st : Stmt} {f : Addr} {oc : Value} {od an : Option Addr} {osl : Array (Option Value)} {kV doc pm cdv ct : Value} (l : K.lookup f = some ⟨oc, od, .func (PySem.W.fnOf x qual (defArgs st) (defBody st) (defScope st) .none kV doc pm an cdv ct), osl⟩)
    (c : PySem.W.codeIn K cdv qual = true) (k : PySem.W.keepIn K (.ref f) = true) : Fun K x qual st f (PySem.W.fnOf x qual (defArgs st) (defBody st) (defScope st) .none kV doc pm an cdv ct) := ⟨⟨oc, od, kV, doc, pm, an, cdv, ct, osl, rfl, l, c⟩, k⟩
end
theorem small1000 {n : Nat} (h : n ≤ 1000) : n < sizeLine := Nat.lt_of_le_of_lt h (by decide)

section
variable {X : Cx}
theorem pv (i : Nat) {x : Str} {pos : Pos} (hN : X.N[i]? = some x := by rfl) (hv : Vis X.env.scope x := by first | exact Or.inl rfl | exact Or.inr (Or.inl rfl) | exact Or.inr (Or.inr rfl)) (hd : (x == ("__debug__" : Str)) = false := by decide)
    (hcd : (x == ("__classdict__" : Str)) = false := by decide) : PE X (.Name x pos) (tVar i) := pe_var hN hv hd hcd
end

theorem iteF {A B : Prop} (h : B) : if false = true then A else B := by
  rw [if_neg Bool.false_ne_true]
  exact h
theorem iteT {A B : Prop} (h : A) : if true = true then A else B := by
  rw [if_pos rfl]
  exact h
theorem ite2 {c A B : Prop} [Decidable c] (h1 : c → A) (h2 : ¬ c → B) : if c then A else B := by
  by_cases h : c
  · rw [if_pos h]
    exact h1 h
  · rw [if_neg h]
    exact h2 h
def Same (H H' : Hp) : Prop := ∀ b o, H b = some o → H' b = some o
theorem Same.refl (H : Hp) : Same H H := fun _ _ h => h
theorem Same.trans {H H1 H2 : Hp} (a : Same H H1) (b : Same H1 H2) : Same H H2 := fun c o h => b c o (a c o h)
theorem Same.free {H H' : Hp} (e : Same H H') {l : Addr} (h : H' l = Option.none) : H l = Option.none := by
  cases q : H l with
  | none => rfl
  | some o =>
    rw [e l o q] at h
    cases h
theorem Same.seq {K : PySem.W.Frag} {H H' : Hp} {a : Addr} {xs : List V} (e : Same H H') (h : SqL K H a xs) : SqL K H' a xs := by
  rcases h with (h | ⟨o, h⟩) | h
  · exact .inl (.inl (e _ _ h))
  · exact .inl (.inr ⟨o, e _ _ h⟩)
  · exact .inr h

section
variable {κ : Type} [DecidableEq κ]
theorem nd_snoc : ∀ {l : List κ} {k : κ}, l.Nodup → ¬ k ∈ l → (l ++ [k]).Nodup
  | [], k, _, _ => by simp
  | a :: r, k, h, hk => by
    obtain ⟨h1, h2⟩ := List.nodup_cons.mp h
    show (a :: (r ++ [k])).Nodup
    refine List.nodup_cons.mpr ⟨fun m => ?_, nd_snoc h2 fun m => hk (List.mem_cons.mpr (Or.inr m))⟩
    rcases List.mem_append.mp m with q | q
    · exact h1 q
    · exact hk (List.mem_cons.mpr (Or.inl (List.mem_singleton.mp q).symm))
end
theorem at_of {xs : List V} {z : Int} {j : Nat} {v : V} (e : z = (j : Int)) (h : xs[j]? = some v) : atI xs z = some v := by
  rw [e]
  exact atI_nat h
theorem nd_ix {α : Type} {l : List α} (hN : l.Nodup) {i j : Nat} {x : α} (a : l[i]? = some x) (b : l[j]? = some x) : i = j := by
  obtain ⟨h1, e1⟩ := List.getElem?_eq_some_iff.mp a
  obtain ⟨h2, e2⟩ := List.getElem?_eq_some_iff.mp b
  exact (List.getElem_inj hN).mp (e1.trans e2.symm)
theorem Same.made {H H1 : Hp} {x dx C : Addr} (nx : H x = Option.none) (nd : H dx = Option.none) (k : ∀ b o, (upd (upd H dx (.own x)) x (.ins C dx [])) b = some o → b ≠ x → H1 b = some o) : Same H H1 := fun b o e =>
  k b o (by rw [upd_ne (ne_of_none e nx), upd_ne (ne_of_none e nd)]; exact e) (ne_of_none e nx)
end L2

set_option Elab.async false
set_option linter.all false
set_option maxRecDepth 100000
set_option maxHeartbeats 4000000
namespace L2
open PySem PySem.Spec PyProof.Rows
section
variable {X : Cx}
def rIsi (K : PySem.W.Frag) : List V → Hp → VK → Prop := fun vs H Q => ∃ (x c : V) (t : Value) (b : Bool), vs = [x, c] ∧ TyOf K H x t ∧ (∀ u, RelV c u → PySem.W.kitOne K t u = some b) ∧ Q (.bl b) H
theorem cr_isi : CallR X (.builtin "isinstance") (rIsi X.K) := by
  intro pins s σ H vs us Q I r h
  obtain ⟨x, c, t, b, rfl, ty, k, q⟩ := h
  cases r with
  | cons r1 r2 =>
    cases r2 with
    | cons r3 r4 =>
      cases r4
      exact isinst_ok I r1 ty (k _ r3) fun tk => ⟨.bl b, H, I.tok tk, rfl, q⟩
def CMulB (i j : Int) : Prop := Builtin.Int.intBits i ≤ 2 ^ 20 ∧ Builtin.Int.intBits j ≤ 2 ^ 20
theorem op_mulB : OpR X (binaryOp .Mult) (rI CMulB fun i j => .int (i * j)) := opI fun _ _ _ _ _ _ _ hc q => mul_int q (PySem.IntMulOk.of_bits hc.1 hc.2)
end
end L2

set_option Elab.async false
set_option linter.all false
set_option maxRecDepth 100000
set_option maxHeartbeats 4000000
namespace L2
open PySem PySem.Spec PyProof.Rows
section
variable {prog : Program} {w : World} {A : Around} {E : Value → Shared → Prop} {s : Shared}
theorem callType_kw {T newId : String} {Bn : Builtin} {args : List Value} {kw : List (Str × Value)} {S : PySem.Spec} {Q : Value → Shared → Prop} (ft : TypeCalled T newId "object.__init__")
    (hne : (some newId != some "object.__new__") = true) (hct : checkTypeCall T ⟨args, kw⟩ = pure ()) (hcn : checkBuiltinCall newId ⟨.type T :: args, kw⟩ = pure ())
    (hok : ∀ obj, argsOk "object.__init__" ⟨obj :: args, kw⟩) (entryN : entryFor table newId = some Bn) (g : Meets (Bn ⟨.type T :: args, kw⟩) S)
    (gi : ∀ obj, Meets (Builtin.«object.__init__» ⟨obj :: args, kw⟩) (fun _ R s => s.TypeIs obj T ∧ R (.ok (.ret .none)) s))
    (h : S A.in1 (wants (fun obj s₁ => s₁.TypeIs obj T ∧ Q obj s₁) E) s) : wpAny (model prog w) A (call (.type T) args kw) Q E s := by
  obtain ⟨c, tl, hmro⟩ := ft.mro
  have hmade := ft.made
  have hsub := ft.sub
  refine wpAny_call (codeAny_of_tree ?_)
  show wpAny _ _ (callAny (.type T) _) _ _ _
  refine wpAny_pure ⟨Code.quiet_builtin _ (by decide +kernel), codeAny_builtin F.entry_type_call ?_⟩
  rw [Around.under_plain (weight_type_call_type T args kw) (units_type_call_type T args kw)]
  have h1 := ft.notType
  have h2 := ft.canCreate
  repeat any_goals first
    | assumption
    | wp_step
  refine codeAny_mono (codeAny_call_builtin ft.plain entryN (wpAny_of_eq hcn (g prog w A.in1 _ s h))) fun r s₁ hr => ?_
  cases r with
  | error e => exact hr
  | ok fl =>
    cases fl with
    | ret obj =>
      obtain ⟨hT, hq1⟩ := hr
      have hli := ft.init.lookup
      have hbi := ft.init.bind obj
      repeat any_goals first
        | assumption
        | wp_step
      refine codeAny_mono (codeAny_call_builtin (R := wants (fun r s₂ => r = .none ∧ Q obj s₂) E) ft.init.plain F.entry_object_init
        (ft.init.check _ _ _ _ _ _ _ _ hT (hok obj) (gi obj prog w A.in1 _ s₁ ⟨hT, rfl, hq1⟩))) fun r₂ s₂ hr₂ => ?_
      cases r₂ with
      | error e => exact hr₂
      | ok fl₂ =>
        cases fl₂ with
        | ret r =>
          obtain ⟨rfl, hq⟩ := hr₂
          repeat any_goals first
            | assumption
            | wp_step
        | _ => exact hr₂.elim
    | _ => exact hr.elim
theorem oinit_kw {T newId : String} {self : Value} {rest : List Value} {kw : List (Str × Value)} (hl : typeLookup (.type T) "__init__" = pure (some (.builtin "object.__init__")))
    (hm : Bind.madeBy (.type T) = pure (some newId)) (hne : (some newId != some "object.__new__") = true) :
    Meets (Builtin.«object.__init__» ⟨self :: rest, kw⟩) (fun _ R s => s.TypeIs self T ∧ R (.ok (.ret .none)) s) := by
  refine Meets.of_wp fun prog w A R s hs => ?_
  obtain ⟨hT, hq⟩ := hs
  cases rest with
  | nil =>
    cases kw with
    | nil => exact wpAny_pure ⟨_, rfl, hq⟩
    | cons a r =>
      repeat any_goals first
        | assumption
        | wp_step
      exact ⟨_, rfl, hq⟩
  | cons a rest =>
    repeat any_goals first
      | assumption
      | wp_step
    exact ⟨_, rfl, hq⟩
theorem enum_new_start (l : Addr) (items : Array Value) (n : Nat) (dct : Option Addr) (sl : Array (Option Value)) (t : Tok) :
    Meets (Builtin.«enumerate.__new__» ⟨[.type "enumerate", .ref l], [("start", .int 1 t)]⟩) (fun _ R s => s.heap.get? l = some { cls := .type "list", dict := dct, data := .seq items n, slots := sl } ∧
      R (.ok (.ret (.ref (s.heap.push { cls := .type "list_iterator", data := .fields #[.ref l, .int 0 0] }).objs.size)))
        { s with heap := (s.heap.push { cls := .type "list_iterator", data := .fields #[.ref l, .int 0 0] }).push { cls := .type "enumerate", data := .fields #[.none, .bool false, .ref s.heap.objs.size, rawInt 1, .none, .none] } }) :=
  .of_wp fun prog w A R s h => by
    obtain ⟨hp, g, d, tk, os⟩ := s
    obtain ⟨hl, h⟩ := h
    have hsub := sub_enumerate
    have hL : Heap.IsList (Shared.heap ⟨hp, g, d, tk, os⟩) l items := ⟨_, hl, rfl, n, rfl⟩
    wp_walk using AutoSeq1.wpAny_loadPart' hl
    refine wpAny_stack_any fun st => wpAny_pure ?_
    split
    · rename_i c _ _ _ _ _
      cases (c == Value.type "enumerate")
      · wp_walk using AutoSeq1.wpAny_loadPart' hl, wpAny_pyIter_list hL
        exact ⟨_, rfl, h⟩
      · wp_walk using AutoSeq1.wpAny_loadPart' hl, wpAny_pyIter_list hL
        exact ⟨_, rfl, h⟩
    · wp_walk using AutoSeq1.wpAny_loadPart' hl, wpAny_pyIter_list hL
      exact ⟨_, rfl, h⟩
end
end L2

set_option Elab.async false
set_option linter.all false
set_option maxRecDepth 100000
set_option maxHeartbeats 4000000
namespace L2
open PySem PySem.Spec PyProof.Rows
theorem ec_start (a : Value) (t : Tok) : checkTypeCall "enumerate" ⟨[a], [("start", .int 1 t)]⟩ = pure () := by kernel_rfl
theorem ec_new (a : Value) (t : Tok) : checkBuiltinCall "enumerate.__new__" ⟨[.type "enumerate", a], [("start", .int 1 t)]⟩ = pure () := by kernel_rfl
theorem ec_init (o a : Value) (t : Tok) : argsOk "object.__init__" ⟨[o, a], [("start", .int 1 t)]⟩ := by unfold argsOk; kernel_rfl
section
variable {prog : Program} {w : World} {A : Around} {E : Value → Shared → Prop} {s : Shared}
theorem call_enum1 {l : Addr} {items : Array Value} {t : Tok} {Q : Value → Shared → Prop} (hL : s.heap.IsList l items)
    (h : ∀ h', IsEnum h' (s.heap.objs.size + 1) s.heap.objs.size 1 .none → h'.IsListIter s.heap.objs.size l 0 → h'.objs.size = s.heap.objs.size + 2 →
      (∀ b o, s.heap.get? b = some o → h'.get? b = some o) → Q (.ref (s.heap.objs.size + 1)) { s with heap := h' }) :
    wpAny (model prog w) A (call (.type "enumerate") [.ref l] [("start", .int 1 t)]) Q E s := by
  obtain ⟨⟨c, dct, dt, sl⟩, hl, hc, n, hd⟩ := hL
  replace hc : c = .type "list" := hc
  replace hd : dt = .seq items n := hd
  subst hc hd
  refine callType_kw F.called_enumerate (by decide) (ec_start _ t) (ec_new _ t) (fun obj => ec_init obj _ t) F.entry_enumerate_new
    (enum_new_start l items n dct sl t) (fun obj => oinit_kw F.called_enumerate.init.lookup F.called_enumerate.made (by decide)) ⟨hl, ?_⟩
  have hz : (s.heap.push { cls := .type "list_iterator", data := .fields #[.ref l, .int 0 0] }).objs.size = s.heap.objs.size + 1 := Heap.size_push ..
  show _ ∧ _
  rw [hz]
  have he : IsEnum ((s.heap.push { cls := .type "list_iterator", data := .fields #[.ref l, .int 0 0] }).push
      { cls := .type "enumerate", data := .fields #[.none, .bool false, .ref s.heap.objs.size, rawInt 1, .none, .none] }) (s.heap.objs.size + 1) s.heap.objs.size 1 .none := by
    have e2 := Heap.get?_push_size (s.heap.push { cls := .type "list_iterator", data := .fields #[.ref l, .int 0 0] })
      (o := { cls := .type "enumerate", data := .fields #[.none, .bool false, .ref s.heap.objs.size, rawInt 1, .none, .none] }) rfl
    rw [hz] at e2
    exact e2
  refine ⟨⟨_, he, rfl⟩, h _ he ⟨_, Heap.get?_push_of_some _ (Heap.get?_push_size _ rfl), rfl, rfl⟩ (by rw [Heap.size_push, hz]) fun b o x => Heap.get?_push_of_some _ (Heap.get?_push_of_some _ x)⟩
end
end L2

set_option Elab.async false
set_option linter.all false
set_option maxRecDepth 100000
set_option maxHeartbeats 4000000
namespace L2
open PySem PySem.Spec PyProof.Rows
theorem callWith_typeKw {M : Model} {A : Around} {E : Value → Shared → Prop} {s : Shared} {env : Env} {pos : Pos} {T : String} {e : Expr} {rest : List Expr} {kws : List Keyword} {Q : Value → Shared → Prop}
    (h : wpAny M A (spliced (backTo pos (starEach (e :: rest) env))) (fun vs s₁ => wpAny M A (evalAll ((backToKw pos (keywordEach kws env)).map (·.2)))
      (fun kvs s₂ => wpAny M A (call (.type T) vs (((backToKw pos (keywordEach kws env)).filterMap (·.1)).zip kvs)) Q E s₂) E s₁) E s)
    (he : backTo pos (starEach (e :: rest) env) = (false, eval e env) :: backTo pos (starEach rest env) := by rfl)
    (hplain : (backTo pos (starEach (e :: rest) env)).any (·.1) = false := by rfl)
    (hall : (backToKw pos (keywordEach kws env)).all (·.1.isSome) = true := by rfl)
    (hkw : (backToKw pos (keywordEach kws env)).any (·.1.isNone) = false := by rfl) :
    wpAny M A (callWith pos (.type T) [] (backTo pos (starEach (e :: rest) env)) (backToKw pos (keywordEach kws env))) Q E s := by
  have h2 : wpAny M A (evalArgs (.type T) true (backTo pos (starEach (e :: rest) env)) (backToKw pos (keywordEach kws env))) (fun a s₁ => wpAny M A (call (.type T) ([] ++ a.pos) a.kw) Q E s₁) E s := by
    rw [he] at h ⊢
    exact evalArgs_kwB hall h
  unfold callWith
  refine wpAny_bind (wpAny_holding (wpAny_mono h2 (fun a s₁ h₁ => wpAny_bind (wpAny_standAt ?_)) fun _ _ x => x))
  simp only [hplain, hkw, Bool.or_false]
  refine wpAny_bind (wpAny_pure ?_)
  refine wpAny_bind (wpAny_mono h₁ (fun r s₂ hr => ?_) fun _ _ x => x)
  exact wpAny_bind (wpAny_holding (wpAny_point (wpAny_pure hr)))

theorem draws1 {prog : Program} {w : World} {A : Around} {it l : Addr} {items : Array Value} (hh : A.handled = none) :
    Draws prog w A it [it, l] (items.size + 1) (fun i x => items[i - 1]? = some x) (fun i h => ∃ j, i = j + 1 ∧ h.IsListIter it l j ∧ h.IsList l items ∧ it ≠ l) where
  live := fun i h ⟨j, _, ⟨o, e, _⟩, _⟩ => ⟨o, e⟩
  frame := fun i h h' ⟨j, e, a, ⟨o, b1, b2⟩, c⟩ k => ⟨j, e, a.at fun o q => k it (by simp) o q, ⟨o, k l (by simp) o b1, b2⟩, c⟩
  item := fun i s Q E hi ⟨j, e, a, b, c⟩ hQ => by
    subst e
    have hj : j < items.size := by omega
    refine wpAny_nextOf_list_item a b (x := items[j]) (by simp [hj]) fun h' a' sb => ?_
    obtain ⟨o, b1, b2⟩ := b
    exact hQ items[j] h' s.toks (by simp [hj]) ⟨j + 1, rfl, a', ⟨o, (sb.2 l (Ne.symm c)).trans b1, b2⟩, c⟩ sb
  done := fun s Q E ⟨j, e, a, b, c⟩ hE => by
    have ej : j = items.size := by omega
    subst ej
    exact wpAny_nextOf_list_end hh a b (by simp) fun h' x e1 e2 => hE h' x e1 e2
theorem draws1E {prog : Program} {w : World} {A : Around} {it l : Addr} {items : Array Value} {i : Nat} (hh : A.handled = none) (hi : items.size ≤ i) :
    Draws prog w A it [it, l] (i + 1) (fun _ _ => True) (fun k h => k = i + 1 ∧ h.IsListIter it l i ∧ h.IsList l items) where
  live := fun _ h ⟨_, ⟨o, e, _⟩, _⟩ => ⟨o, e⟩
  frame := fun _ h h' ⟨e, a, o, b1, b2⟩ k => ⟨e, a.at fun o q => k it (by simp) o q, o, k l (by simp) o b1, b2⟩
  item := fun k s Q E hk ⟨e, _⟩ hQ => by omega
  done := fun s Q E ⟨e, a, b⟩ hE => wpAny_nextOf_list_end hh a b (by simp [hi]) fun h' x e1 e2 => hE h' x e1 e2
def Ite1 (K : PySem.W.Frag) (a : Addr) : It :=
  ⟨fun i H => ∃ (xs : List V) (x : V), SqL K H a xs ∧ xs[i]? = some x, fun i H v H' => ∃ T x, v = .ref T ∧ H T = none ∧ H' = upd H T (.tup [.int ((i : Nat) + 1), x]) ∧ ∀ xs, SqL K H a xs → xs[i]? = some x, fun i H => ∃ xs : List V, SqL K H a xs ∧ xs.length ≤ i⟩
theorem turn_enum1 {P : Program} {w : World} {K : PySem.W.Frag} {elts : List Expr} {kk : Nat} {tpos : Pos} (a e it : Addr) :
    Turn P w K (.Tuple elts kk tpos) (Ite1 K a) [e, it] e (fun i h => (∃ old, IsEnum h e it (((i : Nat) : Int) + 1) old) ∧ h.IsListIter it a i ∧ e ≠ it) where
  mem := by simp
  obj := fun i h st b hb => by
    obtain ⟨⟨old, he⟩, ⟨o, ho, hc, hd⟩, _⟩ := st
    have e' : b = e ∨ b = it := by simpa using hb
    rcases e' with z | z
    · rw [z]
      exact ⟨_, he, fun v q => nomatch q⟩
    · rw [z]
      exact ⟨o, ho, fun v q => by rw [hd] at q; cases q⟩
  keep := fun i h h' st k => let ⟨⟨old, he⟩, hi, hne⟩ := st; ⟨⟨old, k e (by simp) _ he⟩, hi.at fun o q => k it (by simp) o q, hne⟩
  item := by
    intro X hP hw hK hc i pins s σ H E I hf st hg
    subst hP hw hK
    obtain ⟨⟨old, he⟩, hit, hne⟩ := st
    obtain ⟨xs, x, hq, hx⟩ := hg
    obtain ⟨its, rv, p, hz⟩ := I.list hq
    obtain ⟨u, hu, ru⟩ := rv.get hx
    have hel : e < s.heap.objs.size := Heap.lt_size he
    have hil : it < s.heap.objs.size := by obtain ⟨_, q, _⟩ := hit; exact Heap.lt_size q
    have hila : it ≠ a := by
      obtain ⟨o, q, qc, _⟩ := hit
      obtain ⟨o', q', qc', _⟩ := p.isList
      rintro rfl
      rw [q] at q'
      cases q'
      rw [qc] at qc'
      exact absurd qc' (by decide)
    have hela : e ≠ a := by
      obtain ⟨o', q', qc', _⟩ := p.isList
      rintro rfl
      rw [show s.heap.get? e = _ from he] at q'
      cases q'
      have qc2 : (Value.type "enumerate") = .type "list" := qc'
      exact absurd qc2 (by decide)
    have hil' : i < its.toArray.size := by
      have := (List.getElem?_eq_some_iff.mp hu).1
      simpa using this
    refine wpAny_pyNext_enum_itemD (i := i + 1) (draws1 (prog := X.prog) (w := X.w) (A := X.A.in1) (items := its.toArray) (l := a) (it := it) (I.ok.hd hc)) (by simpa using he) ⟨i, rfl, hit, p.isList, hila⟩ (by omega) hne (by simp [hne, hela]) fun u' h' tk hu' ho hit2 hT hsz hk => ?_
    obtain ⟨j, ej, hit', _, _⟩ := hit2
    have ej' : j = i + 1 := by omega
    subst ej'
    have eu : u' = u := by
      have e1 : its[i]? = some u' := by simpa using hu'
      rw [hu] at e1
      exact (Option.some.inj e1).symm
    subst eu
    refine ⟨_, rfl, wpAny_letOwnedTupleGo_enum (s := { s with heap := h', toks := tk + 1 }) ho fun h'' he' sb => ?_⟩
    have hT2 : h''.get? s.heap.objs.size = some { cls := .type "tuple", data := .seq #[.int ((i : Int) + 1) tk, u'] } := (sb.2 _ (Nat.ne_of_gt hel)).trans (by simpa using hT)
    have new : ObjOk X.prog X.w (upd H s.heap.objs.size (.tup [.int ((i : Nat) + 1), x])) h'' s.heap.objs.size (.tup [.int ((i : Nat) + 1), x]) :=
      ⟨by show 2 ≤ sizeLine; decide, [.int ((i : Int) + 1) tk, u'], .cons ⟨_, rfl⟩ (.cons ru .nil), ⟨_, hT2, rfl, _, rfl⟩⟩
    have I1 : Inv X pins σ (upd H s.heap.objs.size (.tup [.int ((i : Nat) + 1), x])) { s with heap := h'', toks := tk + 1 } :=
      I.turnedNew (ch := [e, it]) (fun b ob hb q => (sb.2 b (fun z => hb (by simp [z]))).trans (hk b ob (fun z => hb (by simp [z])) (fun z => hb (by simp [z])) q)) hf (Nat.le_refl _) new
    refine ⟨.ref s.heap.objs.size, _, I1, rfl, ⟨_, x, rfl, I.hok.fresh (Nat.le_refl _), rfl, fun ys hy => by rw [I.list_inj hy hq]; exact hx⟩, ⟨⟨u', ?_⟩, hit'.at fun o q => (sb.2 it (Ne.symm hne)).trans q, hne⟩, fun b hb => ?_⟩
    · have e1 : ((i + 1 : Nat) : Int) + 1 = (i : Int) + 1 + 1 := by omega
      rw [e1]
      simpa using he'
    · have hb' : b < s.heap.objs.size := by
        have e' : b = e ∨ b = it := by simpa using hb
        rcases e' with z | z
        · rw [z]
          exact hel
        · rw [z]
          exact hil
      rw [upd_ne (Nat.ne_of_lt hb')]
      exact (hf b hb).1
  done := by
    intro X hP hw hK hc i pins s σ H E I hf st hg
    subst hP hw hK
    obtain ⟨⟨old, he⟩, hit, hne⟩ := st
    obtain ⟨xs, hq, hx⟩ := hg
    obtain ⟨its, rv, p, hz⟩ := I.list hq
    obtain ⟨f0, f1, f2, f3, f4, f5⟩ := hf it (by simp)
    have hl := rv.length
    exact wpAny_pyNext_enum_endD (draws1E (prog := X.prog) (w := X.w) (A := X.A.in1) (items := its.toArray) (l := a) (it := it) (i := i) (I.ok.hd hc) (by simp; omega)) he ⟨rfl, hit, p.isList⟩ fun h' eb => ⟨rfl, I.turned (t' := s.toks) (fun b o hb q => eb b o hb q) f0 f1 f3 f4 f5⟩
  self := fun A i s Q E st h => let ⟨⟨_, he⟩, _⟩ := st; wpAny_pyIter_enum he h
def iEnum1 (K : PySem.W.Frag) (ta : TA) : TI := fun σ H R => ta σ H fun vs H1 => ∃ a xs, vs = [.ref a] ∧ SqL K H1 a xs ∧ R (Ite1 K a) H1
theorem pi_enum1 {X : Cx} {e : Expr} {ta : TA} {p pos tpos kpos cpos : Pos} {elts : List Expr} {kk j : Nat} (hg : Gl X "enumerate") (hm : X.mg "enumerate" = none) (ha : PA X [e] ta) (hs : starEach [e] X.env = [(false, eval e X.env)] := by rfl) :
    PI X (.Tuple elts kk tpos) (.Call (.Name "enumerate" p) [e] [⟨some "start", .Constant (.int 1) j cpos, kpos⟩] pos) (iEnum1 X.K ta) := by
  intro pins s σ H R I h
  refine wpAny_Call_Name_kw (ld_blt I hg hm boot_enumerate (callWith_typeKw (thn (ha pos pins s σ H _ I h) fun us s1 ⟨vs, H1, I1, r1, q1⟩ => ?_) (by rw [hs]; rfl) (by rw [hs]; rfl)))
  obtain ⟨a, xs, ex, hq, q⟩ := q1
  subst ex
  cases r1 with
  | cons r rr =>
    cases rr
    cases r
    have pk : PK X [⟨some "start", .Constant (.int 1) j cpos, kpos⟩] (tCons (tC (.int 1)) tNil) := pk_cons pe_int pk_nil
    refine thn (pk pos pins s1 σ H1 (fun vs H2 => vs = [.int 1] ∧ H2 = H1) I1 ⟨rfl, rfl⟩) fun ws s2 ⟨zs, H2, I2, rz, ez, eH⟩ => ?_
    subst ez eH
    cases rz with
    | cons r rr =>
      cases rr
      obtain ⟨tk, rfl⟩ := r
      obtain ⟨its, rv, p', hz⟩ := I2.list hq
      show wpAny _ _ (call (.type "enumerate") [.ref a] [("start", .int 1 tk)]) _ _ s2
      refine call_enum1 p'.isList fun h' he hit hsz hk => wpAny_pyIter_enum he ?_
      have I3 : Inv X pins σ H2 { s2 with heap := h' } := I2.kept (t' := s2.toks) hk
      refine ⟨s2.heap.objs.size + 1, [s2.heap.objs.size + 1, s2.heap.objs.size], _, _, H2, rfl, I3, turn_enum1 a (s2.heap.objs.size + 1) s2.heap.objs.size, ⟨⟨.none, he⟩, hit, Nat.succ_ne_self _⟩, fun b hb => ?_, q⟩
      have e' : b = s2.heap.objs.size + 1 ∨ b = s2.heap.objs.size := by simpa using hb
      have hle : s2.heap.objs.size ≤ b := by
        rcases e' with z | z
        · rw [z]
          exact Nat.le_add_right _ _
        · rw [z]
          exact Nat.le_refl _
      exact I2.fpOk hle (I2.hok.fresh hle)
end L2

set_option Elab.async false
set_option linter.all false
set_option maxRecDepth 100000
set_option maxHeartbeats 4000000
namespace L2
open PySem PySem.Spec PyProof.Rows
theorem mx_name : (toString "max" ++ toString ".loop" : String) = "max.loop" := by decide
section
variable {prog : Program} {w : World} {A : Around} {R : Result → Shared → Prop} {I S : Addr} {fp wr : List Addr} {n : Nat} {P : Nat → Value → Prop} {St : Nat → Heap → Prop} {kw : List (Str × Value)} {bt : Nat → Nat → Bool}
theorem mx_loop (W : Walks prog w A.in1 I fp wr n P St) (hcmp : CmpOf prog w A.in1 .Gt P bt) (hSf : S ∉ fp) (k : Nat) :
    ∀ (j : Nat) (s : Shared) (vb : Value) (c : Nat), n = j + 1 + k → St (j + 1) s.heap → P (argBest bt j) vb →
    s.heap.get? S = some { cls := .type "list", dict := none, data := .seq #[vb, vb] c, slots := #[] } →
    (∀ v h' tk, P (argBest bt (n - 1)) v → (∀ b o, b ∉ wr → b ≠ S → s.heap.get? b = some o → h'.get? b = some o) → R (.ok (.ret v)) { s with heap := h', toks := tk }) →
    codeAny (model prog w) A (.builtin "max.loop" ⟨[.ref I, .none, .ref S], kw⟩) R s := by
  have hSw : S ∉ wr := fun h => hSf (W.sub _ h)
  induction k with
  | zero =>
    intro j s vb c hk hst hPb hS hR
    have hin : n = j + 1 := hk
    subst hin
    refine codeAny_builtin F.entry_max_loop ?_
    rw [Around.under_plainId F.plain_max_loop _]
    show wpAny _ A.in1 (seqItems? (.ref S) >>= _) _ _ s
    refine wpAny_bind (wpAny_seqItems hS rfl ?_)
    show wpAny _ A.in1 (tryCatch (pyNext (.ref I)) _ >>= _) _ _ s
    refine wpAny_bind (wpAny_tryCatch (W.done s _ _ hst fun h' tk hk' => ?_))
    have hS' := hk' S _ hSw hS
    show wpAny _ A.in1 (updateSeq S (fun _ => #[]) >>= _) _ _ _
    refine wpAny_bind (wpAny_updateSeq hS' rfl ?_)
    refine wpAny_bind (wpAny_letGo (wpAny_pure ?_))
    exact hR vb _ tk hPb fun b o hbw hbS e => (Heap.get?_update_other _ _ (Ne.symm hbS)).trans (hk' b o hbw e)
  | succ k ih =>
    intro j s vb c hk hst hPb hS hR
    have hlt : j + 1 < n := by omega
    refine codeAny_builtin F.entry_max_loop ?_
    rw [Around.under_plainId F.plain_max_loop _]
    show wpAny _ A.in1 (seqItems? (.ref S) >>= _) _ _ s
    refine wpAny_bind (wpAny_seqItems hS rfl ?_)
    show wpAny _ A.in1 (tryCatch (pyNext (.ref I)) _ >>= _) _ _ s
    refine wpAny_bind (wpAny_tryCatch (W.item (j + 1) s _ _ hlt hst fun v h' tk hP hst' hk' => ?_))
    have hS' := hk' S _ hSw hS
    show wpAny _ A.in1 (tryCatch (holding [v, v] (richCompare .Gt v vb >>= _)) _ >>= _) _ _ _
    refine wpAny_bind (wpAny_tryCatch (wpAny_holding (wpAny_bind (hcmp (j + 1) (argBest bt j) v vb _ _ _ hP hPb ?_))))
    refine wpAny_bind (wpAny_holding (wpAny_truthy_bool (wpAny_bind (wpAny_letGo (wpAny_pure ?_)))))
    cases hb : bt (j + 1) (argBest bt j) with
    | true =>
      simp only [if_true]
      refine wpAny_bind (wpAny_updateSeq hS' rfl (wpAny_bind (wpAny_letGo ?_)))
      rw [mx_name]
      refine wpAny_pure ⟨plainId_quiet F.plain_max_loop _, ih (j + 1) _ v _ (by omega) (W.frame _ _ _ hst' fun b hbf o e => ?_) (by simp only [argBest, hb, if_true]; exact hP) (Heap.get?_update_self _ hS' rfl)
        fun v' h2 tk2 hP' hk2 => ?_⟩
      · exact (Heap.get?_update_other _ _ (fun h : S = b => hSf (by rw [h]; exact hbf))).trans e
      · exact hR v' h2 tk2 hP' fun b o hbw hbS e => hk2 b o hbw hbS ((Heap.get?_update_other _ _ (Ne.symm hbS)).trans (hk' b o hbw e))
    | false =>
      simp only [Bool.false_eq_true, if_false]
      refine wpAny_bind (wpAny_letGo ?_)
      rw [mx_name]
      refine wpAny_pure ⟨plainId_quiet F.plain_max_loop _, ih (j + 1) _ vb c (by omega) hst' (by simp only [argBest, hb, Bool.false_eq_true, if_false]; exact hPb) hS' fun v' h2 tk2 hP' hk2 => ?_⟩
      exact hR v' h2 tk2 hP' fun b o hbw hbS e => hk2 b o hbw hbS (hk' b o hbw e)
theorem mx_first (W : Walks prog w A.in1 I fp wr n P St) (hcmp : CmpOf prog w A.in1 .Gt P bt) (hSf : S ∉ fp) (hn : 0 < n) {s : Shared} {c : Nat} (hst : St 0 s.heap)
    (hS : s.heap.get? S = some { cls := .type "list", dict := none, data := .seq #[] c, slots := #[] })
    (hR : ∀ v h' tk, P (argBest bt (n - 1)) v → (∀ b o, b ∉ wr → b ≠ S → s.heap.get? b = some o → h'.get? b = some o) → R (.ok (.ret v)) { s with heap := h', toks := tk }) :
    codeAny (model prog w) A (.builtin "max.loop" ⟨[.ref I, .none, .ref S], kw⟩) R s := by
  have hSw : S ∉ wr := fun h => hSf (W.sub _ h)
  refine codeAny_builtin F.entry_max_loop ?_
  rw [Around.under_plainId F.plain_max_loop _]
  show wpAny _ A.in1 (seqItems? (.ref S) >>= _) _ _ s
  refine wpAny_bind (wpAny_seqItems hS rfl ?_)
  show wpAny _ A.in1 (tryCatch (pyNext (.ref I)) _ >>= _) _ _ s
  refine wpAny_bind (wpAny_tryCatch (W.item 0 s _ _ hn hst fun v h' tk hP hst' hk' => ?_))
  have hS' := hk' S _ hSw hS
  show wpAny _ A.in1 (updateSeq S (fun _ => #[v, v]) >>= _) _ _ _
  refine wpAny_bind (wpAny_updateSeq hS' rfl ?_)
  rw [mx_name]
  refine wpAny_pure ⟨plainId_quiet F.plain_max_loop _, mx_loop W hcmp hSf (n - 1) 0 _ v _ (by omega) (W.frame _ _ _ hst' fun b hbf o e => ?_) hP (Heap.get?_update_self _ hS' rfl) fun v' h2 tk2 hP' hk2 => ?_⟩
  · exact (Heap.get?_update_other _ _ (fun h : S = b => hSf (by rw [h]; exact hbf))).trans e
  · exact hR v' h2 tk2 hP' fun b o hbw hbS e => hk2 b o hbw hbS ((Heap.get?_update_other _ _ (Ne.symm hbS)).trans (hk' b o hbw e))
theorem mx_empty {d : Value} (W : Walks prog w A.in1 I fp wr 0 P St) (hSf : S ∉ fp) {s : Shared} {c : Nat} (hst : St 0 s.heap)
    (hS : s.heap.get? S = some { cls := .type "list", dict := none, data := .seq #[] c, slots := #[] })
    (hR : ∀ h' tk, (∀ b o, b ∉ wr → b ≠ S → s.heap.get? b = some o → h'.get? b = some o) → R (.ok (.ret d)) { s with heap := h', toks := tk }) :
    codeAny (model prog w) A (.builtin "max.loop" ⟨[.ref I, .none, .ref S], [("default", d)]⟩) R s := by
  refine codeAny_builtin F.entry_max_loop ?_
  rw [Around.under_plainId F.plain_max_loop _]
  show wpAny _ A.in1 (seqItems? (.ref S) >>= _) _ _ s
  refine wpAny_bind (wpAny_seqItems hS rfl ?_)
  show wpAny _ A.in1 (tryCatch (pyNext (.ref I)) _ >>= _) _ _ s
  refine wpAny_bind (wpAny_tryCatch (W.done s _ _ hst fun h' tk hk' => ?_))
  show wpAny _ A.in1 (rule _ >>= _) _ _ _
  refine wpAny_bind (wpAny_rule (wpAny_pure ?_))
  exact hR h' tk fun b o hbw _ e => hk' b o hbw e
end
section
variable {prog : Program} {w : World} {A : Around} {E : Value → Shared → Prop} {s : Shared} {l : Addr} {its : List Value} {ns : List Int} {d : Value} {Q : Value → Shared → Prop}
theorem max_dflt (hh : A.handled = none) (hl : s.heap.IsList l its.toArray) (hi : IntsAre its ns)
    (h0 : ∀ h' tk, ns = [] → (∀ b o, s.heap.get? b = some o → h'.get? b = some o) → Q d { s with heap := h', toks := tk })
    (h : ∀ h' tk M t', (∀ b o, s.heap.get? b = some o → h'.get? b = some o) → M ∈ ns → (∀ a, a ∈ ns → a ≤ M) → Q (.int M t') { s with heap := h', toks := tk }) :
    wpAny (model prog w) A (call (.builtin "max") [.ref l] [("default", d)]) Q E s := by
  obtain ⟨xs, e⟩ := hi.allInts.items
  have hn : numsOf (intItems xs).toList = ns := by rw [← e]; exact hi.numsOf
  rw [nums_intItems] at hn
  subst hn
  rw [e] at hl
  refine wpAny_call (codeAny_call_builtin F.plain_max F.entry_max ?_)
  have hsig : checkBuiltinCall "max" ⟨[.ref l], [("default", d)]⟩ = pure () := by kernel_rfl
  refine wpAny_of_eq hsig ?_
  show wpAny _ A.in1 (Builtin.Builtins.bindParams "max" ["key", "default"] 0 ⟨[], [("default", d)]⟩ >>= _) _ _ s
  refine wpAny_bind (wpAny_of_eq (show Builtin.Builtins.bindParams "max" ["key", "default"] 0 ⟨[], [("default", d)]⟩ = pure [none, some d] from by kernel_rfl) ?_)
  refine wpAny_bind (wpAny_pure ?_)
  refine wpAny_bind (iter_intList hl fun s₂ e2 st hfp hlI => ?_)
  subst e2
  refine wpAny_bind (wpAny_newObj_type ?_)
  have W := Walks.list (prog := prog) (w := w) (A := A.in1) hh _ l hlI (intItems xs)
  rw [mx_name]
  have hSf : (s.heap.push { cls := .type "list_iterator", data := .fields #[.ref l, .int 0 0] }).objs.size ∉ [s.heap.objs.size, l] := fun hm => Nat.lt_irrefl _ (hfp _ hm)
  refine wpAny_pure ⟨plainId_quiet F.plain_max_loop _, ?_⟩
  by_cases hz : xs.size = 0
  · have W0 : Walks prog w A.in1 s.heap.objs.size [s.heap.objs.size, l] [s.heap.objs.size] 0 (fun i v => (intItems xs)[i]? = some v) (fun i h => h.IsListIter s.heap.objs.size l i ∧ h.IsList l (intItems xs)) := by
      have z : (intItems xs).size = 0 := by simpa [intItems] using hz
      rw [z] at W
      exact W
    refine mx_empty W0 hSf (W0.frame _ _ _ st fun b _ o e => Heap.get?_push_of_some _ e) (Heap.get?_push_size _ rfl) fun h' tk hk => ?_
    refine h0 h' tk (by simpa using hz) (old_kept fun b o hb e => hk b o hb (Nat.ne_of_lt (Heap.lt_size e)) (Heap.get?_push_of_some _ e))
  · have hsz : 0 < xs.size := Nat.pos_of_ne_zero hz
    refine mx_first W (CmpOf.ints_gt (numAt xs) (fun _ _ => intItems_at)) hSf (by simpa [intItems] using hsz) (W.frame _ _ _ st fun b _ o e => Heap.get?_push_of_some _ e) (Heap.get?_push_size _ rfl) fun v h' tk hP hk => ?_
    have hk' := old_kept (s := s) (l := l) (h' := h') fun b o hb e => hk b o hb (Nat.ne_of_lt (Heap.lt_size e)) (Heap.get?_push_of_some _ e)
    have hP' : (intItems xs)[argBest (fun i j => decide (numAt xs i > numAt xs j)) (xs.size - 1)]? = some v := by simpa [intItems] using hP
    obtain ⟨t, rfl⟩ := intItems_at hP'
    obtain ⟨h1, h2⟩ := argBest_gt (numAt xs) (xs.size - 1)
    refine h h' tk _ t hk' ?_ fun a ha => ?_
    · rw [numAt_eq]
      exact PySem.getD_mem (by rw [List.length_map, Array.length_toList]; omega)
    · obtain ⟨j, hj, rfl⟩ := mem_getD ha
      rw [List.length_map, Array.length_toList] at hj
      rw [← numAt_eq]
      exact h2 j (by omega)
end
section
variable {X : Cx} {x : Str} {p pos : Pos} {e : Expr} {es : List Expr} {kws : List Keyword} {t tk : TA} {id : String}
def CallKR (X : Cx) (f : Value) (ks : List Str) (r : List V → List V → Hp → VK → Prop) : Prop :=
  ∀ (pins : List (Addr × Obj)) (s : Shared) (σ : St) (H : Hp) (vs zs : List V) (us ws : List Value) (Q : VK), Inv X pins σ H s → Vals vs us → Vals zs ws → r vs zs H Q → wpAny (model X.prog X.w) X.A (call f us (ks.zip ws)) (EP X pins σ Q) X.xe s
def tCBK (r : List V → List V → Hp → VK → Prop) (t tk : TA) : TE := fun σ H Q => t σ H fun vs H1 => tk σ H1 fun zs H2 => r vs zs H2 Q
theorem pe_callBK {ks : List Str} {r : List V → List V → Hp → VK → Prop} (hc : CallKR X (.builtin id) ks r) (hg : Gl X x) (hm : X.mg x = none) (hv : bootBuiltins x = some (.builtin id)) (ha : PA X (e :: es) t) (hk : PK X kws tk)
    (hall : (backToKw pos (keywordEach kws X.env)).all (·.1.isSome) = true := by rfl) (hks : (backToKw pos (keywordEach kws X.env)).filterMap (·.1) = ks := by rfl)
    (hn : x ≠ "__name__" := by decide) (hdb : (x == ("__debug__" : Str)) = false := by decide)
    (he : backTo pos (starEach (e :: es) X.env) = (false, eval e X.env) :: backTo pos (starEach es X.env) := by rfl) (hpl : (backTo pos (starEach (e :: es) X.env)).any (·.1) = false := by rfl)
    (hkw : (backToKw pos (keywordEach kws X.env)).any (·.1.isNone) = false := by rfl) : PE X (.Call (.Name x p) (e :: es) kws pos) (tCBK r t tk) := by
  intro pins s σ H Q I h
  refine wpAny_Call_Name_kw (ld_blt I hg hm hv ?_ hn hdb)
  refine callWith_kw (thn (ha pos pins s σ H _ I h) fun us s1 ⟨vs, H1, I1, r1, q1⟩ => ?_) he hpl hall hkw
  refine thn (hk pos pins s1 σ H1 _ I1 q1) fun ws s2 ⟨zs, H2, I2, rz, q2⟩ => ?_
  rw [hks]
  exact hc pins s2 σ H2 vs zs us ws Q I2 r1 rz q2
def rMaxD (K : PySem.W.Frag) : List V → List V → Hp → VK → Prop := fun vs zs H Q => ∃ (a : Addr) (ns : List Int) (d : V), vs = [V.ref a] ∧ zs = [d] ∧ SqL K H a (ns.map V.int) ∧ (ns = [] → Q d H) ∧ ∀ m, m ∈ ns → (∀ y, y ∈ ns → y ≤ m) → Q (.int m) H
theorem ck_max (hc : X.calm = true) : CallKR X (.builtin "max") ["default"] (rMaxD X.K) := by
  intro pins s σ H vs zs us ws Q I r rz h
  obtain ⟨a, ns, d, rfl, rfl, hs, q0, q⟩ := h
  obtain ⟨its, rv, hl, _⟩ := I.list hs
  rw [Vals.ref1 r]
  cases rz with
  | cons r1 r2 =>
    cases r2
    exact max_dflt (I.ok.hd hc) hl.isList rv.ints (fun h' tk e hk => ⟨d, H, I.kept hk, r1, q0 e⟩) fun h' tk m t' hk h1 h2 => ⟨.int _, H, I.kept hk, ⟨_, rfl⟩, q m h1 h2⟩
end
end L2

set_option Elab.async false
set_option linter.all false
set_option maxRecDepth 100000
set_option maxHeartbeats 4000000
namespace L2
open PySem PySem.Spec PyProof.Rows
structure LamOk (N : List Str) (sc scope : Scope) (x : Str) (i : Nat) : Prop where
  kind : scope.kind = .function
  co : scope.isCoroutine = false
  gen : scope.isGenerator = false
  uniq : ∀ y ∈ scope.names, scope.names.lookup y.1 = some y.2
  ix : N[i]? = some x
  par : scope.names.lookup x = some .local
  free : ∀ y ∈ scope.names, y.2 = .free → sc.names.lookup y.1 = some .cell ∨ sc.names.lookup y.1 = some .free
  nocell : ∀ y ∈ scope.names, y.2 ≠ .cell
  own : ∀ y ∈ scope.names, y.2 = .local → y.1 = x
def lamC (N : List Str) (sc scope : Scope) (x : Str) (i : Nat) : Bool :=
  (match scope.kind with | .function => true | _ => false) && !scope.isCoroutine && !scope.isGenerator && (scope.names.all fun y => decide (scope.names.lookup y.1 = some y.2)) && decide (N[i]? = some x) && decide (scope.names.lookup x = some .local) &&
    (scope.names.all fun y => match y.2 with
      | .free => (match sc.names.lookup y.1 with | some .cell => true | some .free => true | _ => false)
      | .local => decide (y.1 = x)
      | .cell => false
      | _ => true)
theorem lamOk_by {N : List Str} {sc scope : Scope} {x : Str} {i : Nat} (h : lamC N sc scope x i = true) : LamOk N sc scope x i := by
  unfold lamC at h
  simp only [Bool.and_eq_true, List.all_eq_true, decide_eq_true_eq, Bool.not_eq_true'] at h
  obtain ⟨⟨⟨⟨⟨⟨h1, h2⟩, h3⟩, h4⟩, h5⟩, h6⟩, h7⟩ := h
  refine ⟨?_, h2, h3, h4, h5, h6, fun y hy e => ?_, fun y hy e => ?_, fun y hy e => ?_⟩
  · split at h1
    · assumption
    · cases h1
  · have q := h7 y hy
    simp only [e] at q
    split at q <;> first
      | exact .inl (by assumption)
      | exact .inr (by assumption)
      | cases q
  · have q := h7 y hy
    simp only [e] at q
    cases q
  · have q := h7 y hy
    simp only [e, decide_eq_true_eq] at q
    exact q
abbrev Cx.lam (X : Cx) (A' : Around) (s : Shared) (H : Hp) (env : Env) : Cx := { X with A := A'.deeper env, s_0 := s, H_0 := H, env := env, outer := X.stack, stack := env :: X.stack, ex := [], fn := fun _ => false, pn := [], xe := fun _ _ => False }
section
variable {X : Cx} {pins : List (Addr × Obj)} {σ : St} {H : Hp} {s : Shared}
theorem lam_start {scope : Scope} {x qual : Str} {i : Nat} {A' : Around} {f : Addr} {cd : Value} {h1 : Heap} {tk : Nat} {v : V} {u : Value} (I : Inv X pins σ H s) (hN : X.N.Nodup) (ok : LamOk X.N X.env.scope scope x i) (hA : A'.frames = some X.stack) (hh : A'.handled = none)
    (ns : h1.Ns s.heap.objs.size (fun y => [(x, u)].reverse.lookup y)) (kp : ∀ b o, s.heap.get? b = some o → h1.get? b = some o) (r : RelV v u) :
    Inv (X.lam A' s H (PySem.W.envX qual scope s.heap.objs.size f cd (cloFrom X.env.cells scope.names []))) [] (σ.set i (some v)) H { s with heap := h1, toks := tk } := by
  have hfree : ∀ y ∈ scope.names, y.2 = .free → ∃ c, X.env.cells.lookup y.1 = some c := fun y hy e => by
    rcases ok.free y hy e with k | k
    · exact I.ok.has _ (.inl k)
    · exact I.ok.has _ (.inr k)
  have cm : ∀ {y c}, (y, c) ∈ cloFrom X.env.cells scope.names [] → X.env.cells.lookup y = some c := fun {y c} hm => by
    rcases cloFrom_mem hm with hm | ⟨h1, rfl⟩
    · cases hm
    · obtain ⟨c, hc⟩ := hfree _ h1 rfl
      rw [hc]
      rfl
  have has : ∀ {y}, scope.names.lookup y = some .free → ∃ c, (cloFrom X.env.cells scope.names []).lookup y = some c ∧ X.env.cells.lookup y = some c := fun {y} hl => by
    obtain ⟨c', e'⟩ := mem_lookup (cloFrom_has (cells := X.env.cells) (acc := []) (PySem.mem_of_lookup hl))
    exact ⟨c', e', cm (PySem.mem_of_lookup e')⟩
  have hiσ : i < σ.length := by rw [I.len]; exact (List.getElem?_eq_some_iff.mp ok.ix).1
  have okB : (X.lam A' s H (PySem.W.envX qual scope s.heap.objs.size f cd (cloFrom X.env.cells scope.names []))).Ok := by
    refine ⟨I.ok.mod, ok.kind, rfl, rfl, Nat.le_refl _, fun y z c e1 e2 => ?_, fun y hy => ?_, fun y c z e => ?_, fun _ => hh, Around.frames_deeper hA, .inr ⟨rfl, rfl⟩, fun b hb => absurd hb (by simp), I.bs, Nat.le_trans I.ok.bsz I.sz, fun b o e => by simp, fun b hb => absurd hb (by simp), I.stack, I.stkFree⟩
    · exact I.ok.inj y z c (cm (PySem.mem_of_lookup e1)) (cm (PySem.mem_of_lookup e2))
    · have hy : scope.names.lookup y = some .cell ∨ scope.names.lookup y = some .free := hy
      rcases hy with hy | hy
      · exact absurd rfl (ok.nocell _ (PySem.mem_of_lookup hy))
      · obtain ⟨c, e, _⟩ := has hy
        exact ⟨c, e⟩
    · cases (show false = true from z)
  refine ⟨okB, rfl, I.bare, Un.kept kp, ⟨_, ns, fun j y av e1 e2 e3 => ?_⟩, fun y c e => ?_, I.hok.fresh (Nat.le_refl _), fun y c e => I.freeC y c (cm (PySem.mem_of_lookup e)), fun p hp => absurd (show p ∈ ([] : List (Addr × Obj)) ++ [] from hp) (by simp), I.hok.kept kp, by rw [List.length_set]; exact I.len⟩
  · by_cases hj : j = i
    · subst hj
      rw [show X.N[j]? = _ from ok.ix] at e1
      cases e1
      rw [List.getElem?_set_self hiσ] at e2
      cases e2
      exact ⟨u, r, .inl ⟨ok.par, by simp⟩⟩
    · rw [List.getElem?_set_ne (Ne.symm hj)] at e2
      have hfr : scope.names.lookup y = some .free := by
        have e3 : Vis scope y := e3
        rcases e3 with e3 | e3 | e3
        · have q := ok.own _ (PySem.mem_of_lookup e3) rfl
          have q : y = x := q
          subst q
          exact absurd (nodup_ix hN e1 ok.ix) hj
        · exact absurd rfl (ok.nocell _ (PySem.mem_of_lookup e3))
        · exact e3
      obtain ⟨m, hn, hl⟩ := I.loc
      have hk := ok.free _ (PySem.mem_of_lookup hfr) rfl
      obtain ⟨w, rw', q⟩ := hl j y av e1 e2 (hk.elim (fun k => .inr (.inl k)) fun k => .inr (.inr k))
      obtain ⟨c, h2, h3⟩ := has hfr
      refine ⟨w, rw', .inr ⟨.inr hfr, c, h2, ?_⟩⟩
      rcases q with ⟨k, _⟩ | ⟨_, c', e', z⟩
      · have k : X.env.scope.names.lookup y = some .local := k
        rcases hk with k' | k' <;> rw [show X.env.scope.names.lookup y = _ from k'] at k <;> cases k
      · rw [h3] at e'
        cases e'
        exact z.keeps kp
  · obtain ⟨w, z⟩ := I.cell y c (cm (PySem.mem_of_lookup e))
    exact ⟨w, z.keeps kp⟩
theorem lam_call {scope : Scope} {x qual nm : Str} {params : Arguments} {body : Expr} {i : Nat} {A' : Around} {f c' : Addr} {pm ctv : Value} {v : V} {u : Value} {te : TE} {Q : VK} {E : Value → Shared → Prop} (I : Inv X pins σ H s) (hN : X.N.Nodup) (ok : LamOk X.N X.env.scope scope x i)
    (hA : A'.frames = some X.stack) (hh : A'.handled = none) (hroom : A'.depth < recursionLimit) (hf : s.heap.get? f = some (PySem.W.kla_obj nm qual params body scope (cloFrom X.env.cells scope.names []) pm c' ctv)) (hcd : s.heap.CodeRec (.ref c') qual)
    (hbind : bindArgs (PySem.W.kla_fn nm qual params body scope (cloFrom X.env.cells scope.names []) pm (.ref c') ctv) ⟨[u], []⟩ = pure [(x, u)]) (r : RelV v u)
    (hb : ∀ (s : Shared) (H : Hp) (L f : Addr) (cd : Value) (cl : List (Str × Addr)), PE (X.lam A' s H (PySem.W.envX qual scope L f cd cl)) body te) (h : te (σ.set i (some v)) H Q) :
    wpAny (model X.prog X.w) A' (call (.ref f) [u]) (EP X pins σ Q) E s := by
  refine wpAny_call (PySem.W.kla_callFunE hroom hf rfl ok.co ok.gen rfl hcd ?_)
  rw [hbind]
  refine wpAny_pure (wpAny_newFunctionEnv ok.nocell (fun y hy => ?_) (fun h₁ hns hsb => ⟨I.nolimit.fresh _ hsb, ?_⟩) ok.kind)
  · obtain rfl : y = (x, u) := List.mem_singleton.mp hy
    exact ok.par
  · have hk₁ : ∀ b o, s.heap.get? b = some o → h₁.get? b = some o := fun b o e => hsb.extBut b o (Nat.ne_of_lt (Heap.lt_size e)) (Heap.get?_push_of_some _ e)
    have I1 := lam_start (qual := qual) (f := f) (cd := .ref c') (tk := s.toks + [(x, u)].length) I hN ok hA hh hns hk₁ r
    refine PySem.W.kla_codeExpr (wpAny_mono (hb s H s.heap.objs.size f (.ref c') _ [] _ _ H Q I1 h) (fun w s' hq => ?_) fun _ _ z => False.elim z)
    obtain ⟨y, H', I2, ry, q⟩ := hq
    have I3 : Inv X pins σ H' s' := I.call' (ch := []) I2.os I2.base I2.hok I2.bare fun b hb => absurd hb (by simp)
    exact ⟨y, H', I3, ry, q⟩
end
end L2

set_option Elab.async false
set_option linter.all false
set_option maxRecDepth 100000
set_option maxHeartbeats 4000000
namespace L2
open PySem PySem.Spec PyProof.Rows
section
variable {X : Cx} {pins : List (Addr × Obj)} {σ : St} {H : Hp} {s : Shared}
theorem Inv.chpin {pins' : List (Addr × Obj)} {b : Addr} {h' : Heap} {t' : Nat} (I : Inv X pins σ H s) (f : FpOk X [] H b) (sb : Heap.SameBut b s.heap h')
    (hp : ∀ p ∈ pins', (p ∈ pins ∧ p.1 ≠ b) ∨ (p.1 = b ∧ h'.get? b = some p.2 ∧ ∀ v, p.2.data ≠ .cell v)) : Inv X pins' σ H { s with heap := h', toks := t' } := by
  obtain ⟨f0, f1, f2, f3, f4, f5⟩ := f
  have I0 : Inv X [] σ H s := I.pins_of fun p hp => absurd hp (by simp)
  have I1 : Inv X [] σ H { s with heap := h', toks := t' } := I0.turned (fun c o hc e => (sb.2 c hc).trans e) f0 f1 f3 f4 f5
  refine I1.pins_of fun p hq => ?_
  rcases hp p hq with ⟨hm, hne⟩ | ⟨he, hg, hd⟩
  · obtain ⟨e, n, ne, nf, d⟩ := I.pin p (List.mem_append_right _ hm)
    exact ⟨(sb.2 p.1 hne).trans e, n, ne, nf, d⟩
  · rw [he]
    exact ⟨hg, f0, f1, f2, hd⟩
theorem Inv.newpin {pins' : List (Addr × Obj)} {h' : Heap} {t' : Nat} (I : Inv X pins σ H s) (k : ∀ b o, s.heap.get? b = some o → h'.get? b = some o)
    (hp : ∀ p ∈ pins', p ∈ pins ∨ (s.heap.objs.size ≤ p.1 ∧ h'.get? p.1 = some p.2 ∧ ∀ v, p.2.data ≠ .cell v)) : Inv X pins' σ H { s with heap := h', toks := t' } := by
  have I1 : Inv X pins σ H { s with heap := h', toks := t' } := I.kept k
  refine I1.pins_of fun p hq => ?_
  rcases hp p hq with hm | ⟨hz, hg, hd⟩
  · exact I1.pin p (List.mem_append_right _ hm)
  · obtain ⟨f0, f1, f2, _⟩ := I.fpOk hz (I.hok.fresh hz)
    exact ⟨hg, f0, f1, f2, hd⟩
theorem Inv.adopt {a : Addr} {o : HO} (I : Inv X pins σ H s) (f : FpOk X pins H a) (new : ObjOk X.prog X.w (upd H a o) s.heap a o) : Inv X pins σ (upd H a o) s := by
  obtain ⟨f0, f1, f2, f3, f4, f5⟩ := f
  refine I.step (h' := s.heap) (g' := s.gens) (t' := s.toks) (d' := s.drawn) (ch := [a]) (fun b hb => ?_) (fun b o _ _ _ e _ => e) (fun b o _ _ _ e _ => ⟨o.slots, e⟩) (fun b o hb e n => ?_) (fun b o _ e => ⟨o, e⟩) (fun b xs e => ?_) (fun b o u e => ?_) (fun b ps e => ⟨#[], ?_⟩) (fun m hm => hm) (fun b u e => ?_) I.bare
  · have e : b = a := by simpa using hb
    subst e
    exact ⟨f3, f1, f4, f5⟩
  · rw [upd_ne (fun z => hb (by simp [z]))]
    exact n
  · rw [upd_ne (ne_of_none e f0)]
    exact e
  · rw [upd_ne (ne_of_none e f0)]
    exact e
  · rw [upd_ne (ne_of_none e f0), e]
    simp
  · by_cases hb : b = a
    · subst hb
      rw [upd_same] at e
      cases e
      exact new
    · rw [upd_ne hb] at e
      exact (I.hok b u e).stay (fun c v _ q => q) (fun c q => by rw [upd_ne (ne_of_none q f0)]; exact q) fun c xs q => by rw [upd_ne (ne_of_none q f0)]; exact q
theorem FpOk.repin {pins pins' : List (Addr × Obj)} {b : Addr} (f : FpOk X pins H b) (h : ∀ p ∈ pins', p.1 ≠ b) : FpOk X pins' H b :=
  ⟨f.1, f.2.1, f.2.2.1, f.2.2.2.1, f.2.2.2.2.1, fun p hp => (List.mem_append.mp hp).elim (fun z => f.2.2.2.2.2 p (List.mem_append_left _ z)) (h p)⟩
end
section
variable {X : Cx} {pins : List (Addr × Obj)} {σ : St} {H : Hp} {s : Shared} {A : Around} {E : Value → Shared → Prop} {a kS : Addr} {vs : List Value} {kz : List Int} {keys : Array Value} {e e1 : Nat} {P : PySem.Fin → Shared → Prop}
abbrev SkOut (kz : List Int) (vs : List Value) (out : List Value) : Prop := KskOut false kz vs out
theorem sk_tail {st : SortSt} (I : Inv X (pins ++ [(kS, seqObj "list" keys e), (a, seqObj "list" #[] e1)]) σ H s) (fk : FpOk X [] H kS) (fa : FpOk X [] H a) (hka : kS ≠ a) (hpk : ∀ p ∈ pins, p.1 ≠ kS) (hpa : ∀ p ∈ pins, p.1 ≠ a)
    (hk : IntsAre keys.toList kz) (hlen : kz.length = vs.length) (h64 : vs.length < 64) (hp : (arrOf st).Perm (keys.zip vs.toArray)) (hs : SortedTo (arrOf st) (arrOf st).size) (hfl : failedOf st = none)
    (h : ∀ s' out c, Inv X (pins ++ [(a, seqObj "list" out c)]) σ H s' → SkOut kz vs out.toList → P (.done (.ret .none)) s') :
    wpAny (model X.prog X.w) A (ksk_tail a false e1 (.ref kS) st) P E s := by
  have nk := (I.pin (kS, seqObj "list" keys e) (by simp)).1
  have na := (I.pin (a, seqObj "list" #[] e1) (by simp)).1
  have hsz : keys.size = vs.length := by
    have h1 := hk.length
    rw [Array.length_toList] at h1
    omega
  have hsz2 : (arrOf st).size = vs.length := by rw [hp.size_eq, Array.size_zip, hsz, List.size_toArray, Nat.min_self]
  have hout : ((arrOf st).map (·.2)).size = vs.length := by rw [Array.size_map]; exact hsz2
  have s1 := Heap.SameBut.update s.heap kS (Obj.mapSeq fun _ => (#[] : Array Value))
  have na1 : (s.heap.update kS (Obj.mapSeq fun _ => (#[] : Array Value))).get? a = some (seqObj "list" #[] e1) := (s1.2 a hka.symm).trans na
  have I1 : Inv X (pins ++ [(a, seqObj "list" #[] e1)]) σ H { s with heap := s.heap.update kS (Obj.mapSeq fun _ => (#[] : Array Value)) } := I.chpin (t' := s.toks) fk s1 fun p hp => by
    rcases List.mem_append.mp hp with hp | hp
    · exact .inl ⟨List.mem_append_left _ hp, hpk p hp⟩
    · obtain rfl := List.mem_singleton.mp hp
      exact .inl ⟨by simp, hka.symm⟩
  unfold ksk_tail
  try dsimp only
  refine wpAny_bind (listUpdate_at nk rfl ?_ (by rw [hsz, sizeLine_eq]; omega) (Nat.zero_le _))
  refine wpAny_bind (wpAny_letGo ?_)
  refine wpAny_bind (seqEpoch_at na1 rfl ?_)
  refine wpAny_bind (listUpdate_at na1 rfl ?_ (Nat.zero_le _) (Nat.le_trans (Nat.le_of_eq (by simpa using hout)) (by rw [sizeLine_eq]; omega)))
  rw [hfl]
  simp only [bne_self_eq_false, Bool.false_eq_true, if_false]
  have s2 := Heap.SameBut.update (s.heap.update kS (Obj.mapSeq fun _ => (#[] : Array Value))) a (Obj.mapSeq fun _ => (arrOf st).map (·.2))
  obtain ⟨c2, hc2⟩ : ∃ c2, ((s.heap.update kS (Obj.mapSeq fun _ => (#[] : Array Value))).update a (Obj.mapSeq fun _ => (arrOf st).map (·.2))).get? a = some (seqObj "list" ((arrOf st).map (·.2)) c2) :=
    ⟨_, get?_update_seq na1 fun _ => (arrOf st).map (·.2)⟩
  have ko : SkOut kz vs ((arrOf st).map (·.2)).toList := by
    have z := ksk_out (b := false) hk hp hs
    rw [if_neg (by decide)] at z
    exact z
  refine wpAny_pure (h _ ((arrOf st).map (·.2)) c2 (I1.chpin (t' := s.toks) fa s2 fun p hp => ?_) ko)
  rcases List.mem_append.mp hp with hp | hp
  · exact .inl ⟨List.mem_append_left _ hp, hpa p hp⟩
  · obtain rfl := List.mem_singleton.mp hp
    exact .inr ⟨rfl, hc2, fun v z => nomatch z⟩
theorem sk_end (I : Inv X (pins ++ [(kS, seqObj "list" keys e), (a, seqObj "list" #[] e1)]) σ H s) (fk : FpOk X [] H kS) (fa : FpOk X [] H a) (hka : kS ≠ a) (hpk : ∀ p ∈ pins, p.1 ≠ kS) (hpa : ∀ p ∈ pins, p.1 ≠ a)
    (hk : IntsAre keys.toList kz) (hlen : kz.length = vs.length) (h64 : vs.length < 64)
    (h : ∀ s' out c, Inv X (pins ++ [(a, seqObj "list" out c)]) σ H s' → SkOut kz vs out.toList → P (.done (.ret .none)) s') :
    wpAny (model X.prog X.w) A (ksk_end a false vs.toArray e1 (.ref kS) keys) P E s := by
  have hsz : keys.size = vs.length := by
    have h1 := hk.length
    rw [Array.length_toList] at h1
    omega
  have hzs : (keys.zip vs.toArray).size = vs.length := by rw [Array.size_zip, hsz, List.size_toArray, Nat.min_self]
  unfold ksk_end
  try dsimp only
  rw [if_neg (by decide)]
  by_cases h2 : vs.toArray.size < 2
  · rw [if_pos h2, if_pos h2]
    refine wpAny_bind (wpAny_pure ?_)
    rw [StateT.run_pure]
    refine wpAny_bind (wpAny_pure ?_)
    try dsimp only
    refine sk_tail (st := SortSt.mk' general' (keys.zip vs.toArray) #[] 7 none) I fk fa hka hpk hpa hk hlen h64 (Array.Perm.refl _) (fun i j hij hj => ?_) rfl h
    have hj2 : j < (keys.zip vs.toArray).size := hj
    rw [hzs] at hj2
    rw [List.size_toArray] at h2
    have : i = j := by omega
    subst this
    exact Int.le_refl _
  · rw [if_neg h2, if_neg h2]
    rw [List.size_toArray] at h2
    rw [ksk_kind hk (by rw [hsz]; omega)]
    refine wpAny_bind (wpAny_pure ?_)
    refine wpAny_bind (wpAny_mono (wpS_sortRuns (a₀ := keys.zip vs.toArray) (st := SortSt.mk' oneType' (keys.zip vs.toArray) #[] 7 none)
      (Q := fun _ st' => (arrOf st').Perm (keys.zip vs.toArray) ∧ failedOf st' = none ∧ SortedTo (arrOf st') (keys.zip vs.toArray).size)
      (ksk_intKeys hk) ⟨Array.Perm.refl _, rfl, rfl, rfl⟩ (by rw [hzs]; omega) (by rw [hzs]; exact h64) fun st' a1 a2 a3 => ⟨a1, a2, a3⟩) ?_ fun _ _ e => e)
    rintro ⟨⟨⟩, st'⟩ s' ⟨rfl, hp, hf, hs⟩
    try dsimp only
    exact sk_tail I fk fa hka hpk hpa hk hlen h64 hp (by rw [hp.size_eq]; exact hs) hf h
theorem sk_rest {f : Value} (I : Inv X (pins ++ [(kS, seqObj "list" #[] 0), (a, seqObj "list" #[] e1)]) σ H s) (fk : FpOk X [] H kS) (fa : FpOk X [] H a) (hka : kS ≠ a) (hpk : ∀ p ∈ pins, p.1 ≠ kS) (hpa : ∀ p ∈ pins, p.1 ≠ a)
    (hlen : kz.length = vs.length) (h64 : vs.length < 64)
    (turn : ∀ (i : Nat) (v : Value) (k : Int), vs[i]? = some v → kz[i]? = some k → ∀ (s : Shared) (own : List (Addr × Obj)), Inv X (pins ++ own) σ H s →
      wpAny (model X.prog X.w) A (call f [v]) (fun r s' => Inv X (pins ++ own) σ H s' ∧ ∃ t, r = .int k t) (fun _ _ => False) s)
    (h : ∀ s' out c, Inv X (pins ++ [(a, seqObj "list" out c)]) σ H s' → SkOut kz vs out.toList → P (.done (.ret .none)) s') :
    wpAny (model X.prog X.w) A (ksk_rest a f false vs.toArray e1 (.ref kS)) P E s := by
  unfold ksk_rest
  refine wpAny_bind (wpAny_rule ?_)
  first
    | rw [List.forIn_toArray]
    | (rw [← Array.forIn_toList]; simp only [List.toList_toArray])
    | rw [← Array.forIn_toList]
  refine wpAny_bind (ksk_fold (fun i s' => ∃ kA e, Inv X (pins ++ [(kS, seqObj "list" kA e), (a, seqObj "list" #[] e1)]) σ H s' ∧ IntsAre kA.toList (kz.take i)) vs 0 s ⟨#[], 0, I, by simpa using IntsAre.nil⟩ ?step ?done)
  case step =>
    rintro j x s' hx ⟨kA, e, I', hk⟩
    simp only [Nat.zero_add] at hk ⊢
    have hj : j < vs.length := (List.getElem?_eq_some_iff.mp hx).1
    obtain ⟨k, hkj⟩ : ∃ k, kz[j]? = some k := ⟨_, List.getElem?_eq_getElem (by omega)⟩
    have hz : kA.size ≤ vs.length := by
      have h1 := hk.length
      rw [Array.length_toList, List.length_take] at h1
      omega
    refine wpAny_bind (wpAny_attempt (wpAny_mono (turn j x k hx hkj s' _ I') (fun v s2 he => ?_) fun _ _ hF => hF.elim))
    obtain ⟨I2, t2, rfl⟩ := he
    try dsimp only
    have nk := (I2.pin (kS, seqObj "list" kA e) (by simp)).1
    have s1 := Heap.SameBut.update s2.heap kS (Obj.mapSeq (·.push (.int k t2)))
    obtain ⟨c2, hc2⟩ : ∃ c2, (s2.heap.update kS (Obj.mapSeq (·.push (.int k t2)))).get? kS = some (seqObj "list" (kA.push (.int k t2)) c2) := ⟨_, get?_update_seq nk (·.push (.int k t2))⟩
    have ek : kz.take (j + 1) = kz.take j ++ [k] := by rw [List.take_add_one, hkj]; simp
    have ea : (kA.push (Value.int k t2)).toList = kA.toList ++ [Value.int k t2] := by simp
    refine wpAny_bind (listUpdate_at nk rfl ?_ (by rw [sizeLine_eq]; omega) (Nat.le_trans (Nat.le_of_eq (Array.size_push ..)) (by rw [sizeLine_eq]; omega)))
    refine wpAny_pure ⟨rfl, kA.push (.int k t2), c2, I2.chpin (t' := s2.toks) fk s1 fun p hp => ?_, by rw [ea, ek]; exact ksk_snoc hk⟩
    rcases List.mem_append.mp hp with hp | hp
    · exact .inl ⟨List.mem_append_left _ hp, hpk p hp⟩
    · rcases List.mem_cons.mp hp with rfl | hp
      · exact .inr ⟨rfl, hc2, fun v z => nomatch z⟩
      · obtain rfl := List.mem_singleton.mp hp
        exact .inl ⟨by simp, hka.symm⟩
  case done =>
    rintro s' ⟨kA, e, I', hk⟩
    have hk' : IntsAre kA.toList kz := by
      have e3 : kz.take (0 + vs.length) = kz := List.take_of_length_le (by omega)
      rw [e3] at hk
      exact hk
    have nk := (I'.pin (kS, seqObj "list" kA e) (by simp)).1
    try dsimp only
    refine wpAny_bind (listItems_at nk rfl ?_)
    exact sk_end I' fk fa hka hpk hpa hk' hlen h64 h
end
end L2

set_option Elab.async false
set_option linter.all false
set_option maxRecDepth 100000
set_option maxHeartbeats 4000000
namespace L2
open PySem PySem.Spec PyProof.Rows
def BmOk (mg : Str → Option Value) (base : Heap) : Prop := ∃ bm ob, mg "__builtins__" = some (.ref bm) ∧ bm ≠ builtinsNs ∧ base.get? bm = some ob ∧ ob.cls = .type "module" ∧ ob.dict = some builtinsNs ∧ ob.data = .plain
def tabOf (ts : List (Nat × Nat × Addr)) : List Value := ts.flatMap fun t => [rawInt t.1, rawInt t.2.1, .ref t.2.2]
abbrev codeX (qual : Str) (c : Addr) : HO := .ext fun h => h.CodeRec (.ref c) qual
def TabOk (H : Hp) (P : Addr) (qual : Str) : Prop := ∃ ts : List (Nat × Nat × Addr), H P = some (.tbl (tabOf ts).toArray) ∧ ∀ t ∈ ts, H t.2.2 = some (codeX qual t.2.2)
theorem tabOf_snoc (ts : List (Nat × Nat × Addr)) (a b : Nat) (c : Addr) : tabOf (ts ++ [(a, b, c)]) = tabOf ts ++ [rawInt a, rawInt b, .ref c] := by
  unfold tabOf
  simp
theorem tabOf_ok : ∀ ts : List (Nat × Nat × Addr), TriplesOk (tabOf ts)
  | [] => trivial
  | t :: r => tabOf_ok r
theorem tabOf_among {pos : Pos} : ∀ {ts : List (Nat × Nat × Addr)} {v : Value}, codeAmong pos (tabOf ts) = some v → ∃ t ∈ ts, v = .ref t.2.2
  | [], v, h => by cases (show (none : Option Value) = some v from h)
  | t :: r, v, h => by
    have h : (if ((t.1 : Int) == pos.line && (t.2.1 : Int) == pos.col) = true then some (Value.ref t.2.2) else codeAmong pos (tabOf r)) = some v := h
    split at h
    · exact ⟨t, List.mem_cons_self, (Option.some.inj h).symm⟩
    · obtain ⟨t', h1, h2⟩ := tabOf_among h
      exact ⟨t', List.mem_cons_of_mem _ h1, h2⟩
def ButT (P : Addr) (H H' : Hp) : Prop := ∀ b o, H b = some o → b ≠ P → H' b = some o
theorem TabOk.laid {H : Hp} {P a : Addr} {qual : Str} {o : HO} (T : TabOk H P qual) (h : H a = none) : TabOk (upd H a o) P qual := by
  obtain ⟨ts, e, k⟩ := T
  exact ⟨ts, by rw [upd_ne (ne_of_none e h)]; exact e, fun t ht => by rw [upd_ne (ne_of_none (k t ht) h)]; exact k t ht⟩
section
variable {X : Cx} {pins : List (Addr × Obj)} {σ : St} {H : Hp} {s : Shared}
theorem Inv.table {P : Addr} {ps more : Array Value} {h' : Heap} {t' : Nat} (I : Inv X pins σ H s) (hP : H P = some (.tbl ps)) (hx : Heap.ExtBut P s.heap h') (hn : h'.get? P = some { cls := .none, data := .fields (ps ++ more) }) :
    Inv X pins σ (upd H P (.tbl (ps ++ more))) { s with heap := h', toks := t' } := by
  have ne : ∀ b, H b = none → b ≠ P := fun b e z => by rw [z, hP] at e; cases e
  refine I.step (g' := s.gens) (d' := s.drawn) (ch := []) (fun _ z => nomatch z) (fun b o _ _ _ e n => hx b o (ne b n) e) (fun b o _ _ _ e n => ⟨o.slots, hx b o (ne b n) e⟩) (fun b o _ e n => by rw [upd_ne (ne b n)]; exact n)
    (fun b o _ e => ?_) (fun b xs e => ?_) (fun b o u e => ?_) (fun b qs e => ?_) (fun m hm => ?_) (fun b u e => ?_) I.bare
  · by_cases hb : b = P
    · exact ⟨_, by rw [hb]; exact hn⟩
    · exact ⟨o, hx b o hb e⟩
  · rw [upd_ne (fun z => by rw [z, hP] at e; cases e)]
    exact e
  · rw [upd_ne (fun z => by rw [z, hP] at e; cases e)]
    exact e
  · by_cases hb : b = P
    · subst hb
      rw [hP] at e
      cases e
      exact ⟨more, upd_same⟩
    · exact ⟨#[], by rw [upd_ne hb, e]; simp⟩
  · obtain ⟨o, es, ep, ho, r⟩ := hm
    exact ⟨o, es, ep, hx _ o (fun z => by
      have q := I.free
      rw [z, hP] at q
      cases q) ho, r⟩
  · by_cases hb : b = P
    · subst hb
      rw [upd_same] at e
      cases e
      exact hn
    · rw [upd_ne hb] at e
      refine (I.hok b u e).stay (fun c v hc q => hx c v ?_ q) (fun c q => ?_) fun c xs q => ?_
      · rcases hc with z | z
        · rw [z]
          exact hb
        · intro w
          rw [w, hP] at z
          cases z
      · rw [upd_ne (fun z => by rw [z, hP] at q; cases q)]
        exact q
      · rw [upd_ne (fun z => by rw [z, hP] at q; cases q)]
        exact q
theorem lam_make {params : Arguments} {body : Expr} {scope : Scope} {pos : Pos} {x qual : Str} {i : Nat} {c P : Addr} {Q : Value → Shared → Prop} {A : Around} {E : Value → Shared → Prop} (I : Inv X pins σ H s) (B : BmOk X.mg X.base) (hcode : X.env.code = .ref c) (C : PySem.W.CodeHd X.base c P)
    (T : TabOk H P qual) (ok : LamOk X.N X.env.scope scope x i) (hq : X.env.qual ++ "<lambda>" = qual) (hdef : defaultsOf params X.env = ([], []))
    (h : ∀ f c' pm ctv H' s', TabOk H' P qual → ButT P H H' → Inv X (pins ++ [(f, PySem.W.kla_obj "<lambda>" qual params body scope (cloFrom X.env.cells scope.names []) pm c' ctv)]) σ H' s' → H' c' = some (codeX qual c') → Q (.ref f) s') :
    wpAny (model X.prog X.w) A (eval (.Lambda params body scope pos) X.env) Q E s := by
  refine PySem.W.kla_eval hdef ?_
  rw [hq]
  have hfree : ∀ y ∈ scope.names, y.2 = .free → ∃ c, X.env.cells.lookup y.1 = some c := fun y hy e => by
    rcases ok.free y hy e with k | k
    · exact I.ok.has _ (.inl k)
    · exact I.ok.has _ (.inr k)
  have hcl := closure_ok hfree
  obtain ⟨ts, eP, kT⟩ := id T
  have hP : s.heap.get? P = some (PySem.W.tabObj (tabOf ts).toArray) := I.hok P _ eP
  have hgs : s.heap.Ns mainGlobals X.mg := I.mod.glob.keeps I.bk
  obtain ⟨bm, ob, b1, b2, b3, b4, b5, b6⟩ := B
  have b3' := I.bk _ _ b3
  have hgP : mainGlobals ≠ P := fun q => by
    obtain ⟨o, es, ep, e, hd, _⟩ := hgs
    rw [q, hP] at e
    cases e
    cases hd
  have hbP : bm ≠ P := fun q => by
    rw [q, hP] at b3'
    cases b3'
    cases b4
  have hbG : bm ≠ mainGlobals := fun q => by
    obtain ⟨o, es, ep, e, hd, _⟩ := hgs
    rw [q, e] at b3'
    cases b3'
    rw [hd] at b6
    cases b6
  have C' := C.keeps I.bk
  have Bs : s.heap.BuiltinsAt X.mg P := ⟨bm, ob, b1, b2, hbG, hbP, b3', b4, b5, b6⟩
  cases hc : codeAmong pos (tabOf ts).toArray.toList with
  | some cv =>
    obtain ⟨t, ht, rfl⟩ := tabOf_among (show codeAmong pos (tabOf ts) = some cv by simpa using hc)
    refine PySem.W.kla_makeFunctionHit (mg := X.mg) hcl I.ok.glob hgs hcode C' hP (by simpa using tabOf_ok ts) hc Bs fun ctv h' tk hk hsz => ?_
    refine h h'.objs.size t.2.2 ((X.mg "__name__").getD .none) ctv H _ T (fun b o e _ => e) (I.newpin (fun b o e => Heap.get?_push_of_some _ (hk b o e)) fun p hp => ?_) (kT t ht)
    rcases List.mem_append.mp hp with hp | hp
    · exact .inl hp
    · obtain rfl := List.mem_singleton.mp hp
      exact .inr ⟨hsz, Heap.get?_push_size _ rfl, fun v z => nomatch z⟩
  | none =>
    refine PySem.W.kla_makeFunction (mg := X.mg) hcl I.ok.glob hgs hcode C' hP (by simpa using tabOf_ok ts) hc hgP Bs fun c' ctv h' tk hx hge hlt hrec htb => ?_
    have I1 : Inv X pins σ (upd H P (.tbl ((tabOf ts).toArray ++ #[rawInt pos.line, rawInt pos.col, .ref c']))) { s with heap := h', toks := tk } := I.table eP hx htb
    have hfc : (upd H P (.tbl ((tabOf ts).toArray ++ #[rawInt pos.line, rawInt pos.col, .ref c']))) c' = none := by
      have z : H c' = none := I.hok.fresh hge
      rw [upd_ne (fun q => by rw [q, eP] at z; cases z)]
      exact z
    have F1 : FpOk X pins (upd H P (.tbl ((tabOf ts).toArray ++ #[rawInt pos.line, rawInt pos.col, .ref c']))) c' := I.fpOk hge hfc
    obtain ⟨oc, hoc⟩ : ∃ oc, h'.get? c' = some oc := by
      obtain ⟨_, oc, _, _, e, q, _⟩ := hrec
      cases e
      exact ⟨oc, q⟩
    have I2 : Inv X pins σ (upd (upd H P (.tbl ((tabOf ts).toArray ++ #[rawInt pos.line, rawInt pos.col, .ref c']))) c' (codeX qual c')) { s with heap := h', toks := tk } := I1.adopt F1 ⟨hrec, ⟨oc, hoc⟩, fun h1 h2 hr k => by
      obtain ⟨c2, o2, vs, t, e, q, r⟩ := hr
      cases e
      exact ⟨c', o2, vs, t, rfl, k o2 q, r⟩⟩
    refine h h'.objs.size c' ((X.mg "__name__").getD .none) ctv _ _ ⟨ts ++ [(pos.line, pos.col, c')], ?_, fun t ht => ?_⟩ (fun b o e hb => ?_) (I2.newpin (s := { s with heap := h', toks := tk }) (t' := tk) (fun b o e => Heap.get?_push_of_some _ e) fun p hp => ?_) upd_same
    · rw [upd_ne (fun q => by rw [← q, upd_same] at hfc; cases hfc), upd_same, tabOf_snoc]
      simp
    · rcases List.mem_append.mp ht with ht | ht
      · have q := kT t ht
        have n1 : t.2.2 ≠ P := fun z => by rw [z, eP] at q; cases q
        have n2 : t.2.2 ≠ c' := fun z => by
          have w : H c' = none := I.hok.fresh hge
          rw [← z, q] at w
          cases w
        rw [upd_ne n2, upd_ne n1]
        exact q
      · obtain rfl := List.mem_singleton.mp ht
        exact upd_same
    · have n2 : b ≠ c' := fun z => by
        have w : H c' = none := I.hok.fresh hge
        rw [← z, e] at w
        cases w
      rw [upd_ne n2, upd_ne hb]
      exact e
    · rcases List.mem_append.mp hp with hp | hp
      · exact .inl hp
      · obtain rfl := List.mem_singleton.mp hp
        exact .inr ⟨Nat.le_refl _, Heap.get?_push_size _ rfl, fun v z => nomatch z⟩
end
end L2

set_option Elab.async false
set_option linter.all false
set_option maxRecDepth 100000
set_option maxHeartbeats 4000000
namespace L2
open PySem PySem.Spec PyProof.Rows
theorem perm_back {α β : Type} {R : α → β → Prop} : ∀ {l1 l2 : List β}, l1.Perm l2 → ∀ {m2 : List α}, Paired R m2 l2 → ∃ m1, m1.Perm m2 ∧ Paired R m1 l1 := by
  intro l1 l2 p
  induction p with
  | nil => intro m2 h; exact ⟨m2, .refl _, h⟩
  | cons x _ ih =>
    intro m2 h
    cases h with
    | cons r t =>
      obtain ⟨m1, h1, h2⟩ := ih t
      exact ⟨_ :: m1, h1.cons _, .cons r h2⟩
  | swap x y l =>
    intro m2 h
    cases h with
    | cons r t =>
      cases t with
      | cons r' t' => exact ⟨_ :: _ :: _, .swap .., .cons r' (.cons r t')⟩
  | trans _ _ ih1 ih2 =>
    intro m3 h
    obtain ⟨m2, h1, h2⟩ := ih2 h
    obtain ⟨m1, h3, h4⟩ := ih1 h2
    exact ⟨m1, h3.trans h1, h4⟩
theorem paired_zip {kz : List Int} : ∀ {xs : List V} {vs : List Value}, Vals xs vs → Paired (fun (p : Int × V) (q : Int × Value) => p.1 = q.1 ∧ RelV p.2 q.2) (kz.zip xs) (kz.zip vs) := by
  induction kz with
  | nil => intro xs vs _; exact .nil
  | cons k r ih =>
    intro xs vs h
    cases h with
    | nil => exact .nil
    | cons a t => exact .cons ⟨rfl, a⟩ (ih t)
theorem paired_fst : ∀ {ps : List (Int × V)} {qs : List (Int × Value)}, Paired (fun (p : Int × V) (q : Int × Value) => p.1 = q.1 ∧ RelV p.2 q.2) ps qs → ps.map (·.1) = qs.map (·.1)
  | _, _, .nil => rfl
  | _, _, .cons r t => by rw [List.map_cons, List.map_cons, r.1, paired_fst t]
theorem paired_snd : ∀ {ps : List (Int × V)} {qs : List (Int × Value)}, Paired (fun (p : Int × V) (q : Int × Value) => p.1 = q.1 ∧ RelV p.2 q.2) ps qs → Vals (ps.map (·.2)) (qs.map (·.2))
  | _, _, .nil => .nil
  | _, _, .cons r t => .cons r.2 (paired_snd t)
def ByKey (ks : List Int) (xs ys : List V) : Prop := ∃ ps : List (Int × V), ps.Perm (ks.zip xs) ∧ ys = ps.map (·.2) ∧ (ps.map (·.1)).Pairwise (· ≤ ·)
theorem ByKey.of {kz : List Int} {xs : List V} {vs out : List Value} (h : SkOut kz vs out) (r : Vals xs vs) : ∃ ys, ByKey kz xs ys ∧ Vals ys out := by
  obtain ⟨qs, hp, ho, hs⟩ := h
  obtain ⟨ps, h1, h2⟩ := perm_back hp (paired_zip (kz := kz) r)
  refine ⟨ps.map (·.2), ⟨ps, h1, rfl, ?_⟩, ?_⟩
  · rw [paired_fst h2, List.pairwise_map]
    exact hs.imp fun {a b} q => by simpa using q
  · rw [ho]
    exact paired_snd h2
theorem sk_args (a : Value) (f : Addr) : argsOk "sorted" ⟨[a], [("key", .ref f)]⟩ := ksk_s1 a (.ref f)
def tSortK (K : PySem.W.Frag) (P : Addr) (qual : Str) (i : Nat) (te tb : TE) : TE := fun σ H Q => te σ H fun x H1 => ∃ (a : Addr) (xs : List V) (ks : List Int), x = .ref a ∧ SqL K H1 a xs ∧ xs.length < 64 ∧ ks.length = xs.length ∧ TabOk H1 P qual ∧
  ∀ H2, TabOk H2 P qual → ButT P H1 H2 → (∀ (j : Nat) (v : V) (k : Int), xs[j]? = some v → ks[j]? = some k → tb (σ.set i (some v)) H2 fun r H3 => r = .int k ∧ H3 = H2) ∧
    ∀ (p : Addr) (ys : List V), H2 p = none → ByKey ks xs ys → ys.length = xs.length → Q (.ref p) (upd H2 p (.lst ys))
section
variable {X : Cx}
theorem SqL.butT {K : PySem.W.Frag} {P a : Addr} {H H' : Hp} {ps : Array Value} {xs : List V} (h : SqL K H a xs) (b : ButT P H H') (hP : H P = some (.tbl ps)) : SqL K H' a xs := by
  rcases h with h | h
  · left
    rcases h with h | ⟨o, h⟩
    · exact .inl (b _ _ h fun z => by rw [z, hP] at h; cases h)
    · exact .inr ⟨o, b _ _ h fun z => by rw [z, hP] at h; cases h⟩
  · exact .inr h
theorem pe_sortK {e body : Expr} {te tb : TE} {x qual : Str} {i : Nat} {c P : Addr} {params : Arguments} {scope : Scope} {lpos kpos p pos : Pos} (B : BmOk X.mg X.base) (hcode : X.env.code = .ref c) (C : PySem.W.CodeHd X.base c P) (hc : X.calm = true) (hN : X.N.Nodup)
    (hr : Room 3 X.A) (hg : Gl X "sorted") (hm : X.mg "sorted" = none) (ok : LamOk X.N X.env.scope scope x i) (he : PE X e te) (hq : X.env.qual ++ "<lambda>" = qual) (hdef : defaultsOf params X.env = ([], []))
    (hbind : ∀ (cl : List (Str × Addr)) (pm cd ctv u : Value), bindArgs (PySem.W.kla_fn "<lambda>" qual params body scope cl pm cd ctv) ⟨[u], []⟩ = pure [(x, u)])
    (hb : ∀ (s : Shared) (H : Hp) (L f : Addr) (cd : Value) (cl : List (Str × Addr)), PE (X.lam X.A.in1.in1 s H (PySem.W.envX qual scope L f cd cl)) body tb)
    (hs : starEach [e] X.env = [(false, eval e X.env)] := by rfl) :
    PE X (.Call (.Name "sorted" p) [e] [⟨some "key", .Lambda params body scope lpos, kpos⟩] pos) (tSortK X.K P qual i te tb) := by
  intro pins s σ H Q I h
  refine wpAny_Call_Name_kw (ld_blt I hg hm (show bootBuiltins "sorted" = some (.builtin "sorted") by decide +kernel) ?_)
  have pa : PA X [e] (tCons te tNil) := pa_cons he pa_nil (by rw [hs]; rfl)
  have h' : tCons te tNil σ H (fun vs H1 => match vs with
    | [x] => ∃ (a : Addr) (xs : List V) (ks : List Int), x = .ref a ∧ SqL X.K H1 a xs ∧ xs.length < 64 ∧ ks.length = xs.length ∧ TabOk H1 P qual ∧
        ∀ H2, TabOk H2 P qual → ButT P H1 H2 → (∀ (j : Nat) (v : V) (k : Int), xs[j]? = some v → ks[j]? = some k → tb (σ.set i (some v)) H2 fun r H3 => r = .int k ∧ H3 = H2) ∧
          ∀ (p : Addr) (ys : List V), H2 p = none → ByKey ks xs ys → ys.length = xs.length → Q (.ref p) (upd H2 p (.lst ys))
    | _ => False) := h
  refine callWith_kw (thn (pa pos pins s σ H _ I h') fun us s1 ⟨vs, H1, I1, r1, q1⟩ => ?_) (by rw [hs]; rfl) (by rw [hs]; rfl) rfl rfl
  cases r1 with
  | nil => exact False.elim q1
  | cons ra rr =>
    cases rr with
    | cons _ _ => exact False.elim q1
    | nil =>
      obtain ⟨a, xs, ks, rfl, hS, h64, hkl, T1, q⟩ := q1
      cases ra
      refine kws_cons (lam_make (x := x) (i := i) (c := c) (P := P) (qual := qual) I1 B hcode C T1 ok hq hdef fun f c' pm ctv H2 s2 T2 B2 I2 hc' => kws_nil ?_)
      show wpAny _ _ (call (.builtin "sorted") [.ref a] [("key", .ref f)]) _ _ s2
      obtain ⟨qk, qr⟩ := q H2 T2 B2
      obtain ⟨ts, eP, _⟩ := id T1
      have hS2 := hS.butT B2 eP
      obtain ⟨its, rv, hl, hz⟩ := I2.list hS2
      have hlen := rv.length
      refine call_function_entry_kw kind_sorted plain_sorted entry_sorted (sk_args _ f) ?_
      unfold Builtin.«sorted»
      refine wpAny_bind (m := checkCount "sorted" 1 1 _) (wpAny_pure ?_)
      refine wpAny_bind (collect_list hl.isList ?_ (by rw [sizeLine_eq]; omega))
      refine wpAny_bind (wpAny_newList ?_ (by rw [sizeLine_eq]; omega))
      have hsz : ((s2.heap.push (seqObj "list" #[] 0)).update s2.heap.objs.size (Obj.mapSeq (· ++ its.toArray))).objs.size = s2.heap.objs.size + 1 := by rw [Heap.size_update, size_push']
      have hoL : (((s2.heap.push (seqObj "list" #[] 0)).update s2.heap.objs.size (Obj.mapSeq (· ++ its.toArray))).push (seqObj "list" its.toArray 0)).get? (s2.heap.objs.size + 1) = some (seqObj "list" its.toArray 0) := by
        rw [← hsz]
        exact Heap.get?_push_size _ rfl
      have keep : ∀ b o, s2.heap.get? b = some o → (((s2.heap.push (seqObj "list" #[] 0)).update s2.heap.objs.size (Obj.mapSeq (· ++ its.toArray))).push (seqObj "list" its.toArray 0)).get? b = some o := fun b o q => by
        have hlt : b < s2.heap.objs.size := Heap.lt_size q
        rw [Heap.get?_push_ne _ _ _ (by rw [hsz]; exact Nat.ne_of_lt (Nat.lt_succ_of_lt hlt)), Heap.get?_update_ne _ _ _ _ (Nat.ne_of_lt hlt), Heap.get?_push_ne _ _ _ (Nat.ne_of_lt hlt)]
        exact q
      show wpAny _ _ _ _ _ { s2 with heap := ((s2.heap.push (seqObj "list" #[] 0)).update s2.heap.objs.size (Obj.mapSeq (· ++ its.toArray))).push (seqObj "list" its.toArray 0) }
      rw [hsz]
      generalize hD : s2.heap.objs.size + 1 = D at hoL
      have hDle : s2.heap.objs.size ≤ D := by omega
      have fD : FpOk X (pins ++ [(f, PySem.W.kla_obj "<lambda>" qual params body scope (cloFrom X.env.cells scope.names []) pm c' ctv)]) H2 D := I2.fpOk hDle (I2.hok.fresh hDle)
      have I3 : Inv X (pins ++ [(f, PySem.W.kla_obj "<lambda>" qual params body scope (cloFrom X.env.cells scope.names []) pm c' ctv)]) σ H2 { s2 with heap := ((s2.heap.push (seqObj "list" #[] 0)).update s2.heap.objs.size (Obj.mapSeq (· ++ its.toArray))).push (seqObj "list" its.toArray 0) } := I2.kept (t' := s2.toks) keep
      generalize ((s2.heap.push (seqObj "list" #[] 0)).update s2.heap.objs.size (Obj.mapSeq (· ++ its.toArray))).push (seqObj "list" its.toArray 0) = h3 at hoL I3
      generalize hpins : pins ++ [(f, PySem.W.kla_obj "<lambda>" qual params body scope (cloFrom X.env.cells scope.names []) pm c' ctv)] = pins2 at fD I3
      refine wpAny_bind (wpAny_holding (wpAny_call_entry_kw slot_list_sort ⟨_, hoL, rfl⟩ entry_list_sort ?_ (ksk_l1 _ _)))
      rw [ksk_t1]
      have ha : D < h3.objs.size := Heap.lt_size hoL
      unfold ksk_tree
      have hoL' : ({ s2 with heap := h3 } : Shared).heap.get? D = some (seqObj "list" its.toArray 0) := hoL
      refine wpAny_bind (listItems_at hoL' rfl ?_)
      refine wpAny_bind (listUpdate_at hoL' rfl ?_ (by rw [List.size_toArray, sizeLine_eq]; omega) (Nat.zero_le _))
      have u1 := Heap.SameBut.update h3 D (Obj.mapSeq fun _ => (#[] : Array Value))
      obtain ⟨e1, ho1⟩ : ∃ e1, (h3.update D (Obj.mapSeq fun _ => (#[] : Array Value))).get? D = some (seqObj "list" #[] e1) := ⟨_, get?_update_seq hoL fun _ => #[]⟩
      have hpD : ∀ p ∈ pins2, p.1 ≠ D := fun p hp => fD.2.2.2.2.2 p (List.mem_append_right _ hp)
      have fD0 : FpOk X [] H2 D := fD.repin fun p hp => absurd hp (by simp)
      have I4 : Inv X (pins2 ++ [(D, seqObj "list" #[] e1)]) σ H2 { s2 with heap := h3.update D (Obj.mapSeq fun _ => (#[] : Array Value)) } := I3.chpin (t' := s2.toks) fD0 u1 fun p hp => by
        rcases List.mem_append.mp hp with hp | hp
        · exact .inl ⟨hp, hpD p hp⟩
        · obtain rfl := List.mem_singleton.mp hp
          exact .inr ⟨rfl, ho1, fun v z => nomatch z⟩
      generalize hh4 : h3.update D (Obj.mapSeq fun _ => (#[] : Array Value)) = h4 at ho1 I4
      have hz4 : h4.objs.size = h3.objs.size := by rw [← hh4, Heap.size_update]
      refine wpAny_bind (seqEpoch_at (s := { s2 with heap := h4 }) ho1 rfl ?_)
      refine wpAny_bind (wpAny_newTuple ?_ (by rw [sizeLine_eq]; simpa using (by omega : its.length ≤ _)))
      refine wpAny_bind (wpAny_newList ?_ (Nat.zero_le _))
      refine wpAny_holding ?_
      have hkS : (h4.push (seqObj "tuple" its.toArray 0)).objs.size = h4.objs.size + 1 := size_push' ..
      have fk : FpOk X (pins2 ++ [(D, seqObj "list" #[] e1)]) H2 (h4.objs.size + 1) := I4.fpOk (Nat.le_succ _) (I4.hok.fresh (Nat.le_succ _))
      have hDk : h4.objs.size + 1 ≠ D := by omega
      have I5 : Inv X (pins2 ++ [(h4.objs.size + 1, seqObj "list" #[] 0), (D, seqObj "list" #[] e1)]) σ H2 { s2 with heap := (h4.push (seqObj "tuple" its.toArray 0)).push (seqObj "list" #[] 0) } := I4.newpin (s := { s2 with heap := h4 }) (t' := s2.toks) (fun b o e => Heap.get?_push_of_some _ (Heap.get?_push_of_some _ e)) fun p hp => by
        rcases List.mem_append.mp hp with hp | hp
        · exact .inl (List.mem_append_left _ hp)
        · rcases List.mem_cons.mp hp with rfl | hp
          · exact .inr ⟨Nat.le_succ _, by rw [← hkS]; exact Heap.get?_push_size _ rfl, fun v z => nomatch z⟩
          · exact .inl (List.mem_append_right _ hp)
      show wpAny _ _ (ksk_rest D (.ref f) false its.toArray e1 (.ref (h4.push (seqObj "tuple" its.toArray 0)).objs.size)) _ _ { s2 with heap := (h4.push (seqObj "tuple" its.toArray 0)).push (seqObj "list" #[] 0) }
      rw [hkS]
      have hpk : ∀ p ∈ pins2, p.1 ≠ h4.objs.size + 1 := fun p hp => fk.2.2.2.2.2 p (List.mem_append_right _ (List.mem_append_left _ hp))
      have fk0 : FpOk X [] H2 (h4.objs.size + 1) := fk.repin fun p hp => absurd hp (by simp)
      refine sk_rest (kz := ks) (vs := its) I5 fk0 fD0 hDk hpk hpD (by omega) (by omega) (fun j v k hv hk s6 own I6 => ?_) fun s7 out c7 I7 ho7 => ?_
      · obtain ⟨y, hy, ry⟩ : ∃ y, xs[j]? = some y ∧ RelV y v := by
          have hj : j < xs.length := by
            have := (List.getElem?_eq_some_iff.mp hv).1
            omega
          obtain ⟨u, hu, ru⟩ := rv.get (x := xs[j]) (i := j) (by simp [hj])
          rw [hv] at hu
          cases hu
          exact ⟨xs[j], by simp [hj], ru⟩
        have hf6 := (I6.pin (f, PySem.W.kla_obj "<lambda>" qual params body scope (cloFrom X.env.cells scope.names []) pm c' ctv) (by rw [← hpins]; simp)).1
        have hc6 : s6.heap.CodeRec (.ref c') qual := (I6.hok c' _ hc').1
        refine wpAny_mono (lam_call (E := fun _ _ => False) I6 hN ok I.ok.frames (I.ok.hd hc) (by have := hr.dp; show X.A.depth < _; omega) hf6 hc6 (hbind _ _ _ _ _) ry hb (qk j y k hy hk)) (fun r s8 hq => ?_) fun _ _ z => z
        obtain ⟨w, H8, I8, rw8, rfl, rfl⟩ := hq
        exact ⟨I8, rw8⟩
      · refine ⟨_, rfl, ?_⟩
        obtain ⟨ys, hby, ry⟩ := ByKey.of ho7 rv
        have hly : ys.length = xs.length := by
          obtain ⟨ps, h1, h2, _⟩ := hby
          rw [h2, List.length_map, h1.length_eq, List.length_zip, hkl, Nat.min_self]
        have g7 := (I7.pin (D, seqObj "list" out c7) (by simp)).1
        have I8 : Inv X pins2 σ H2 s7 := I7.unpinned
        have I9 : Inv X pins2 σ (upd H2 D (.lst ys)) s7 := I8.adopt fD ⟨by rw [hly, sizeLine_eq]; omega, out.toList, c7, ry, by simpa using g7⟩
        have I10 : Inv X pins σ (upd H2 D (.lst ys)) s7 := by
          rw [← hpins] at I9
          exact I9.unpinned
        exact wpAny_pure ⟨_, rfl, ⟨.ref D, _, I10, rfl, qr D ys (fD.1) hby hly⟩⟩
end
end L2

set_option Elab.async false
set_option linter.all false
set_option maxRecDepth 100000
set_option maxHeartbeats 4000000
namespace L2
open PySem PySem.Spec PyProof.Rows
theorem wpAny_alive {M : Model} {A : Around} {E : Value → Shared → Prop} {s : Shared} {a : Addr} {o : Obj} {Q : Option Obj → Shared → Prop} (ho : s.heap.get? a = some o) (h : Q (some o) s) : wpAny M A (loadIfAlive a) Q E s := fun Γ p hΓ => by
  unfold loadIfAlive
  rw [Sem.wp_loadIfAlive, ho]
  exact (wpAny_pure (M := M) (A := A) (E := E) (Q := Q) (a := some o) (s := s) h) Γ p hΓ
def EnSt (h : Heap) (e it : Addr) (k : Int) : Prop := ∃ f0 f1 old, h.get? e = some { cls := .type "enumerate", dict := none, data := .fields #[f0, f1, .ref it, rawInt k, .none, old], slots := #[] } ∧ (f0 = .none ∨ ∃ (T : Addr) (o : Obj), f0 = rawInt (T : Int) ∧ h.get? T = some o ∧ T ≠ e ∧ T ≠ it)
theorem EnSt.at {h h' : Heap} {e it : Addr} {k : Int} (x : EnSt h e it k) (k1 : ∀ o, h.get? e = some o → h'.get? e = some o) (k2 : ∀ b o, b ≠ e → b ≠ it → h.get? b = some o → ∃ o', h'.get? b = some o') : EnSt h' e it k := by
  obtain ⟨f0, f1, old, e1, e2⟩ := x
  refine ⟨f0, f1, old, k1 _ e1, ?_⟩
  rcases e2 with e2 | ⟨T, o, a, b, c, d⟩
  · exact .inl e2
  · obtain ⟨o', q⟩ := k2 T o c d b
    exact .inr ⟨T, o', a, q, c, d⟩
section
variable {prog : Program} {w : World} {A : Around} {E : Value → Shared → Prop} {s : Shared}
theorem enst_next {e it l : Addr} {i : Nat} {k : Int} {items : Array Value} {x : Value} {Q : Value → Shared → Prop} (he : EnSt s.heap e it k) (hit : s.heap.IsListIter it l i) (hl : s.heap.IsList l items) (hx : items[i]? = some x) (hne : e ≠ it)
    (hQ : ∀ h' tk, EnSt h' e it (k + 1) → h'.IsListIter it l (i + 1) → h'.get? s.heap.objs.size = some { cls := .type "tuple", data := .seq #[.int k tk, x] } → h'.objs.size = s.heap.objs.size + 1 →
      (∀ b o, b ≠ e → b ≠ it → s.heap.get? b = some o → h'.get? b = some o) → Q (.ref s.heap.objs.size) { s with heap := h', toks := tk + 1 }) :
    wpAny (model prog w) A (Builtin.«enumerate.__next__» ⟨[.ref e], []⟩) (fun fin s' => ∃ v, fin = .done (.ret v) ∧ Q v s') E s := by
  obtain ⟨hp, g, d, tk, os⟩ := s
  obtain ⟨f0, f1, old, he, hf⟩ := he
  have hel : e < hp.objs.size := Heap.lt_size he
  have hil : it < hp.objs.size := by obtain ⟨_, q, _⟩ := hit; exact Heap.lt_size q
  show wpAny _ _ (field (.ref e) 2 >>= _) _ _ _
  refine wpAny_bind (wpAny_field he rfl (x := .ref it) rfl ?_)
  refine wpAny_bind (wpAny_nextOf_list_item hit hl hx fun h₁ hit₁ hs₁ => ?_)
  replace hs₁ : Heap.SameBut it hp h₁ := hs₁
  have he₁ := (hs₁.2 e hne).trans he
  show wpAny _ _ (field (.ref e) 3 >>= _) _ _ ⟨h₁, g, d, tk, os⟩
  refine wpAny_bind (wpAny_field he₁ rfl (x := rawInt k) rfl ?_)
  show wpAny _ _ (field (.ref e) 4 >>= _) _ _ ⟨h₁, g, d, tk, os⟩
  refine wpAny_bind (wpAny_field he₁ rfl (x := .none) rfl ?_)
  show wpAny _ _ (mkInt k >>= _) _ _ ⟨h₁, g, d, tk, os⟩
  refine wpAny_bind (wpAny_mkInt ?_)
  show wpAny _ _ (setField (.ref e) 3 (rawInt (k + 1)) >>= _) _ _ ⟨h₁, g, d, tk + 1, os⟩
  refine wpAny_bind (wpAny_setField_rec he₁ (by simp) fun h₂ he₂ hs₂ => ?_)
  replace hs₂ : Heap.SameBut e h₁ h₂ := hs₂
  replace he₂ : h₂.get? e = some { cls := .type "enumerate", dict := none, data := .fields #[f0, f1, .ref it, rawInt (k + 1), .none, old], slots := #[] } := he₂
  show wpAny _ _ (setField (.ref e) 4 .none >>= _) _ _ ⟨h₂, g, d, tk + 1, os⟩
  refine wpAny_bind (wpAny_setField_rec he₂ (by simp) fun h₃ he₃ hs₃ => ?_)
  replace hs₃ : Heap.SameBut e h₂ h₃ := hs₃
  replace he₃ : h₃.get? e = some { cls := .type "enumerate", dict := none, data := .fields #[f0, f1, .ref it, rawInt (k + 1), .none, old], slots := #[] } := he₃
  show wpAny _ _ (newTuple [.int k tk, x] >>= _) _ _ ⟨h₃, g, d, tk + 1, os⟩
  refine wpAny_bind (wpAny_newTuple ?_)
  have he₄ := Heap.get?_push_of_some { cls := .type "tuple", data := .seq #[.int k tk, x] } he₃
  have hsz : h₃.objs.size = hp.objs.size := by rw [hs₃.1, hs₂.1, hs₁.1]
  have hk₃ : ∀ b o, b ≠ e → b ≠ it → hp.get? b = some o → h₃.get? b = some o := fun b o hbe hbi hb => hs₃.extBut b o hbe (hs₂.extBut b o hbe (hs₁.extBut b o hbi hb))
  have hit₃ : h₃.IsListIter it l (i + 1) := (hit₁.extBut hs₂.extBut (Ne.symm hne)).extBut hs₃.extBut (Ne.symm hne)
  have hit₄ : (h₃.push { cls := .type "tuple", data := .seq #[.int k tk, x] }).IsListIter it l (i + 1) := by
    obtain ⟨o, ho, r⟩ := hit₃
    exact ⟨o, Heap.get?_push_of_some _ ho, r⟩
  have hk₄ : ∀ b o, b ≠ e → b ≠ it → hp.get? b = some o → (h₃.push { cls := .type "tuple", data := .seq #[.int k tk, x] }).get? b = some o := fun b o hbe hbi hb => Heap.get?_push_of_some _ (hk₃ b o hbe hbi hb)
  have ht₄ : (h₃.push { cls := .type "tuple", data := .seq #[.int k tk, x] }).get? hp.objs.size = some { cls := .type "tuple", data := .seq #[.int k tk, x] } := by
    rw [← hsz]
    exact Heap.get?_push_size _ rfl
  have hz₄ : (h₃.push { cls := .type "tuple", data := .seq #[.int k tk, x] }).objs.size = hp.objs.size + 1 := by rw [Heap.size_push, hsz]
  show wpAny _ _ (Builtin.SmallTypes.ownedTupleIsFree (.ref e) >>= _) _ _ ⟨h₃.push { cls := .type "tuple", data := .seq #[.int k tk, x] }, g, d, tk + 1, os⟩
  rw [hsz]
  generalize h₃.push { cls := .type "tuple", data := .seq #[.int k tk, x] } = h₄ at he₄ hit₄ hk₄ ht₄ hz₄
  refine wpAny_bind ?_
  unfold Builtin.SmallTypes.ownedTupleIsFree
  refine wpAny_bind (wpAny_field he₄ rfl (x := f0) rfl ?_)
  rcases hf with rfl | ⟨T, oT, rfl, hT, hTe, hTi⟩
  · refine wpAny_pure ?_
    simp only [if_true]
    refine wpAny_bind (wpAny_rule ?_)
    refine wpAny_bind (wpAny_field he₄ rfl (x := old) rfl ?_)
    refine wpAny_bind (wpAny_setField_rec he₄ (by simp) fun h₅ he₅ hs₅ => ?_)
    replace hs₅ : Heap.SameBut e h₄ h₅ := hs₅
    refine wpAny_bind ?_
    unfold Builtin.SmallTypes.ownedTupleHandOut
    refine wpAny_bind (wpAny_setField_rec he₅ (by simp) fun h₆ he₆ hs₆ => ?_)
    replace hs₆ : Heap.SameBut e h₅ h₆ := hs₆
    refine wpAny_setField_rec he₆ (by simp) fun h₇ he₇ hs₇ => ?_
    replace hs₇ : Heap.SameBut e h₆ h₇ := hs₇
    have ht₇ := hs₇.extBut _ _ (Nat.ne_of_gt hel) (hs₆.extBut _ _ (Nat.ne_of_gt hel) (hs₅.extBut _ _ (Nat.ne_of_gt hel) ht₄))
    refine wpAny_bind (wpAny_letGo (wpAny_pure ⟨_, rfl, hQ h₇ tk ⟨rawInt (hp.objs.size : Int), .bool false, x, he₇, .inr ⟨hp.objs.size, _, rfl, ht₇, Nat.ne_of_gt hel, Nat.ne_of_gt hil⟩⟩ ?_ ht₇ ?_ ?_⟩))
    · exact ((hit₄.extBut hs₅.extBut (Ne.symm hne)).extBut hs₆.extBut (Ne.symm hne)).extBut hs₇.extBut (Ne.symm hne)
    · rw [hs₇.1, hs₆.1, hs₅.1, hz₄]
    · exact fun b o hbe hbi hb => hs₇.extBut b o hbe (hs₆.extBut b o hbe (hs₅.extBut b o hbe (hk₄ b o hbe hbi hb)))
  · have hT₄ := hk₄ T oT hTe hTi hT
    show wpAny _ _ (loadIfAlive ((T : Int).toNat) >>= _) _ _ _
    rw [Int.toNat_natCast]
    refine wpAny_bind (wpAny_alive hT₄ ?_)
    simp only [Option.isNone_some, Bool.false_eq_true, if_false]
    refine wpAny_bind (wpAny_field he₄ rfl (x := f1) rfl ?_)
    by_cases hf1 : (f1 != .bool true) = true
    · rw [if_pos hf1]
      refine wpAny_bind (wpAny_setField_rec he₄ (by simp) fun h₅ he₅ hs₅ => ?_)
      replace hs₅ : Heap.SameBut e h₄ h₅ := hs₅
      refine wpAny_pure ?_
      simp only [Bool.false_eq_true, if_false]
      refine wpAny_pure ⟨_, rfl, hQ h₅ tk ⟨rawInt (T : Int), .bool true, old, he₅, .inr ⟨T, oT, rfl, hs₅.extBut _ _ hTe hT₄, hTe, hTi⟩⟩ (hit₄.extBut hs₅.extBut (Ne.symm hne)) (hs₅.extBut _ _ (Nat.ne_of_gt hel) ht₄) (by rw [hs₅.1, hz₄]) fun b o hbe hbi hb => hs₅.extBut b o hbe (hk₄ b o hbe hbi hb)⟩
    · rw [if_neg hf1]
      refine wpAny_pure ?_
      simp only [Bool.false_eq_true, if_false]
      exact wpAny_pure ⟨_, rfl, hQ h₄ tk ⟨rawInt (T : Int), f1, old, he₄, .inr ⟨T, oT, rfl, hT₄, hTe, hTi⟩⟩ hit₄ ht₄ hz₄ hk₄⟩
theorem enst_pyNext {e it l : Addr} {i : Nat} {k : Int} {items : Array Value} {x : Value} {Q : Option Value → Shared → Prop} (he : EnSt s.heap e it k) (hit : s.heap.IsListIter it l i) (hl : s.heap.IsList l items) (hx : items[i]? = some x) (hne : e ≠ it)
    (hQ : ∀ h' tk, EnSt h' e it (k + 1) → h'.IsListIter it l (i + 1) → h'.get? s.heap.objs.size = some { cls := .type "tuple", data := .seq #[.int k tk, x] } → h'.objs.size = s.heap.objs.size + 1 →
      (∀ b o, b ≠ e → b ≠ it → s.heap.get? b = some o → h'.get? b = some o) → Q (some (.ref s.heap.objs.size)) { s with heap := h', toks := tk + 1 }) :
    wpAny (model prog w) A (pyNext (.ref e)) Q E s := by
  obtain ⟨f0, f1, old, he', hf⟩ := id he
  have hT : s.TypeIs (.ref e) "enumerate" := ⟨_, he', rfl⟩
  unfold pyNext
  refine wpAny_bind (wpAny_attempt (wpAny_callSpecial?_slot (name := Str.ofString "__next__") hT F.slot_enumerate_next ?_))
  exact wpAny_call_entry F.slot_enumerate_next hT F.entry_enumerate_next (enst_next he hit hl hx hne fun h' tk a b c d q => wpAny_pure (hQ h' tk a b c d q)) (F.args_enumerate_next_1 _)
theorem enst_end {e it l : Addr} {i : Nat} {k : Int} {items : Array Value} {Q : Option Value → Shared → Prop} (hh : A.handled = none) (he : EnSt s.heap e it k) (hit : s.heap.IsListIter it l i) (hl : s.heap.IsList l items) (hx : items[i]? = none)
    (hQ : ∀ h', Heap.ExtBut it s.heap h' → Q none { s with heap := h' }) : wpAny (model prog w) A (pyNext (.ref e)) Q E s := by
  obtain ⟨f0, f1, old, he', hf⟩ := id he
  have hT : s.TypeIs (.ref e) "enumerate" := ⟨_, he', rfl⟩
  unfold pyNext
  refine wpAny_bind (wpAny_attempt (wpAny_callSpecial?_slot (name := Str.ofString "__next__") hT F.slot_enumerate_next ?_))
  refine wpAny_call_entry F.slot_enumerate_next hT F.entry_enumerate_next ?_ (F.args_enumerate_next_1 _)
  show wpAny _ _ (field (.ref e) 2 >>= _) _ _ _
  refine wpAny_bind (wpAny_field he' rfl (x := .ref it) rfl ?_)
  refine wpAny_bind (wpAny_nextOf_list_end hh hit hl hx fun h' x e1 hx' => ?_)
  obtain ⟨o, ho, hc⟩ := hx'
  refine wpAny_bind (wpAny_isInstance (T := "StopIteration") (b := true) ⟨o, ho, hc⟩ isSubtype_stop ?_)
  exact wpAny_pure (hQ _ e1)
end
end L2

set_option Elab.async false
set_option linter.all false
set_option maxRecDepth 100000
set_option maxHeartbeats 4000000
namespace L2
open PySem PySem.Spec PyProof.Rows PySem.W
theorem enum_nolen : typeLookup (.type "enumerate") "__len__" = pure none := by kernel_rfl
theorem enum_nohint : typeLookup (.type "enumerate") "__length_hint__" = pure none := by kernel_rfl
section
variable {prog : Program} {w : World} {A : Around} {E : Value → Shared → Prop} {s : Shared}
theorem hint_enum {e : Addr} {Q : Bool → Shared → Prop} (hT : s.TypeIs (.ref e) "enumerate") (h : Q true s) : wpAny (model prog w) A (Builtin.List.listLengthHint (.ref e)) Q E s := by
  unfold Builtin.List.listLengthHint
  have h1 := enum_nolen
  have h2 := enum_nohint
  wp_walk using wpAny_typeOf hT
  exact h
end
end L2

set_option Elab.async false
set_option linter.all false
set_option maxRecDepth 100000
set_option maxHeartbeats 4000000
namespace L2
open PySem PySem.Spec PyProof.Rows PySem.W
def TupsAt (H1 H2 : Hp) (k : Int) (xs : List V) (Ts : List Addr) : Prop := ∀ (j : Nat) (T : Addr), Ts[j]? = some T → H1 T = none ∧ ∃ x, xs[j]? = some x ∧ H2 T = some (.tup [.int (k + j), x])
section
variable {X : Cx} {pins : List (Addr × Obj)} {σ : St} {H : Hp} {A : Around} {R : Result → Shared → Prop} {S e it a : Addr} {k : Int} {xs : List V} {res : Value}
theorem le_loop (hh : A.handled = none) (hne : e ≠ it) (hSe : S ≠ e) (hSi : S ≠ it) (hS0 : SqL X.K H a xs) (hpe : ∀ p ∈ pins, p.1 ≠ e) (hpi : ∀ p ∈ pins, p.1 ≠ it) (hpS : ∀ p ∈ pins, p.1 ≠ S)
    (hR : ∀ s' H' Ts acc c, Inv X (pins ++ [(S, seqObj "list" acc c)]) σ H' s' → Same H H' → Ts.length = xs.length → TupsAt H H' k xs Ts → Vals (Ts.map V.ref) acc.toList → FpOk X pins H' S → R (.ok (.ret res)) s') :
    ∀ (m i : Nat) (s : Shared) (H' : Hp) (Ts : List Addr) (acc : Array Value) (c : Nat), i + m = xs.length → Inv X (pins ++ [(S, seqObj "list" acc c)]) σ H' s → EnSt s.heap e it (k + i) → s.heap.IsListIter it a i → Same H H' → Ts.length = i → TupsAt H H' k xs Ts → Vals (Ts.map V.ref) acc.toList →
      FpOk X [] H' e → FpOk X [] H' it → FpOk X [] H' S → codeAny (model X.prog X.w) A (.builtin "list.extend.loop" ⟨[.ref S, .ref e, res], []⟩) R s := by
  intro m
  induction m with
  | zero =>
    intro i s H' Ts acc c him I en hit sm hl ht hv fe fi fS
    have hi : i = xs.length := by omega
    have hq : SqL X.K H' a xs := sm.seq hS0
    obtain ⟨its, rv, p, hz⟩ := I.list hq
    have hlen := rv.length
    refine codeAny_builtin F.entry_extend_loop ?_
    rw [Around.under_plainId F.plain_extend_loop _]
    show wpAny _ A.in1 (pyNext (.ref e) >>= _) _ _ s
    refine wpAny_bind (enst_end hh en hit p.isList (by simp; omega) fun h' eb => ?_)
    have fi' : FpOk X (pins ++ [(S, seqObj "list" acc c)]) H' it := fi.repin fun p hp => by
      rcases List.mem_append.mp hp with hp | hp
      · exact hpi p hp
      · obtain rfl := List.mem_singleton.mp hp
        exact hSi
    obtain ⟨f0, f1, f2, f3, f4, f5⟩ := fi'
    have I2 : Inv X (pins ++ [(S, seqObj "list" acc c)]) σ H' { s with heap := h' } := I.turned (t' := s.toks) (fun b o hb q => eb b o hb q) f0 f1 f3 f4 f5
    exact wpAny_pure (hR _ H' Ts acc c I2 sm (by omega) ht hv (fS.repin hpS))
  | succ m ih =>
    intro i s H' Ts acc c him I en hit sm hl ht hv fe fi fS
    have hi : i < xs.length := by omega
    have hq : SqL X.K H' a xs := sm.seq hS0
    obtain ⟨its, rv, p, hz⟩ := I.list hq
    have hlen := rv.length
    obtain ⟨u, hu, ru⟩ := rv.get (x := xs[i]) (i := i) (by simp [hi])
    refine codeAny_builtin F.entry_extend_loop ?_
    rw [Around.under_plainId F.plain_extend_loop _]
    show wpAny _ A.in1 (pyNext (.ref e) >>= _) _ _ s
    have fe' : FpOk X (pins ++ [(S, seqObj "list" acc c)]) H' e := fe.repin fun p hp => by
      rcases List.mem_append.mp hp with hp | hp
      · exact hpe p hp
      · obtain rfl := List.mem_singleton.mp hp
        exact hSe
    have fi' : FpOk X (pins ++ [(S, seqObj "list" acc c)]) H' it := fi.repin fun p hp => by
      rcases List.mem_append.mp hp with hp | hp
      · exact hpi p hp
      · obtain rfl := List.mem_singleton.mp hp
        exact hSi
    refine wpAny_bind (enst_pyNext en hit p.isList (x := u) (by simpa using hu) hne fun h' tk en' hit' hT hsz hk => ?_)
    have hTn : H' s.heap.objs.size = none := I.hok.fresh (Nat.le_refl _)
    have new : ObjOk X.prog X.w (upd H' s.heap.objs.size (.tup [.int (k + i), xs[i]])) h' s.heap.objs.size (.tup [.int (k + i), xs[i]]) :=
      ⟨by show 2 ≤ sizeLine; decide, [.int (k + i) tk, u], .cons ⟨_, rfl⟩ (.cons ru .nil), ⟨_, hT, rfl, _, rfl⟩⟩
    have I1 : Inv X (pins ++ [(S, seqObj "list" acc c)]) σ (upd H' s.heap.objs.size (.tup [.int (k + i), xs[i]])) { s with heap := h', toks := tk + 1 } :=
      I.turnedNew (ch := [e, it]) (fun b ob hb q => hk b ob (fun z => hb (by simp [z])) (fun z => hb (by simp [z])) q) (fun b hb => by
        rcases List.mem_cons.mp hb with rfl | hb
        · exact fe'
        · obtain rfl := List.mem_singleton.mp hb
          exact fi') (Nat.le_refl _) new
    have gS := (I1.pin (S, seqObj "list" acc c) (by simp)).1
    have hacc : acc.size = i := by
      have e9 : (Ts.map V.ref).length = acc.toList.length := hv.length
      simp only [List.length_map, Array.length_toList] at e9
      omega
    have lt : ∀ {b : Addr}, FpOk X [] H' b → b < s.heap.objs.size → FpOk X [] (upd H' s.heap.objs.size (.tup [.int (k + i), xs[i]])) b := fun {b} f hb => ⟨by rw [upd_ne (Nat.ne_of_lt hb)]; exact f.1, f.2⟩
    have hel : e < s.heap.objs.size := by
      obtain ⟨_, _, _, q, _⟩ := en
      exact Heap.lt_size q
    have hil : it < s.heap.objs.size := by
      obtain ⟨_, q, _⟩ := hit
      exact Heap.lt_size q
    have hSl : S < s.heap.objs.size := Heap.lt_size (I.pin (S, seqObj "list" acc c) (by simp)).1
    show wpAny _ A.in1 (updateSeq S (·.push (.ref s.heap.objs.size)) >>= _) _ _ _
    refine wpAny_bind (wpAny_updateSeq gS rfl ?_ (by rw [hacc]; omega) (by show (acc.push _).size ≤ sizeLine + 1; rw [Array.size_push, hacc]; omega))
    have u1 := Heap.SameBut.update h' S (Obj.mapSeq (·.push (Value.ref s.heap.objs.size)))
    obtain ⟨c2, hc2⟩ : ∃ c2, (h'.update S (Obj.mapSeq (·.push (Value.ref s.heap.objs.size)))).get? S = some (seqObj "list" (acc.push (.ref s.heap.objs.size)) c2) := ⟨_, get?_update_seq gS (·.push (Value.ref s.heap.objs.size))⟩
    have I2 : Inv X (pins ++ [(S, seqObj "list" (acc.push (.ref s.heap.objs.size)) c2)]) σ (upd H' s.heap.objs.size (.tup [.int (k + i), xs[i]])) { s with heap := h'.update S (Obj.mapSeq (·.push (Value.ref s.heap.objs.size))), toks := tk + 1 } :=
      I1.chpin (s := { s with heap := h', toks := tk + 1 }) (t' := tk + 1) (lt fS hSl) u1 fun p hp => by
        rcases List.mem_append.mp hp with hp | hp
        · exact .inl ⟨List.mem_append_left _ hp, hpS p hp⟩
        · obtain rfl := List.mem_singleton.mp hp
          exact .inr ⟨rfl, hc2, fun v z => nomatch z⟩
    refine wpAny_pure ⟨plainId_quiet F.plain_extend_loop _, ih (i + 1) _ _ (Ts ++ [s.heap.objs.size]) (acc.push (.ref s.heap.objs.size)) c2 (by omega) I2 ?_ ?_ ?_ ?_ ?_ ?_ (lt fe hel) (lt fi hil) (lt fS hSl)⟩
    · have e1 : k + ((i + 1 : Nat) : Int) = k + i + 1 := by omega
      rw [e1]
      exact en'.at (fun o q => (u1.2 e (Ne.symm hSe)).trans q) fun b o _ _ q => by
        by_cases hb : b = S
        · exact ⟨_, by rw [hb]; exact hc2⟩
        · exact ⟨o, (u1.2 b hb).trans q⟩
    · exact hit'.at fun o q => (u1.2 it (Ne.symm hSi)).trans q
    · intro b o q
      have q' := sm b o q
      rw [upd_ne (ne_of_none q' hTn)]
      exact q'
    · rw [List.length_append, hl]
      rfl
    · intro j T hj
      by_cases hji : j < Ts.length
      · rw [List.getElem?_append_left hji] at hj
        obtain ⟨h1, x, h2, h3⟩ := ht j T hj
        exact ⟨h1, x, h2, by rw [upd_ne (ne_of_none h3 hTn)]; exact h3⟩
      · rw [List.getElem?_append_right (by omega)] at hj
        have ej : j - Ts.length = 0 := by
          have := (List.getElem?_eq_some_iff.mp hj).1
          simp at this
          omega
        rw [ej] at hj
        have eT : T = s.heap.objs.size := by simpa using hj.symm
        have ej' : j = i := by omega
        subst eT ej'
        refine ⟨?_, xs[j], by simp [hi], upd_same⟩
        cases q : H s.heap.objs.size with
        | none => rfl
        | some o =>
          have q2 := sm _ _ q
          rw [hTn] at q2
          cases q2
    · rw [List.map_append]
      have e1 : (acc.push (Value.ref s.heap.objs.size)).toList = acc.toList ++ [Value.ref s.heap.objs.size] := by simp
      rw [e1]
      exact hv.append (.cons rfl .nil)
end
end L2

set_option Elab.async false
set_option linter.all false
set_option maxRecDepth 100000
set_option maxHeartbeats 4000000
namespace L2
open PySem PySem.Spec PyProof.Rows PySem.W
section
variable {X : Cx} {pins : List (Addr × Obj)} {σ : St} {H : Hp} {s : Shared} {e it a : Addr} {k : Int} {xs : List V} {Q : VK}
theorem list_enum (I : Inv X pins σ H s) (hc : X.calm = true) (en : ∃ old, IsEnum s.heap e it k old) (hit : s.heap.IsListIter it a 0) (fe : FpOk X pins H e) (fi : FpOk X pins H it) (hne : e ≠ it) (hS : SqL X.K H a xs)
    (h : ∀ H' D Ts, Same H H' → Ts.length = xs.length → TupsAt H H' k xs Ts → H' D = some (.lst (Ts.map V.ref)) → H D = none → Q (.ref D) H') :
    wpAny (model X.prog X.w) X.A (call (.type "list") [.ref e]) (EP X pins σ Q) X.xe s := by
  obtain ⟨old, en⟩ := en
  obtain ⟨its0, rv0, p0, hz0⟩ := I.list hS
  have hpe : ∀ p ∈ pins, p.1 ≠ e := fun p hp => fe.2.2.2.2.2 p (List.mem_append_right _ hp)
  have hpi : ∀ p ∈ pins, p.1 ≠ it := fun p hp => fi.2.2.2.2.2 p (List.mem_append_right _ hp)
  refine callType_codes (Q₁ := fun obj s₁ => obj = .ref s.heap.objs.size ∧ s₁ = { s with heap := s.heap.push { cls := .type "list", data := .seq #[] } }) PySem.F.called_list (PySem.F.typeCall_list_1 _) PySem.F.entry_list_init
    (code_list_new _ ⟨rfl, rfl⟩) fun obj s₁ h₁ => ?_
  obtain ⟨rfl, rfl⟩ := h₁
  generalize hSd : s.heap.objs.size = S
  have hSlt : ∀ {b o}, s.heap.get? b = some o → b ≠ S := fun {b o} q => by rw [← hSd]; exact Nat.ne_of_lt (Heap.lt_size q)
  have hSe : S ≠ e := fun z => hSlt (show s.heap.get? e = _ from en) z.symm
  have hSi : S ≠ it := fun z => by
    obtain ⟨o, q, _⟩ := hit
    exact hSlt q z.symm
  have hS0 : (s.heap.push { cls := .type "list", data := .seq #[] }).get? S = some { cls := .type "list", data := .seq #[] } := by rw [← hSd]; exact Heap.get?_push_size _ rfl
  have fS : FpOk X pins H S := I.fpOk (Nat.le_of_eq hSd) (I.hok.fresh (Nat.le_of_eq hSd))
  have hpS : ∀ p ∈ pins, p.1 ≠ S := fun p hp => fS.2.2.2.2.2 p (List.mem_append_right _ hp)
  have no : ∀ p ∈ ([] : List (Addr × Obj)), p.1 ≠ e := fun p hp => absurd hp (by simp)
  have I1 : Inv X (pins ++ [(S, seqObj "list" #[] 0)]) σ H { s with heap := s.heap.push { cls := .type "list", data := .seq #[] } } := I.newpin (t' := s.toks) (fun b o q => Heap.get?_push_of_some _ q) fun p hp => by
    rcases List.mem_append.mp hp with hp | hp
    · exact .inl hp
    · obtain rfl := List.mem_singleton.mp hp
      exact .inr ⟨Nat.le_of_eq hSd, hS0, fun v z => nomatch z⟩
  refine ⟨⟨_, hS0, rfl⟩, PySem.F.args_list_init_2 _ _, ?_⟩
  show wpAny _ _ (do let old ← Builtin.List.listItems (.ref S); Builtin.List.listUpdate (.ref S) (fun _ => #[]); letGo old.toList.reverse; Builtin.List.listExtendWith (.ref S) (.ref e) .none) _ _ _
  refine wpAny_bind (listItems_at (s := { s with heap := s.heap.push { cls := .type "list", data := .seq #[] } }) hS0 rfl ?_)
  refine wpAny_bind (listUpdate_at (s := { s with heap := s.heap.push { cls := .type "list", data := .seq #[] } }) hS0 rfl ?_ (Nat.zero_le _) (Nat.zero_le _))
  have u1 := Heap.SameBut.update (s.heap.push { cls := .type "list", data := .seq #[] }) S (Obj.mapSeq fun _ => (#[] : Array Value))
  obtain ⟨c1, hc1⟩ : ∃ c1, ((s.heap.push { cls := .type "list", data := .seq #[] }).update S (Obj.mapSeq fun _ => (#[] : Array Value))).get? S = some (seqObj "list" #[] c1) := ⟨_, get?_update_seq hS0 fun _ => #[]⟩
  refine wpAny_bind (wpAny_letGo ?_)
  have I2 : Inv X (pins ++ [(S, seqObj "list" #[] c1)]) σ H { s with heap := (s.heap.push { cls := .type "list", data := .seq #[] }).update S (Obj.mapSeq fun _ => (#[] : Array Value)) } := I1.chpin (s := { s with heap := s.heap.push { cls := .type "list", data := .seq #[] } }) (t' := s.toks) (fS.repin fun p hp => absurd hp (by simp)) u1 fun p hp => by
    rcases List.mem_append.mp hp with hp | hp
    · exact .inl ⟨List.mem_append_left _ hp, hpS p hp⟩
    · obtain rfl := List.mem_singleton.mp hp
      exact .inr ⟨rfl, hc1, fun v z => nomatch z⟩
  have keep2 : ∀ b o, b ≠ S → s.heap.get? b = some o → ((s.heap.push { cls := .type "list", data := .seq #[] }).update S (Obj.mapSeq fun _ => (#[] : Array Value))).get? b = some o := fun b o hb q => (u1.2 b hb).trans (Heap.get?_push_of_some _ q)
  generalize (s.heap.push { cls := .type "list", data := .seq #[] }).update S (Obj.mapSeq fun _ => (#[] : Array Value)) = h2 at I2 hc1 keep2
  have en2 : IsEnum h2 e it k old := keep2 e _ (Ne.symm hSe) en
  have hT2 : ({ s with heap := h2 } : Shared).TypeIs (.ref e) "enumerate" := ⟨_, en2, rfl⟩
  unfold Builtin.List.listExtendWith
  refine wpAny_bind (wpAny_typeOf (T := "enumerate") hT2 ?_)
  have h1 : Builtin.List.listSameRef (.ref S) (.ref e) = false := by simp [Builtin.List.listSameRef, hSe]
  have h3 : (Value.type "enumerate" == Value.type "list") = false := by decide
  have h4 : (Value.type "enumerate" == Value.type "tuple") = false := by decide
  simp only [h1, h3, h4, Bool.or_false, Bool.false_eq_true, if_false]
  refine wpAny_bind (wpAny_pyIter_enum (s := { s with heap := h2 }) en2 ?_)
  refine wpAny_bind (wpAny_holding (hint_enum hT2 ?_))
  refine wpAny_ite_split (fun _ => ?_) (fun hab => absurd (by simp) hab)
  refine wpAny_bind (wpAny_rule ?_)
  refine wpAny_bind ?_
  show wpAny _ _ (updateSeq S (·.push .none) >>= fun _ => updateSeq S (·.pop)) _ _ _
  refine wpAny_bind (wpAny_updateSeq (s := { s with heap := h2 }) hc1 rfl ?_)
  have u3 := Heap.SameBut.update h2 S (Obj.mapSeq (·.push Value.none))
  obtain ⟨c3, hc3⟩ : ∃ c3, (h2.update S (Obj.mapSeq (·.push Value.none))).get? S = some (seqObj "list" (#[].push Value.none) c3) := ⟨_, get?_update_seq hc1 (·.push Value.none)⟩
  refine wpAny_updateSeq (s := { s with heap := h2.update S (Obj.mapSeq (·.push Value.none)) }) (hz := by seq_fits) hc3 rfl ?_
  have u4 := Heap.SameBut.update (h2.update S (Obj.mapSeq (·.push Value.none))) S (Obj.mapSeq (·.pop))
  obtain ⟨c4, hc4⟩ : ∃ c4, ((h2.update S (Obj.mapSeq (·.push Value.none))).update S (Obj.mapSeq (·.pop))).get? S = some (seqObj "list" #[] c4) := ⟨_, get?_update_seq hc3 (·.pop)⟩
  have u34 : Heap.SameBut S h2 ((h2.update S (Obj.mapSeq (·.push Value.none))).update S (Obj.mapSeq (·.pop))) := ⟨u4.1.trans u3.1, fun b hb => (u4.2 b hb).trans (u3.2 b hb)⟩
  have I4 : Inv X (pins ++ [(S, seqObj "list" #[] c4)]) σ H { s with heap := (h2.update S (Obj.mapSeq (·.push Value.none))).update S (Obj.mapSeq (·.pop)) } := I2.chpin (s := { s with heap := h2 }) (t' := s.toks) (fS.repin fun p hp => absurd hp (by simp)) u34 fun p hp => by
    rcases List.mem_append.mp hp with hp | hp
    · exact .inl ⟨List.mem_append_left _ hp, hpS p hp⟩
    · obtain rfl := List.mem_singleton.mp hp
      exact .inr ⟨rfl, hc4, fun v z => nomatch z⟩
  have keep4 : ∀ b o, b ≠ S → s.heap.get? b = some o → ((h2.update S (Obj.mapSeq (·.push Value.none))).update S (Obj.mapSeq (·.pop))).get? b = some o := fun b o hb q => (u34.2 b hb).trans (keep2 b o hb q)
  generalize (h2.update S (Obj.mapSeq (·.push Value.none))).update S (Obj.mapSeq (·.pop)) = h5 at I4 hc4 keep4
  have en5 : IsEnum h5 e it k old := keep4 e _ (Ne.symm hSe) en
  refine wpAny_pure ⟨plainId_quiet F.plain_extend_loop _, ?_⟩
  refine le_loop (A := X.A.in1) (X := X) (H := H) (k := k) (a := a) (xs := xs) (it := it) (pins := pins) (σ := σ) (I.ok.hd hc) hne hSe hSi hS hpe hpi hpS (fun s' H' Ts acc c I' sm hl ht hv fS' => ?_) xs.length 0 _ H [] #[] c4 (by omega) I4 ⟨.none, .bool false, old, by simpa using en5, .inl rfl⟩ (hit.at fun o q => keep4 it o (Ne.symm hSi) q) (fun b o q => q) rfl (fun j T hj => by simp at hj) .nil (fe.repin fun p hp => absurd hp (by simp)) (fi.repin fun p hp => absurd hp (by simp)) (fS.repin fun p hp => absurd hp (by simp))
  have g := (I'.pin (S, seqObj "list" acc c) (by simp)).1
  have I6 : Inv X pins σ H' s' := I'.unpinned
  have I7 : Inv X pins σ (upd H' S (.lst (Ts.map V.ref))) s' := I6.adopt fS' ⟨by rw [List.length_map, hl]; exact hz0, acc.toList, c, hv, by simpa using g⟩
  have sm2 : Same H (upd H' S (.lst (Ts.map V.ref))) := fun b o q => by
    have q' := sm b o q
    rw [upd_ne (ne_of_none q' fS'.1)]
    exact q'
  refine ⟨rfl, ⟨.ref S, _, I7, rfl, h _ S Ts sm2 hl (fun j T hj => ?_) upd_same fS.1⟩⟩
  obtain ⟨h6, x, h7, h8⟩ := ht j T hj
  exact ⟨h6, x, h7, by rw [upd_ne (ne_of_none h8 fS'.1)]; exact h8⟩
end
def tListEnum (K : PySem.W.Frag) (k : Int) (te : TE) : TE := fun σ H Q => te σ H fun x H1 => ∃ (a : Addr) (xs : List V), x = .ref a ∧ SqL K H1 a xs ∧
  ∀ H' D Ts, Same H1 H' → Ts.length = xs.length → TupsAt H1 H' k xs Ts → H' D = some (.lst (Ts.map V.ref)) → H1 D = none → Q (.ref D) H'
section
variable {X : Cx} {e : Expr} {te : TE} {p p2 pos pos2 kpos cpos : Pos} {j : Nat}
theorem pe_listEnum (hc : X.calm = true) (hgl : Gl X "list") (hml : X.mg "list" = none) (hge : Gl X "enumerate") (hme : X.mg "enumerate" = none) (he : PE X e te) (hs : starEach [e] X.env = [(false, eval e X.env)] := by rfl)
    (hs2 : starEach [.Call (.Name "enumerate" p2) [e] [] pos2] X.env = [(false, eval (.Call (.Name "enumerate" p2) [e] [] pos2) X.env)] := by rfl) :
    PE X (.Call (.Name "list" p) [.Call (.Name "enumerate" p2) [e] [] pos2] [] pos) (tListEnum X.K 0 te) := by
  intro pins s σ H Q I h
  refine wpAny_Call_Name_kw (ld_blt I hgl hml (show bootBuiltins "list" = some (.type "list") by decide +kernel) ?_)
  refine PyProof.Rows.callWith_type1 ?_ (by rw [hs2]; rfl) rfl
  rw [hs2]
  refine Calls.spliced_cons (Call_ (ld_blt I hge hme boot_enumerate (PyProof.Rows.callWith_type1 ?_ (by rw [hs]; rfl) rfl)))
  rw [hs]
  refine Calls.spliced_cons (thn (he pins s σ H _ I h) fun u s1 ⟨x, H1, I1, r1, a, xs, ex, hS, q⟩ => Calls.spliced_nil ?_)
  subst ex
  cases r1
  obtain ⟨its, rv, p', hz⟩ := I1.list hS
  refine call_enumerate_list p'.isList fun h' he' hit hsz hk => Calls.spliced_nil ?_
  have I2 : Inv X pins σ H1 { s1 with heap := h' } := I1.kept (t' := s1.toks) hk
  exact list_enum I2 hc ⟨_, he'⟩ hit (I1.fpOk (Nat.le_succ _) (I1.hok.fresh (Nat.le_succ _))) (I1.fpOk (Nat.le_refl _) (I1.hok.fresh (Nat.le_refl _))) (Nat.succ_ne_self _) hS q
end
end L2

set_option Elab.async false
set_option linter.all false
set_option maxRecDepth 100000
set_option maxHeartbeats 4000000
namespace L2
open PySem PySem.Spec PyProof.Rows
def tRev (K : PySem.W.Frag) (te : TE) : TE := fun σ H Q => te σ H fun x H1 => ∃ a xs, x = .ref a ∧ SqL K H1 a xs ∧ ∀ p, H1 p = none → Q (.ref p) (upd H1 p (.lst xs.reverse))
section
variable {X : Cx} {e : Expr} {te : TE} {p2 pos cp up : Pos} {j : Nat}
theorem pe_rev (he : PE X e te) : PE X (.Subscript e (.Slice none none (some (.UnaryOp .USub (.Constant (.int 1) j cp) up)) p2) pos) (tRev X.K te) := by
  intro pins s σ H Q I h
  refine Subscript_ (thn (he pins s σ H _ I h) fun v s1 ⟨x, H1, I1, r1, a, xs, ex, hS, q⟩ => ?_)
  subst ex
  cases r1
  refine wpAny_Slice ?_
  rw [evalPart_none]
  refine wpAny_pure ?_
  refine wpAny_pure ?_
  rw [evalPart_some]
  have pn : PE X (.UnaryOp .USub (.Constant (.int 1) j cp) up) (tUn (rU fun i => .int (-i)) (tC (.int 1))) := pe_un un_neg pe_int
  refine thn (pn pins s1 σ H1 (fun y H2 => y = .int (-1) ∧ H2 = H1) I1 ⟨1, rfl, rfl, rfl⟩) fun vs s3 ⟨y, H3, I3, r3, ey, eH⟩ => ?_
  subst ey eH
  obtain ⟨t, rfl⟩ := r3
  obtain ⟨its, r, ht, hz⟩ := I3.list hS
  have hlen := r.length
  have I4 : Inv X pins σ H3 { s3 with heap := s3.heap.push { cls := .type "slice", data := .fields #[.none, .none, .int (-1) t] } } := I3.kept (t' := s3.toks) fun b ob q => Heap.get?_push_of_some _ q
  show wpAny (model X.prog X.w) X.A (subscriptTail e (.Slice none none (some (.UnaryOp .USub (.Constant (.int 1) j cp) up)) p2) (.ref a) (.ref s3.heap.objs.size)) (EP X pins σ Q) X.xe { s3 with heap := s3.heap.push { cls := .type "slice", data := .fields #[.none, .none, .int (-1) t] } }
  have ht' := ht.isList.push { cls := .type "slice", data := .fields #[.none, .none, .int (-1) t] }
  refine tail_any (ops := [.ref a, .ref s3.heap.objs.size]) ht'.typeIs slot_list_getitem.lookup ?_ (by with_unfolding_all rfl)
  refine wpAny_getItem_list_slice ht' (Heap.IsSliceOf.new ..) .none .none (.int (-1) t) (by decide) ?_ (by rw [List.size_toArray]; omega)
  rw [PySem.W.krv_pick]
  refine ⟨.ref _, _, I4.laid (t' := s3.toks) (o := .lst xs.reverse) (fun b ob q => Heap.get?_push_of_some _ q) (Nat.le_refl _) ?_, rfl, q _ (I4.hok.fresh (Nat.le_refl _))⟩
  exact ⟨by rw [List.length_reverse]; exact hz, its.reverse, 0, r.reverse, Heap.get?_push_size _ rfl⟩
end
structure OnlyT (ts : List Addr) (H : Hp) : Prop where
  at' : ∀ P ∈ ts, H P = some (.tbl #[])
  rest : ∀ b, b ∉ ts → H b = none ∨ ∃ o xs, H b = some (.frz o (.lst xs))
theorem law_callT {P : Program} {w : World} {K : PySem.W.Frag} {mg mb : Str → Option Value} {CX : CXT} {k : Nat} {fa a : Addr} {fd : FuncData} {x : Str} {sp : Sp} {s₁ : Shared} {vs : List Value} {ns : List Int} {ts : List (Addr × Addr)}
    (KX : K.In s₁.heap) (hns : s₁.heap.Ns mainGlobals mg) (hb : s₁.heap.Ns builtinsNs mb) (hbb : ∀ x : Str, x ≠ "__name__" → mb x = bootBuiltins x) (hlim : s₁.heap.NoLimit) (hg : s₁.gens = #[]) (hbm : BmOk mg s₁.heap)
    (hts : ∀ q ∈ ts, s₁.heap.IsCode q.1 q.2 #[] ∧ s₁.heap.TableAt q.1 q.2 #[] ∧ K.lookup q.2 = none)
    (ha : s₁.heap.get? a = some { cls := .type "list", data := .seq vs.toArray }) (hi : IntsAre vs ns) (hl : ns.length ≤ sizeLine) (hr : Room k callerA)
    (F : ∀ base : Heap, K.In base → base.Ns mainGlobals mg → BmOk mg base → FnOk P w K mg base CX k fa fd [x] sp) (hbind : ∀ (s : Shared) (u : Value), BindsTo s fd ⟨[u], []⟩ [(x, u)])
    (hsp : ∀ H : Hp, OnlyT (ts.map (·.2)) H → SqL K H a (ns.map V.int) → sp [.ref a] H (fun v _ => v = .bl true) fun _ _ _ => False)
    (hCX : ∀ H e s', CX [] H s₁ (fun _ _ _ => False) e s' → False) :
    codeAny (model P w) callerA (.call (.ref fa) ⟨[.ref a], []⟩) (fun r s' => r = .ok (.ret (.bool true)) ∧ OldK s₁.heap s'.heap ∧ s'.os = s₁.os ∧ AllBare s'.gens) s₁ := by
  have rv := vals_ints hi
  have lenV := hi.length
  have tab : ∀ {b : Addr}, b ∈ ts.map (·.2) → s₁.heap.get? b = some { cls := .none, data := .fields #[] } := fun {b} hb => by
    obtain ⟨q, hq, rfl⟩ := List.mem_map.mp hb
    exact (hts q hq).2.1.2
  have nta : a ∉ ts.map (·.2) := fun z => by
    rw [tab z] at ha
    cases ha
  have core : ∀ H : Hp, OnlyT (ts.map (·.2)) H → SqL K H a (ns.map V.int) → HOk P w H s₁.heap → (∀ b, H b ≠ none → b = a ∨ b ∈ ts.map (·.2)) → (H a ≠ none → K.lookup a = none) →
      codeAny (model P w) callerA (.call (.ref fa) ⟨[.ref a], []⟩) (fun r s' => r = .ok (.ret (.bool true)) ∧ OldK s₁.heap s'.heap ∧ s'.os = s₁.os ∧ AllBare s'.gens) s₁ := by
    intro H hO hS hok hA hK
    have base_of : ∀ {b : Addr} {o : Obj}, s₁.heap.get? b = some o → H b = none → (hidT s₁.heap H).get? b = some o := fun e n => hidT_get e n
    have noA : ∀ {b : Addr} {o : Obj}, s₁.heap.get? b = some o → (∀ its n, o.data ≠ .seq its n) → (∀ fs, o.data ≠ .fields fs) → H b = none := fun {b o} e d1 d2 => by
      cases q : H b with
      | none => rfl
      | some u =>
        rcases hA b (by rw [q]; simp) with e' | e'
        · subst e'
          rw [ha] at e
          cases e
          exact absurd rfl (d1 _ _)
        · rw [tab e'] at e
          cases e
          exact absurd rfl (d2 _)
    have nsK : ∀ {b : Addr} {m : Str → Option Value}, s₁.heap.Ns b m → (hidT s₁.heap H).Ns b m := fun {b m} ⟨o, es, ep, e, d, r⟩ => ⟨o, es, ep, base_of e (noA e (fun _ _ z => by rw [d] at z; cases z) fun _ z => by rw [d] at z; cases z), d, r⟩
    have hKb : K.In (hidT s₁.heap H) := fun b o e => base_of (KX b o e) (by
      cases q : H b with
      | none => rfl
      | some u =>
        rcases hA b (by rw [q]; simp) with e' | e'
        · subst e'
          rw [hK (by rw [q]; simp)] at e
          cases e
        · obtain ⟨r, hr, rfl⟩ := List.mem_map.mp e'
          rw [(hts r hr).2.2] at e
          cases e)
    have hM : Mod K mg (hidT s₁.heap H) := ⟨hKb, nsK hns, ⟨mb, nsK hb, hbb⟩, let ⟨mc, h1, h2⟩ := hlim; ⟨mc, nsK h1, h2⟩⟩
    have hbm' : BmOk mg (hidT s₁.heap H) := by
      obtain ⟨bm, ob, b1, b2, b3, b4, b5, b6⟩ := hbm
      exact ⟨bm, ob, b1, b2, base_of b3 (noA b3 (fun _ _ z => by rw [b6] at z; cases z) fun _ z => by rw [b6] at z; cases z), b4, b5, b6⟩
    have e0 : Env0 P w K mg (hidT s₁.heap H) callerA [] s₁ H := ⟨rfl, hM, fun b o e => of_hidT e, Nat.le_of_eq (hidT_size _ _), trivial, fun b hb => absurd (show b ∈ ([] : List Addr) from hb) (by simp), hok, .of_eq hg⟩
    refine codeAny_mono ((F _ hKb (nsK hns) hbm').run callerA [] s₁ H ⟨[.ref a], []⟩ [.ref a] [.ref a] _ _ hr e0 (hbind s₁ (.ref a)) (.cons rfl .nil) (hsp H hO hS)) fun r s' h => ?_
    cases r with
    | error e => exact (hCX H e s' h).elim
    | ok fl =>
      cases fl with
      | next => exact False.elim h
      | brk => exact False.elim h
      | cont => exact False.elim h
      | ret u =>
        obtain ⟨v, H', os, bare, un, hok', r', q⟩ := h
        have q' : v = .bl true := q
        subst q'
        obtain rfl : u = Value.bool true := r'
        refine ⟨rfl, ⟨fun b o e => ?_, fun b o e => un.there b o e (by simp)⟩, os, bare⟩
        by_cases hbt : b ∈ ts.map (·.2)
        · obtain ⟨more, z⟩ := un.tbls b _ (hO.at' b hbt)
          have z2 : s'.heap.get? b = some { cls := .none, data := .fields (#[] ++ more) } := hok' b _ z
          rw [tab hbt] at e
          cases e
          obtain ⟨q, hq, rfl⟩ := List.mem_map.mp hbt
          exact .inr (.inl ⟨(hts q hq).2.1.isCodeTable, rfl, #[], more, rfl, z2⟩)
        · left
          cases q : H b with
          | none => exact un.keep b o e q (by intro z; exact absurd (show b ∈ ([] : List Addr) from z) (by simp)) (by simp)
          | some u =>
            rcases hO.rest b hbt with z | ⟨ob, xs, z⟩
            · rw [q] at z
              cases z
            · have z2 := un.frzs b ob _ z
              obtain ⟨e1, _⟩ := hok b _ z
              obtain ⟨e2, _⟩ := hok' b _ z2
              rw [e] at e1
              cases e1
              exact e2
  have tOk : ∀ b, b ∈ ts.map (·.2) → ∀ H, ObjOk P w H s₁.heap b (.tbl #[]) := fun b hb H => tab hb
  cases hk : K.lookup a with
  | some o =>
    have e := KX a o hk
    rw [ha] at e
    cases e
    refine core (fun b => if b ∈ ts.map (·.2) then some (.tbl #[]) else none) ⟨fun P hP => if_pos hP, fun b hb => .inl (if_neg hb)⟩ (.inr ⟨_, vs.toArray, _, hk, rfl, rfl, rfl, by rw [List.size_toArray, lenV]; exact hl, by simpa using rv⟩) (fun b u z => ?_) (fun b z => ?_) fun z => absurd (if_neg nta) z
    · by_cases hb : b ∈ ts.map (·.2)
      · have z' := (if_pos hb).symm.trans z
        cases z'
        exact tOk b hb _
      · have z' := (if_neg hb).symm.trans z
        cases z'
    · by_cases hb : b ∈ ts.map (·.2)
      · exact .inr hb
      · exact absurd (if_neg hb) z
  | none =>
    refine core (fun b => if b ∈ ts.map (·.2) then some (.tbl #[]) else if b = a then some (.frz { cls := .type "list", data := .seq vs.toArray } (.lst (ns.map V.int))) else none) ⟨fun P hP => if_pos hP, fun b hb => ?_⟩ (.inl (.inr ⟨{ cls := .type "list", data := .seq vs.toArray }, (if_neg nta).trans (if_pos rfl)⟩)) (fun b u z => ?_) (fun b z => ?_) fun _ => hk
    · by_cases hba : b = a
      · exact .inr ⟨_, _, (if_neg hb).trans (if_pos hba)⟩
      · exact .inl ((if_neg hb).trans (if_neg hba))
    · by_cases hb : b ∈ ts.map (·.2)
      · have z' := (if_pos hb).symm.trans z
        cases z'
        exact tOk b hb _
      · have z := (if_neg hb).symm.trans z
        by_cases hba : b = a
        · have z' := (if_pos hba).symm.trans z
          cases z'
          subst hba
          exact ⟨ha, by rw [List.length_map]; exact hl, vs, _, rv, ha⟩
        · have z' := (if_neg hba).symm.trans z
          cases z'
    · by_cases hb : b ∈ ts.map (·.2)
      · exact .inr hb
      · by_cases hba : b = a
        · exact .inl hba
        · exact absurd ((if_neg hb).trans (if_neg hba)) z
end L2

set_option Elab.async false
set_option linter.all false
set_option maxRecDepth 100000
set_option maxHeartbeats 4000000
namespace L2
open PySem PySem.Spec PyProof.Rows
abbrev ForG (J : It) (g : TG) (tb : TS) (D : Ends) (σ : St) (H : Hp) : Prop := ∃ W : Nat → Nat → St → Hp → Prop, (∃ m, W 0 m σ H) ∧ ∀ i m σ H, W i m σ H →
  (J.stop i H ∧ D.nx σ H) ∨ (J.go i H ∧ ∃ N : St → Hp → Prop, (∀ σ' H', N σ' H' → ∃ m', m' < m ∧ W (i + 1) m' σ' H') ∧ ∀ x H', J.yld i H x H' → g x σ H' fun σ2 H2 => tb { D with nx := N, ct := N, bk := D.nx } σ2 H2)
theorem for_it {J : It} {g : TG} {tb : TS} {D : Ends} {σ : St} {H : Hp} (n : Nat) (Pv : Nat → St → Hp → Prop) (h0 : Pv 0 σ H) (hg : ∀ i σ H, i < n → Pv i σ H → J.go i H) (he : ∀ σ H, Pv n σ H → J.stop n H)
    (hs : ∀ i x σ H H', i < n → Pv i σ H → J.yld i H x H' → g x σ H' fun σ2 H2 => tb { D with nx := Pv (i + 1), ct := Pv (i + 1), bk := D.nx } σ2 H2) (hd : ∀ σ H, Pv n σ H → D.nx σ H) : ForG J g tb D σ H := by
  refine ⟨fun i m σ H => m = n - i ∧ i ≤ n ∧ Pv i σ H, ⟨n, by simp, Nat.zero_le _, h0⟩, ?_⟩
  rintro i m σ H ⟨rfl, hi, p⟩
  by_cases hlt : i < n
  · exact .inr ⟨hg i σ H hlt p, Pv (i + 1), fun σ' H' p' => ⟨n - (i + 1), by omega, rfl, hlt, p'⟩, fun x H' y => hs i x σ H H' hlt p y⟩
  · have e : i = n := by omega
    subst e
    exact .inl ⟨he σ H p, hd σ H p⟩
abbrev LcG (J : It) (g : TG) (tt : TT) (te : TE) (vs : List Nat) (σ : St) (D : Addr) (H1 : Hp) (Qd : Hp → Prop) : Prop := ∃ W : Nat → Nat → Hp → Prop, (∃ m, W 0 m (upd H1 D (.lst []))) ∧ ∀ i m H, W i m H →
  (J.stop i H ∧ Qd H) ∨ (J.go i H ∧ ∃ Nx : Hp → Prop, (∀ H', Nx H' → ∃ m', m' < m ∧ W (i + 1) m' H') ∧ ∀ x H', J.yld i H x H' → g x (wipe σ vs) H' fun σ2 H2 => wipe σ2 vs = wipe σ vs ∧ tt σ2 H2 fun b H3 =>
    if b = true then te σ2 H3 fun y H4 => ∃ acc, H4 D = some (.lst acc) ∧ acc.length < sizeLine ∧ Nx (upd H4 D (.lst (acc ++ [y]))) else Nx H3)
theorem lc_it {J : It} {g : TG} {tt : TT} {te : TE} {vs : List Nat} {σ : St} {H1 : Hp} {D : Addr} {Qd : Hp → Prop} (n : Nat) (Pv : Nat → Hp → Prop) (h0 : Pv 0 (upd H1 D (.lst []))) (hg : ∀ i H, i < n → Pv i H → J.go i H) (he : ∀ H, Pv n H → J.stop n H)
    (hs : ∀ i x H H', i < n → Pv i H → J.yld i H x H' → g x (wipe σ vs) H' fun σ2 H2 => wipe σ2 vs = wipe σ vs ∧ tt σ2 H2 fun b H3 =>
      if b = true then te σ2 H3 fun y H4 => ∃ acc, H4 D = some (.lst acc) ∧ acc.length < sizeLine ∧ Pv (i + 1) (upd H4 D (.lst (acc ++ [y]))) else Pv (i + 1) H3) (hd : ∀ H, Pv n H → Qd H) : LcG J g tt te vs σ D H1 Qd := by
  refine ⟨fun i m H => m = n - i ∧ i ≤ n ∧ Pv i H, ⟨n, by simp, Nat.zero_le _, h0⟩, ?_⟩
  rintro i m H ⟨rfl, hi, p⟩
  by_cases hlt : i < n
  · exact .inr ⟨hg i H hlt p, Pv (i + 1), fun H' p' => ⟨n - (i + 1), by omega, rfl, hlt, p'⟩, fun x H' y => hs i x H H' hlt p y⟩
  · have e : i = n := by omega
    subst e
    exact .inl ⟨he H p, hd H p⟩
section
variable {K : PySem.W.Frag} {a : Addr} {xs : List V}
theorem for_enum1 {g : TG} {tb : TS} {D : Ends} {σ : St} {H : Hp} (Pv : Nat → St → Hp → Prop) (h0 : Pv 0 σ H) (hl : ∀ i σ H, i ≤ xs.length → Pv i σ H → SqL K H a xs)
    (hs : ∀ i x T σ H, xs[i]? = some x → Pv i σ H → H T = none → g (.ref T) σ (upd H T (.tup [.int ((i : Nat) + 1), x])) fun σ2 H2 => tb { D with nx := Pv (i + 1), ct := Pv (i + 1), bk := D.nx } σ2 H2) (hd : ∀ σ H, Pv xs.length σ H → D.nx σ H) : ForG (Ite1 K a) g tb D σ H := by
  refine for_it xs.length Pv h0 (fun i σ H hi p => ⟨xs, xs[i], hl i σ H (Nat.le_of_lt hi) p, by simp [hi]⟩) (fun σ H p => ⟨xs, hl _ σ H (Nat.le_refl _) p, Nat.le_refl _⟩) (fun i x σ H H' hi p y => ?_) hd
  obtain ⟨T, z, rfl, hT, rfl, hz⟩ := y
  exact hs i z T σ H (hz xs (hl i σ H (Nat.le_of_lt hi) p)) p hT
theorem lc_enum1 {g : TG} {tt : TT} {te : TE} {vs : List Nat} {σ : St} {H1 : Hp} {D : Addr} {Qd : Hp → Prop} (Pv : Nat → Hp → Prop) (h0 : Pv 0 (upd H1 D (.lst []))) (hl : ∀ i H, i ≤ xs.length → Pv i H → SqL K H a xs)
    (hs : ∀ i x T H, xs[i]? = some x → Pv i H → H T = none → g (.ref T) (wipe σ vs) (upd H T (.tup [.int ((i : Nat) + 1), x])) fun σ2 H2 => wipe σ2 vs = wipe σ vs ∧ tt σ2 H2 fun b H3 =>
      if b = true then te σ2 H3 fun y H4 => ∃ acc, H4 D = some (.lst acc) ∧ acc.length < sizeLine ∧ Pv (i + 1) (upd H4 D (.lst (acc ++ [y]))) else Pv (i + 1) H3) (hd : ∀ H, Pv xs.length H → Qd H) : LcG (Ite1 K a) g tt te vs σ D H1 Qd := by
  refine lc_it xs.length Pv h0 (fun i H hi p => ⟨xs, xs[i], hl i H (Nat.le_of_lt hi) p, by simp [hi]⟩) (fun H p => ⟨xs, hl _ H (Nat.le_refl _) p, Nat.le_refl _⟩) (fun i x H H' hi p y => ?_) hd
  obtain ⟨T, z, rfl, hT, rfl, hz⟩ := y
  exact hs i z T H (hz xs (hl i H (Nat.le_of_lt hi) p)) p hT
theorem lc_enum0 {g : TG} {tt : TT} {te : TE} {vs : List Nat} {σ : St} {H1 : Hp} {D : Addr} {Qd : Hp → Prop} (Pv : Nat → Hp → Prop) (h0 : Pv 0 (upd H1 D (.lst []))) (hl : ∀ i H, i ≤ xs.length → Pv i H → SqL K H a xs)
    (hs : ∀ i x T H, xs[i]? = some x → Pv i H → H T = none → g (.ref T) (wipe σ vs) (upd H T (.tup [.int (i : Nat), x])) fun σ2 H2 => wipe σ2 vs = wipe σ vs ∧ tt σ2 H2 fun b H3 =>
      if b = true then te σ2 H3 fun y H4 => ∃ acc, H4 D = some (.lst acc) ∧ acc.length < sizeLine ∧ Pv (i + 1) (upd H4 D (.lst (acc ++ [y]))) else Pv (i + 1) H3) (hd : ∀ H, Pv xs.length H → Qd H) : LcG (Ite K a) g tt te vs σ D H1 Qd := by
  refine lc_it xs.length Pv h0 (fun i H hi p => ⟨xs, xs[i], hl i H (Nat.le_of_lt hi) p, by simp [hi]⟩) (fun H p => ⟨xs, hl _ H (Nat.le_refl _) p, Nat.le_refl _⟩) (fun i x H H' hi p y => ?_) hd
  obtain ⟨T, z, rfl, hT, rfl, hz⟩ := y
  exact hs i z T H (hz xs (hl i H (Nat.le_of_lt hi) p)) p hT
theorem for_rev {g : TG} {tb : TS} {D : Ends} {σ : St} {H : Hp} (Pv : Nat → St → Hp → Prop) (h0 : Pv 0 σ H) (hl : ∀ i σ H, i ≤ xs.length → Pv i σ H → SqL K H a xs)
    (hs : ∀ i x σ H, i < xs.length → xs[xs.length - 1 - i]? = some x → Pv i σ H → g x σ H fun σ2 H2 => tb { D with nx := Pv (i + 1), ct := Pv (i + 1), bk := D.nx } σ2 H2) (hd : ∀ σ H, Pv xs.length σ H → D.nx σ H) : ForG (Itv K a xs.length) g tb D σ H := by
  refine for_it xs.length Pv h0 (fun i σ H hi p => ⟨hi, xs, xs[xs.length - 1 - i]'(by omega), hl i σ H (Nat.le_of_lt hi) p, by rw [List.getElem?_eq_getElem]⟩) (fun σ H p => Nat.le_refl _) (fun i x σ H H' hi p y => ?_) hd
  obtain ⟨rfl, hz⟩ := y
  exact hs i x σ _ hi (hz xs (hl i σ _ (Nat.le_of_lt hi) p)) p
end
theorem Same.upd {H H' : Hp} {a : Addr} {o : HO} (s : Same H H') (h : H a = none) : Same H (upd H' a o) := fun b u e => by
  rw [upd_ne (ne_of_none e h)]
  exact s b u e
theorem Same.new {H : Hp} {a : Addr} {o : HO} (h : H a = none) : Same H (L2.upd H a o) := (Same.refl H).upd h
theorem map_int_get {ns : List Int} {i : Nat} {x : V} (h : (ns.map V.int)[i]? = some x) : ∃ n, ns[i]? = some n ∧ x = .int n := by
  rw [List.getElem?_map] at h
  cases e : ns[i]? with
  | none =>
    rw [e] at h
    cases h
  | some z =>
    rw [e] at h
    exact ⟨z, rfl, (Option.some.inj h).symm⟩
end L2

set_option Elab.async false
set_option linter.all false
set_option maxRecDepth 100000
set_option maxHeartbeats 4000000
namespace L2
open PySem PySem.Spec PyProof.Rows
def rListOf (K : PySem.W.Frag) : List V → Hp → VK → Prop := fun xs H Q => ∃ p ys, xs = [.ref p] ∧ (SqL K H p ys ∨ SqT K H p ys) ∧ ∀ l, H l = none → Q (.ref l) (upd H l (.lst ys))
def rLen (K : PySem.W.Frag) : List V → Hp → VK → Prop := fun xs H Q => ∃ p ys, xs = [.ref p] ∧ (SqL K H p ys ∨ SqT K H p ys) ∧ Q (.int ys.length) H
section
variable {X : Cx} (K : PySem.W.Frag)
theorem cr_isiK (h : X.K = K := by rfl) : CallR X (.builtin "isinstance") (rIsi K) := h ▸ cr_isi
theorem call_list_ofK (h : X.K = K := by rfl) : CallR X (.type "list") (rListOf K) := by
  subst h
  exact call_list_of
theorem call_len_seqK (h : X.K = K := by rfl) : CallR X (.builtin "len") (rLen K) := by
  subst h
  exact call_len_seq
theorem cr_sumK (hc : X.calm = true) (h : X.K = K := by rfl) : CallR X (.builtin "sum") (rSum K) := h ▸ cr_sum hc
theorem cr_minK (hc : X.calm = true) (h : X.K = K := by rfl) : CallR X (.builtin "min") (rMin K) := h ▸ cr_min hc
theorem ck_maxK (hc : X.calm = true) (h : X.K = K := by rfl) : CallKR X (.builtin "max") ["default"] (rMaxD K) := h ▸ ck_max hc
theorem ix_listK (h : X.K = K := by rfl) : IxR X (rIxL K) := h ▸ ix_list
theorem ix_tupK (h : X.K = K := by rfl) : IxR X (rIxT K) := h ▸ ix_tup
theorem sl_listK (h : X.K = K := by rfl) : SlR X (rSlL K) := h ▸ sl_list
theorem op_eqDK (hu : X.A.units + 64 < cLine) (h : X.K = K := by rfl) : OpR X (compareOp .Eq) (rEqD K) := h ▸ op_eqD hu
theorem op_neDK (hu : X.A.units + 64 < cLine) (h : X.K = K := by rfl) : OpR X (compareOp .NotEq) (rNeD K) := h ▸ op_neD hu
theorem pi_listK {tg l : Expr} {tl : TE} (hl : PE X l tl) (h : X.K = K := by rfl) : PI X tg l (iList K tl) := h ▸ pi_list hl
theorem pi_enumK {e : Expr} {ta : TA} {p pos tpos : Pos} {elts : List Expr} {kk : Nat} (hg : Gl X "enumerate") (hm : X.mg "enumerate" = none) (ha : PA X [e] ta) (hs : starEach [e] X.env = [(false, eval e X.env)] := by rfl) (h : X.K = K := by rfl) :
    PI X (.Tuple elts kk tpos) (.Call (.Name "enumerate" p) [e] [] pos) (iEnum K ta) := h ▸ pi_enum hg hm ha hs
theorem pi_enum1K {e : Expr} {ta : TA} {p pos tpos kpos cpos : Pos} {elts : List Expr} {kk j : Nat} (hg : Gl X "enumerate") (hm : X.mg "enumerate" = none) (ha : PA X [e] ta) (hs : starEach [e] X.env = [(false, eval e X.env)] := by rfl) (h : X.K = K := by rfl) :
    PI X (.Tuple elts kk tpos) (.Call (.Name "enumerate" p) [e] [⟨some "start", .Constant (.int 1) j cpos, kpos⟩] pos) (iEnum1 K ta) := h ▸ pi_enum1 hg hm ha hs
theorem pg_tupK {es : List Expr} {k : Nat} {t : TGs} {n : Nat} {pos : Pos} (hc : X.calm = true) (hp : PGs X es t) (hn : (assignEach es X.env).length = n := by rfl) (hst : (assignEach es X.env).findIdx? (·.1) = none := by rfl) (h : X.K = K := by rfl) :
    PG X (.Tuple es k pos) (gTup K n t) := h ▸ pg_tup hc hp hn hst
theorem pe_fldK {e : Expr} {ta : TE} {f : Str} {pos : Pos} (he : PE X e ta) (hb : attributeBase e f X.env (eval e X.env) = eval e X.env) (h : X.K = K := by rfl) : PE X (.Attribute e f pos) (tFld K ta f) := h ▸ pe_fld he hb
end
end L2
namespace L2
theorem yesT {σ : St} {H : Hp} {A B : Bool → Hp → Prop} (h : A true H) : tYes σ H (fun b H3 => if b = true then A b H3 else B b H3) := by
  show (if true = true then A true H else B true H)
  rw [if_pos rfl]
  exact h
end L2
namespace L2
open PySem PySem.Spec PyProof.Rows
section
variable {X : Cx} (K : PySem.W.Frag) {o e : Expr} {es : List Expr} {to : TE} {t : TA} {name : Str} {apos cpos : Pos} {T id : String} {r : V → List V → Hp → VK → Prop}
theorem pe_bmK (pa : PlainAttrs T) (slot : Slot T name id) (hty : typeOf (.builtin id) = pure (.type "method_descriptor")) (hm : MtR X id r) (ho : PE X o to) (ha : PA X (e :: es) t)
    (hbase : attributeBase o name X.env (eval o X.env) = eval o X.env := by rfl)
    (hfew : ((backTo cpos (starEach (e :: es) X.env)).all (fun x => !x.1) && (backToKw cpos (keywordEach [] X.env)).all (fun x => x.1.isSome)
      && decide ((e :: es).length + ([] : List Keyword).length + (if ([] : List Keyword).isEmpty then 0 else 1) < 30)) = true := by rfl)
    (hline : (apos.endLine == cpos.line) = true := by rfl) (hs : starEach (e :: es) X.env = (false, eval e X.env) :: starEach es X.env := by rfl) (hplain : (backTo cpos (starEach es X.env)).any (·.1) = false := by rfl) (h : X.K = K := by rfl) :
    PE X (.Call (.Attribute o name apos) (e :: es) [] cpos) (tBM K T r to t) := h ▸ pe_bm pa slot hty hm ho ha hbase hfew hline hs hplain
end
end L2

set_option Elab.async false
set_option linter.all false
namespace L2
open PySem PySem.Spec PyProof.Rows
theorem walk_ofT {l : PySem.W.OpenLaw} {n k : Nat} {q : Program} {loose : List Str} {XP : (Str → Option Value) → Heap → Prop} {YP : World → Heap → Prop} {d : DefRec} {K : Params → PySem.W.Frag} {CX : CXT} {sp : PySem.W.Frag → Addr → Sp} {x y : Str}
    (hn : l.most = some n) (hn2 : n ≤ sizeLine) (hdf : d.params.defaults = []) (hr : Room k callerA)
    (hfd : ((recsOf q).find? fun e => e.name == y).isSome = true)
    (hY : ∀ (w : World) (h : Heap), YP w h → (K w.params).In h)
    (F : ∀ (w : World) (mg : Str → Option Value) (fa : Addr) (h : Heap), (K w.params).In h → h.Ns mainGlobals mg → mg d.name = some (.ref fa) →
      ∃ (fd : FuncData) (c P : Addr), PySem.W.tabIn (K w.params) y = some (c, P) ∧ (K w.params).lookup P = none ∧ (∀ (s : Shared) (u : Value), BindsTo s fd ⟨[u], []⟩ [(x, u)]) ∧
        ∀ base : Heap, (K w.params).In base → base.Ns mainGlobals mg → BmOk mg base → FnOk l.prog w (K w.params) mg base CX k fa fd [x] (sp (K w.params) P))
    (hsp : ∀ (K : PySem.W.Frag) (P : Addr) (H : Hp) (a : Addr) (ns : List Int), ns.length ≤ n → OnlyT [P] H → SqL K H a (ns.map V.int) → sp K P [.ref a] H (fun v _ => v = .bl true) fun _ _ _ => False)
    (hCX : ∀ (H : Hp) (s : Shared) (e : Value) (s' : Shared), CX [] H s (fun _ _ _ => False) e s' → False) :
    PySem.W.WalkO q loose XP YP l.row.toRowW d [] (fun f vs => PySem.call f vs) := by
  refine Att.attach_call hn hdf fun w s₀ s₁ mg mb fa o pm cd doc a vs ns G Y ho hd hcd hmg hobj hints hlen hg => ?_
  have KX := hY w _ Y
  obtain ⟨fd, c, P, ht, hnl, hb, hF⟩ := F w mg fa _ KX G.T.g hmg
  obtain ⟨e, he⟩ := Option.isSome_iff_exists.mp hfd
  obtain ⟨C, hP⟩ := PySem.W.tab_of G.T KX he ht
  have hts : ∀ q ∈ [(c, P)], s₁.heap.IsCode q.1 q.2 #[] ∧ s₁.heap.TableAt q.1 q.2 #[] ∧ (K w.params).lookup q.2 = none := fun q hq => by
    obtain rfl := List.mem_singleton.mp hq
    obtain ⟨o, vs, file, tf, flags, tg, inF, text, tt, h1, h2, h3, h4, h5, h6, h7, h8, h9, h10⟩ := C
    exact ⟨⟨o, vs, file, tf, flags, tg, inF, text, tt, _, h1, h3, h5, h6, h7, h8, h9, hP, rfl, trivial, h10⟩, ⟨⟨o, vs, h1, h2, h3, h4⟩, hP⟩, hnl⟩
  exact law_callT (ts := [(c, P)]) KX G.T.g G.T.b G.T.builtins G.T.nolimit hg G.T.bmain hts hobj hints (Nat.le_trans hlen hn2) hr hF hb (fun H hO hS => hsp _ P H a ns hlen hO hS) fun H e s' => hCX H s₁ e s'
end L2

set_option Elab.async false
set_option linter.all false
set_option maxRecDepth 100000
set_option maxHeartbeats 4000000
namespace Toy
open PySem L2
def top (i : Nat) : Stmt := PySem.Challenge.pw_callchain_k03_fewest_by_all.main.body.getD i (.Pass ⟨0, 0, 0, 0⟩)
abbrev s_is_number : Stmt := top 6
abbrev s_is_person : Stmt := top 7
abbrev s_is_ups : Stmt := top 8
abbrev s_copied : Stmt := top 9
abbrev s_take_ups : Stmt := top 10
abbrev s_rows_of : Stmt := top 12
abbrev s_longest_first : Stmt := top 13
abbrev s_rounds_needed : Stmt := top 14
abbrev s_best_orders : Stmt := top 15
abbrev s_fewest : Stmt := top 20
abbrev s_law_number : Stmt := top 22
abbrev s_law_ups : Stmt := top 23
abbrev s_law_called : Stmt := top 24
abbrev s_law_last : Stmt := top 25
abbrev s_law_turns : Stmt := top 26
abbrev s_law : Stmt := top 27
abbrev s_Fewest_init : Stmt := inClass (top 18) 0
structure Adr where
  f_is_number : Addr
  d_is_number : FuncData
  f_is_person : Addr
  d_is_person : FuncData
  f_is_ups : Addr
  d_is_ups : FuncData
  f_copied : Addr
  d_copied : FuncData
  f_take_ups : Addr
  d_take_ups : FuncData
  f_rows_of : Addr
  d_rows_of : FuncData
  f_longest_first : Addr
  d_longest_first : FuncData
  f_rounds_needed : Addr
  d_rounds_needed : FuncData
  f_best_orders : Addr
  d_best_orders : FuncData
  f_fewest : Addr
  d_fewest : FuncData
  f_law_number : Addr
  d_law_number : FuncData
  f_law_ups : Addr
  d_law_ups : FuncData
  f_law_called : Addr
  d_law_called : FuncData
  f_law_last : Addr
  d_law_last : FuncData
  f_law_turns : Addr
  d_law_turns : FuncData
  f_law : Addr
  d_law : FuncData
  f_Fewest_init : Addr
  d_Fewest_init : FuncData
  C_CallError : Addr
  C_BadUps : Addr
  C_Answer : Addr
  C_Fewest : Addr
  c_longest_first : Addr
  P_longest_first : Addr
  t_MOST_PEOPLE : Tok
structure Txt (K : PySem.W.Frag) (mg : Str → Option Value) (A : Adr) : Prop where
  n_bool : mg "bool" = none
  n_enumerate : mg "enumerate" = none
  n_int : mg "int" = none
  n_isinstance : mg "isinstance" = none
  n_len : mg "len" = none
  n_list : mg "list" = none
  n_max : mg "max" = none
  n_min : mg "min" = none
  n_range : mg "range" = none
  n_reversed : mg "reversed" = none
  n_sorted : mg "sorted" = none
  n_sum : mg "sum" = none
  g_MOST_PEOPLE : mg "MOST_PEOPLE" = some (.int 40 A.t_MOST_PEOPLE)
  f_is_number : Fun K "is_number" "is_number" s_is_number A.f_is_number A.d_is_number
  b_is_number : Binds K A.d_is_number ["thing"] []
  m_is_number : mg "is_number" = some (.ref A.f_is_number)
  k_is_number : PySem.W.keepIn K (.ref A.f_is_number) = true
  f_is_person : Fun K "is_person" "is_person" s_is_person A.f_is_person A.d_is_person
  b_is_person : Binds K A.d_is_person ["thing", "people"] []
  m_is_person : mg "is_person" = some (.ref A.f_is_person)
  k_is_person : PySem.W.keepIn K (.ref A.f_is_person) = true
  f_is_ups : Fun K "is_ups" "is_ups" s_is_ups A.f_is_ups A.d_is_ups
  b_is_ups : Binds K A.d_is_ups ["ups"] []
  m_is_ups : mg "is_ups" = some (.ref A.f_is_ups)
  k_is_ups : PySem.W.keepIn K (.ref A.f_is_ups) = true
  f_copied : Fun K "copied" "copied" s_copied A.f_copied A.d_copied
  b_copied : Binds K A.d_copied ["thing"] []
  m_copied : mg "copied" = some (.ref A.f_copied)
  k_copied : PySem.W.keepIn K (.ref A.f_copied) = true
  f_take_ups : Fun K "take_ups" "take_ups" s_take_ups A.f_take_ups A.d_take_ups
  b_take_ups : Binds K A.d_take_ups ["ups"] []
  m_take_ups : mg "take_ups" = some (.ref A.f_take_ups)
  k_take_ups : PySem.W.keepIn K (.ref A.f_take_ups) = true
  f_rows_of : Fun K "rows_of" "rows_of" s_rows_of A.f_rows_of A.d_rows_of
  b_rows_of : Binds K A.d_rows_of ["ups"] []
  m_rows_of : mg "rows_of" = some (.ref A.f_rows_of)
  k_rows_of : PySem.W.keepIn K (.ref A.f_rows_of) = true
  f_longest_first : Fun K "longest_first" "longest_first" s_longest_first A.f_longest_first A.d_longest_first
  b_longest_first : Binds K A.d_longest_first ["row", "marks"] []
  m_longest_first : mg "longest_first" = some (.ref A.f_longest_first)
  k_longest_first : PySem.W.keepIn K (.ref A.f_longest_first) = true
  f_rounds_needed : Fun K "rounds_needed" "rounds_needed" s_rounds_needed A.f_rounds_needed A.d_rounds_needed
  b_rounds_needed : Binds K A.d_rounds_needed ["row", "marks"] []
  m_rounds_needed : mg "rounds_needed" = some (.ref A.f_rounds_needed)
  k_rounds_needed : PySem.W.keepIn K (.ref A.f_rounds_needed) = true
  f_best_orders : Fun K "best_orders" "best_orders" s_best_orders A.f_best_orders A.d_best_orders
  b_best_orders : Binds K A.d_best_orders ["ups"] []
  m_best_orders : mg "best_orders" = some (.ref A.f_best_orders)
  k_best_orders : PySem.W.keepIn K (.ref A.f_best_orders) = true
  f_fewest : Fun K "fewest" "fewest" s_fewest A.f_fewest A.d_fewest
  b_fewest : Binds K A.d_fewest ["ups"] []
  m_fewest : mg "fewest" = some (.ref A.f_fewest)
  k_fewest : PySem.W.keepIn K (.ref A.f_fewest) = true
  f_law_number : Fun K "_law_number" "_law_number" s_law_number A.f_law_number A.d_law_number
  b_law_number : Binds K A.d_law_number ["_law_cell", "_law_at", "_law_whole"] []
  m_law_number : mg "_law_number" = some (.ref A.f_law_number)
  k_law_number : PySem.W.keepIn K (.ref A.f_law_number) = true
  f_law_ups : Fun K "_law_ups" "_law_ups" s_law_ups A.f_law_ups A.d_law_ups
  b_law_ups : Binds K A.d_law_ups ["_law_script", "_law_by", "_law_most"] []
  m_law_ups : mg "_law_ups" = some (.ref A.f_law_ups)
  k_law_ups : PySem.W.keepIn K (.ref A.f_law_ups) = true
  f_law_called : Fun K "_law_called" "_law_called" s_law_called A.f_law_called A.d_law_called
  b_law_called : Binds K A.d_law_called ["_law_ups_here"] []
  m_law_called : mg "_law_called" = some (.ref A.f_law_called)
  k_law_called : PySem.W.keepIn K (.ref A.f_law_called) = true
  f_law_last : Fun K "_law_last" "_law_last" s_law_last A.f_law_last A.d_law_last
  b_law_last : Binds K A.d_law_last ["_law_orders"] []
  m_law_last : mg "_law_last" = some (.ref A.f_law_last)
  k_law_last : PySem.W.keepIn K (.ref A.f_law_last) = true
  f_law_turns : Fun K "_law_turns" "_law_turns" s_law_turns A.f_law_turns A.d_law_turns
  b_law_turns : Binds K A.d_law_turns ["_law_row"] []
  m_law_turns : mg "_law_turns" = some (.ref A.f_law_turns)
  k_law_turns : PySem.W.keepIn K (.ref A.f_law_turns) = true
  f_law : Fun K "law" "law" s_law A.f_law A.d_law
  b_law : Binds K A.d_law ["_law_script"] []
  m_law : mg "law" = some (.ref A.f_law)
  k_law : PySem.W.keepIn K (.ref A.f_law) = true
  f_Fewest_init : Fun K "__init__" "Fewest.__init__" s_Fewest_init A.f_Fewest_init A.d_Fewest_init
  b_Fewest_init : Binds K A.d_Fewest_init ["self", "orders", "marks"] []
  cl_Fewest : Cls K A.C_Fewest
  k_Fewest : Mk K A.C_Fewest A.f_Fewest_init
  c_Fewest : mg "Fewest" = some (.ref A.C_Fewest)
  na_Fewest_orders : NoAttr K A.C_Fewest "orders"
  na_Fewest_marks : NoAttr K A.C_Fewest "marks"
  cd_longest_first : A.d_longest_first.code = .ref A.c_longest_first
  hd_longest_first : PySem.W.codeHdIn K A.c_longest_first A.P_longest_first = true
  nt_longest_first : K.lookup A.P_longest_first = none
end Toy

set_option Elab.async false
set_option linter.all false
set_option maxRecDepth 100000
set_option maxHeartbeats 4000000
namespace Toy
open PySem L2
theorem kit_int {K : PySem.W.Frag} : PySem.W.kitOne K (.type "int") (.type "int") = some true := by kernel_rfl
theorem kit_int_bool {K : PySem.W.Frag} : PySem.W.kitOne K (.type "int") (.type "bool") = some false := by kernel_rfl
theorem kit_list {K : PySem.W.Frag} : PySem.W.kitOne K (.type "list") (.type "list") = some true := by kernel_rfl
theorem kit_int_list {K : PySem.W.Frag} : PySem.W.kitOne K (.type "int") (.type "list") = some false := by kernel_rfl
section
variable {P : Program} {w : World} {K : PySem.W.Frag} {mg : Str → Option Value} {base : Heap} {A : Adr}
def spNum : Sp := fun vs H Q _ => ∃ i, vs = [.int i] ∧ Q (.bl true) H
theorem sc_is_number : FnScope ["thing"] ["thing"] (defScope s_is_number) := ⟨rfl, rfl, rfl, by decide +kernel, rfl, by decide +kernel, by decide +kernel⟩
theorem ok_is_number (T : Txt K mg A) : FnOk P w K mg base CX0 1 A.f_is_number A.d_is_number ["thing"] spNum := by
  refine T.f_is_number.ok sc_is_number (fun vs H Q E h => ?_) (fun cdv A outer s H vs Q E hr h => ?_)
  · obtain ⟨i, rfl, _⟩ := h
    rfl
  · obtain ⟨i, rfl, k⟩ := h
    refine ⟨_, (pss_one (ps_ret (pe_and (pe_callB (cr_isiK K) (by rfl) T.n_isinstance (by decide +kernel) (pa_cons (pv 0) (pa_cons (pe_bltn (v := .ty "int") (by rfl) T.n_int (by decide +kernel) rfl) pa_nil))) (pe_one (pe_not (pe_callB (cr_isiK K) (by rfl) T.n_isinstance (by decide +kernel) (pa_cons (pv 0) (pa_cons (pe_bltn (v := .ty "bool") (by rfl) T.n_bool (by decide +kernel) rfl) pa_nil)))))))), ?_⟩
    refine ⟨_, rfl, .int i, .ty "int", _, true, rfl, .int i, (fun u hu => ?_), true, rfl, ?_⟩
    · cases hu
      exact kit_int
    · refine iteT ⟨_, rfl, .int i, .ty "bool", _, false, rfl, .int i, (fun u hu => ?_), false, rfl, ?_⟩
      · cases hu
        exact kit_int_bool
      · exact k
def spPer : Sp := fun vs H Q _ => ∃ i n, vs = [.int i, .int n] ∧ Q (.bl (decide (0 ≤ i ∧ i < n))) H
theorem sc_is_person : FnScope ["thing", "people"] ["thing", "people"] (defScope s_is_person) := ⟨rfl, rfl, rfl, by decide +kernel, rfl, by decide +kernel, by decide +kernel⟩
theorem ok_is_person (T : Txt K mg A) : FnOk P w K mg base CX0 2 A.f_is_person A.d_is_person ["thing", "people"] spPer := by
  have G_is_number := ok_is_number (P := P) (w := w) (base := base) T
  refine T.f_is_person.ok sc_is_person (fun vs H Q E h => ?_) (fun cdv A outer s H vs Q E hr h => ?_)
  · obtain ⟨i, n, rfl, _⟩ := h
    rfl
  · obtain ⟨i, n, rfl, k⟩ := h
    refine ⟨_, (pss_one (ps_ret (pe_and (pe_call G_is_number (hr.mono (by decide)) (by rfl) T.m_is_number T.k_is_number T.b_is_number .nil pass0 (pa_cons (pv 0) pa_nil)) (pe_one (pe_chain op_le op_lt pe_int (pv 0) (pv 1)))))), ?_⟩
    refine ⟨_, rfl, i, rfl, true, rfl, iteT ?_⟩
    refine ⟨_, rfl, 0, i, rfl, rfl, _, rfl, ?_⟩
    refine ite2 (fun h0 => ?_) (fun h0 => ?_)
    · refine ⟨_, rfl, i, n, rfl, rfl, ?_⟩
      have h0 : 0 ≤ i := of_decide_eq_true h0
      have e : decide (0 ≤ i ∧ i < n) = decide (i < n) := by simp [h0]
      rw [e] at k
      exact k
    · have h0 : ¬ 0 ≤ i := fun z => h0 (decide_eq_true z)
      have e : decide (0 ≤ i ∧ i < n) = false := by simp [h0]
      rw [e] at k
      exact k
theorem kitL {K : PySem.W.Frag} {u : Value} (h : RelV (.ty "list") u) : PySem.W.kitOne K (.type "list") u = some true := by
  cases h
  exact kit_list
theorem kitIL {K : PySem.W.Frag} {u : Value} (h : RelV (.ty "list") u) : PySem.W.kitOne K (.type "int") u = some false := by
  cases h
  exact kit_int_list
def GoodUps (us : List Int) : Prop := us.length ≤ 39 ∧ ∀ (j : Nat) (u : Int), us[j]? = some u → 0 ≤ u ∧ u ≤ j
def spUps : Sp := fun vs H Q _ => ∃ a us, vs = [.ref a] ∧ H a = some (.lst (us.map V.int)) ∧ GoodUps us ∧ ∀ H', Same H H' → Q (.bl true) H'
theorem sc_is_ups : FnScope ["ups", "person", "up"] ["ups"] (defScope s_is_ups) := ⟨rfl, rfl, rfl, by decide +kernel, rfl, by decide +kernel, by decide +kernel⟩
theorem ok_is_ups (T : Txt K mg A) : FnOk P w K mg base CX0 3 A.f_is_ups A.d_is_ups ["ups"] spUps := by
  have G_is_person := ok_is_person (P := P) (w := w) (base := base) T
  refine T.f_is_ups.ok sc_is_ups (fun vs H Q E h => ?_) (fun cdv A outer s H vs Q E hr h => ?_)
  · obtain ⟨a, us, rfl, _⟩ := h
    rfl
  · obtain ⟨a, us, rfl, hH, ⟨hl, hg⟩, k⟩ := h
    refine ⟨_, (pss_cons (ps_if (PW.pt (pw_or (pt_not (pt_val (pe_callB (cr_isiK K) (by rfl) T.n_isinstance (by decide +kernel) (pa_cons (pv 0) (pa_cons (pe_bltn (v := .ty "list") (by rfl) T.n_list (by decide +kernel) rfl) pa_nil))))) (pw_or1 (pt_cmpR op_gt (pe_op op_add (pe_callB (call_len_seqK K) (by rfl) T.n_len PySem.boot_len (pa_cons (pv 0) pa_nil)) pe_int) (pe_glob (v := .int 40) (by rfl) T.g_MOST_PEOPLE ⟨_, rfl⟩) (nomark _))))) (pss_one (ps_ret pe_bl)) pss_nil)
      (pss_cons (ps_for PassesOwn.never rfl (pi_enum1K K (by rfl) T.n_enumerate (pa_cons (pv 0) pa_nil)) (pg_tupK K (n := 2) (by rfl) (pgs_cons (pg_name (i := 1) sc_is_ups.nd rfl (Or.inl rfl)) (pgs_cons (pg_name (i := 2) sc_is_ups.nd rfl (Or.inl rfl)) pgs_nil))) (pss_one (ps_if (pt_not (pt_val (pe_call G_is_person (hr.mono (by decide)) (by rfl) T.m_is_person T.k_is_person T.b_is_person .nil pass0 (pa_cons (pv 2) (pa_cons (pv 1) pa_nil))))) (pss_one (ps_ret pe_bl)) pss_nil)))
      (pss_one (ps_ret pe_bl)))), ?_⟩
    refine ⟨_, rfl, .ref a, .ty "list", _, true, rfl, .lst hH, (fun u hu => kitL hu), true, rfl, iteF ?_⟩
    refine ⟨_, rfl, a, us.map V.int, rfl, .inl (SqL.of hH), _, _, rfl, rfl, _, _, rfl, rfl, _, rfl, ?_⟩
    refine ite2 (fun h0 => ?_) (fun _ => ?_)
    · have h0 := of_decide_eq_true h0
      rw [List.length_map] at h0
      omega
    · refine ⟨_, rfl, a, us.map V.int, rfl, SqL.of hH, for_enum1 (K := K) (a := a) (xs := us.map V.int) (fun i σ H2 => ∃ x y, σ = [some (.ref a), x, y] ∧ Same H H2) ⟨none, none, rfl, Same.refl H⟩ (fun i σ H2 _ ⟨_, _, _, s2⟩ => SqL.of (s2 _ _ hH)) ?_ ?_⟩
      · rintro i x t σ H2 hi ⟨x0, y0, rfl, s2⟩ ht
        obtain ⟨u, hu, rfl⟩ := map_int_get hi
        refine ⟨t, _, rfl, SqT.of upd_same, rfl, _, _, rfl, _, _, rfl, rfl, ?_⟩
        refine ⟨_, rfl, _, rfl, u, (i : Int) + 1, rfl, _, rfl, ?_⟩
        have hb : decide (0 ≤ u ∧ u < (i : Int) + 1) = true := by
          have q := hg i u hu
          exact decide_eq_true ⟨q.1, by omega⟩
        rw [hb]
        exact iteF ⟨_, _, rfl, s2.upd (s2.free ht)⟩
      · rintro σ H2 ⟨x0, y0, rfl, s2⟩
        exact k H2 s2
def spTake : Sp := fun vs H Q _ => ∃ a us, vs = [.ref a] ∧ H a = some (.lst (us.map V.int)) ∧ GoodUps us ∧ ∀ b H', Same H H' → H b = none → H' b = some (.lst (us.map V.int)) → Q (.ref b) H'
theorem sc_take_ups : FnScope ["ups"] ["ups"] (defScope s_take_ups) := ⟨rfl, rfl, rfl, by decide +kernel, rfl, by decide +kernel, by decide +kernel⟩
theorem ok_take_ups (T : Txt K mg A) : FnOk P w K mg base CX0 4 A.f_take_ups A.d_take_ups ["ups"] spTake := by
  have G_is_ups := ok_is_ups (P := P) (w := w) (base := base) T
  refine T.f_take_ups.ok sc_take_ups (fun vs H Q E h => ?_) (fun cdv A outer s H vs Q E hr h => ?_)
  · obtain ⟨a, us, rfl, _⟩ := h
    rfl
  · obtain ⟨a, us, rfl, hH, hg, k⟩ := h
    refine ⟨_, (pss_cons (ps_if (pt_not (pt_val (pe_call G_is_ups (hr.mono (by decide)) (by rfl) T.m_is_ups T.k_is_ups T.b_is_ups .nil pass0 (pa_cons (pv 0) pa_nil)))) (pss_one ps_never) pss_nil)
      (pss_one (ps_ret (pe_callTy (call_list_ofK K) (by rfl) T.n_list (by decide +kernel) (pa_cons (pv 0) pa_nil))))), ?_⟩
    refine ⟨_, rfl, a, us, rfl, hH, hg, fun H1 s1 => ⟨true, rfl, iteF ?_⟩⟩
    refine ⟨_, rfl, a, _, rfl, .inl (SqL.of (s1 _ _ hH)), fun l hl => ?_⟩
    exact k l _ (s1.upd (s1.free hl)) (s1.free hl) upd_same
def spCopyI : Sp := fun vs H Q _ => ∃ (a : Addr) (ns : List Int), vs = [.ref a] ∧ H a = some (.lst (ns.map V.int)) ∧ ns.length < 1000 ∧ ∀ b H', Same H H' → H b = none → H' b = some (.lst (ns.map V.int)) → Q (.ref b) H'
theorem sc_copied : FnScope ["thing", "part"] ["thing"] (defScope s_copied) := ⟨rfl, rfl, rfl, by decide +kernel, rfl, by decide +kernel, by decide +kernel⟩
theorem snoc_take {ns : List Int} {i : Nat} {n : Int} (h : ns[i]? = some n) : (ns.take i).map V.int ++ [V.int n] = (ns.take (i + 1)).map V.int := by
  rw [List.take_add_one, h, List.map_append]
  rfl
theorem ok_copiedI (T : Txt K mg A) : FnOk P w K mg base CX0 1 A.f_copied A.d_copied ["thing"] spCopyI := by
  refine T.f_copied.ok sc_copied (fun vs H Q E h => ?_) (fun cdv A outer s H vs Q E hr h => ?_)
  · obtain ⟨a, us, rfl, _⟩ := h
    rfl
  · obtain ⟨a, ns, rfl, hH, hl, k⟩ := h
    refine ⟨_, (pss_cons (ps_if (pt_not (pt_val (pe_callB (cr_isiK K) (by rfl) T.n_isinstance (by decide +kernel) (pa_cons (pv 0) (pa_cons (pe_bltn (v := .ty "list") (by rfl) T.n_list (by decide +kernel) rfl) pa_nil))))) (pss_one (ps_ret (pv 0))) pss_nil)
      (pss_one (ps_ret (pe_lc (own := [("part", 1)]) rfl sc_copied.nd (pi_listK K (pv 0)) (blkOk_by (own := [("part", 1)]) (by kernel_rfl)) (fun _ _ _ _ _ => (pg_name (i := 1) sc_copied.nd rfl (Or.inl rfl))) (fun _ _ _ _ _ => pts_nil) (fun _ _ _ _ _ => (pe_ifExp (pt_val (pe_callB (cr_isiK K) (by rfl) T.n_isinstance (by decide +kernel) (pa_cons (pv 1) (pa_cons (pe_bltn (v := .ty "list") (by rfl) T.n_list (by decide +kernel) rfl) pa_nil)))) (pe_callTy (call_list_ofK K) (by rfl) T.n_list (by decide +kernel) (pa_cons (pv 1) pa_nil)) (pv 1))))))), ?_⟩
    refine ⟨_, rfl, .ref a, .ty "list", _, true, rfl, .lst hH, (fun u hu => kitL hu), true, rfl, iteF ?_⟩
    refine ⟨_, rfl, a, rfl, ⟨_, SqL.of hH⟩, fun D hD => ?_⟩
    refine lc_list (K := K) (a := a) (xs := ns.map V.int) (fun i H2 => Same H H2 ∧ H2 D = some (.lst ((ns.take i).map V.int))) ⟨Same.new hD, by rw [upd_same]; rfl⟩ (fun i H2 _ ⟨s2, _⟩ => SqL.of (s2 _ _ hH)) ?_ ?_
    · rintro i x H2 hi ⟨s2, hd⟩
      obtain ⟨n, hn, rfl⟩ := map_int_get hi
      refine ⟨rfl, yesT ?_⟩
      refine ⟨_, rfl, .int n, .ty "list", _, false, rfl, .int n, (fun u hu => kitIL hu), false, rfl, iteF ?_⟩
      refine ⟨_, rfl, _, hd, ?_, s2.upd hD, ?_⟩
      · rw [List.length_map, List.length_take]
        exact small1000 (by omega)
      · rw [upd_same, snoc_take hn]
    · rintro H2 ⟨s2, hd⟩
      rw [List.length_map, List.take_length] at hd
      exact k D H2 s2 hD hd
end
end Toy

set_option Elab.async false
set_option linter.all false
set_option maxRecDepth 100000
set_option maxHeartbeats 4000000
namespace Toy
open PySem L2
def rowOf (us : List Int) (p : Int) : List Int := (us.zipIdx.filter fun q => q.1 == p).map fun q => (q.2 : Int) + 1
theorem rowOf_snoc (us : List Int) (u p : Int) : rowOf (us ++ [u]) p = rowOf us p ++ (if u = p then [(us.length : Int) + 1] else []) := by
  unfold rowOf
  rw [List.zipIdx_append, List.filter_append, List.map_append]
  congr 1
  by_cases h : u = p
  · simp [h]
  · simp [h]
theorem rowOf_length (us : List Int) (p : Int) : (rowOf us p).length ≤ us.length := by
  unfold rowOf
  rw [List.length_map]
  exact Nat.le_trans (List.length_filter_le _ _) (by simp)
def LL (H : Hp) (rs : List Addr) (oss : List (List Int)) : Prop := rs.length = oss.length ∧ ∀ (p : Nat) (r : Addr) (os : List Int), rs[p]? = some r → oss[p]? = some os → H r = some (.lst (os.map V.int))
theorem LL.mono {H H' : Hp} {rs : List Addr} {oss : List (List Int)} (h : LL H rs oss) (s : Same H H') : LL H' rs oss := ⟨h.1, fun p r os a b => s _ _ (h.2 p r os a b)⟩
def rowsOf (us : List Int) : List (List Int) := (List.range (us.length + 1)).map fun (p : Nat) => rowOf us (p : Int)
theorem take_snoc {α : Type} {xs : List α} {i : Nat} {x : α} (h : xs[i]? = some x) : xs.take (i + 1) = xs.take i ++ [x] := by
  rw [List.take_add_one, h]
  rfl
section
variable {P : Program} {w : World} {K : PySem.W.Frag} {mg : Str → Option Value} {base : Heap} {A : Adr}
def spRows : Sp := fun vs H Q _ => ∃ (a : Addr) (us : List Int), vs = [.ref a] ∧ H a = some (.lst (us.map V.int)) ∧ GoodUps us ∧
  ∀ (b : Addr) (rs : List Addr) (H' : Hp), Same H H' → H b = none → H' b = some (.lst (rs.map V.ref)) → LL H' rs (rowsOf us) → (∀ r ∈ rs, H r = none ∧ r ≠ b) → rs.Nodup → Q (.ref b) H'
theorem sc_rows_of : FnScope ["ups", "rows", "person", "up"] ["ups"] (defScope s_rows_of) := ⟨rfl, rfl, rfl, by decide +kernel, rfl, by decide +kernel, by decide +kernel⟩
theorem ok_rows_of (T : Txt K mg A) : FnOk P w K mg base CX0 1 A.f_rows_of A.d_rows_of ["ups"] spRows := by
  refine T.f_rows_of.ok sc_rows_of (fun vs H Q E h => ?_) (fun cdv A outer s H vs Q E hr h => ?_)
  · obtain ⟨a, us, rfl, _⟩ := h
    rfl
  · obtain ⟨a, us, rfl, hH, ⟨hl, hg⟩, k⟩ := h
    refine ⟨_, (pss_cons (ps_setLc (i := 1) (own := [("person", 2)]) rfl sc_rows_of.nd rfl rfl (sw_true rfl rfl rfl (by decide +kernel)) (pi_range1 (by rfl) T.n_range (pa_cons (pe_op op_add (pe_callB (call_len_seqK K) (by rfl) T.n_len PySem.boot_len (pa_cons (pv 0) pa_nil)) pe_int) pa_nil)) (blkOk_by (own := [("person", 2)]) (by kernel_rfl)) (fun _ _ _ _ _ => (pg_name (i := 2) sc_rows_of.nd rfl (Or.inl rfl))) (fun _ _ _ _ _ => pts_nil) (fun _ _ _ _ _ => (pe_lst pa_nil)))
      (pss_cons (ps_for PassesOwn.never rfl (pi_enum1K K (by rfl) T.n_enumerate (pa_cons (pv 0) pa_nil)) (pg_tupK K (n := 2) (by rfl) (pgs_cons (pg_name (i := 2) sc_rows_of.nd rfl (Or.inl rfl)) (pgs_cons (pg_name (i := 3) sc_rows_of.nd rfl (Or.inl rfl)) pgs_nil))) (pss_one (ps_expr (pe_bmK K PySem.F.plainAttrs_list PySem.F.slot_list_append PySem.F.type_list_append mt_append (pe_ix (ix_listK K) (pv 1) (pv 3) (fun _ _ => rfl)) (pa_cons (pv 2) pa_nil)))))
      (pss_one (ps_ret (pv 1))))), ?_⟩
    refine ⟨_, rfl, a, us.map V.int, rfl, .inl (SqL.of hH), _, _, rfl, rfl, _, rfl, ?_, ?_, fun D hD => ?_⟩
    · rw [List.length_map]
      omega
    · rw [List.length_map]
      omega
    have hn : ((((us.map V.int).length : Nat) : Int) + 1).toNat = us.length + 1 := by
      rw [List.length_map]
      omega
    rw [hn]
    refine lc_range (lo := 0) (n := us.length + 1) (fun i H2 => ∃ rs : List Addr, rs.length = i ∧ H2 D = some (.lst (rs.map V.ref)) ∧ (∀ r ∈ rs, H r = none ∧ r ≠ D ∧ H2 r = some (.lst [])) ∧ rs.Nodup ∧ Same H H2) ⟨[], rfl, upd_same, by simp, List.nodup_nil, Same.new hD⟩ ?_ ?_
    · rintro i H2 hi ⟨rs, hlen, hd, hrs, hnd, s2⟩
      refine ⟨rfl, yesT ?_⟩
      refine ⟨(by show 0 ≤ _; exact Nat.zero_le _), fun q hq => ⟨rs.map V.ref, ?_, ?_, rs ++ [q], ?_, ?_, ?_, ?_, ?_⟩⟩
      · rw [upd_ne (ne_of_none hd hq)]
        exact hd
      · rw [List.length_map]
        exact small1000 (by omega)
      · rw [List.length_append, hlen]
        rfl
      · rw [upd_same, List.map_append]
        rfl
      · intro r hr'
        rcases List.mem_append.mp hr' with h1 | h1
        · obtain ⟨a1, a2, a3⟩ := hrs r h1
          refine ⟨a1, a2, ?_⟩
          rw [upd_ne a2, upd_ne (ne_of_none a3 hq)]
          exact a3
        · obtain rfl := List.mem_singleton.mp h1
          have n1 : r ≠ D := Ne.symm (ne_of_none hd hq)
          exact ⟨s2.free hq, n1, by rw [upd_ne n1, upd_same]⟩
      · refine nd_snoc hnd fun h1 => ?_
        rw [(hrs q h1).2.2] at hq
        cases hq
      · exact (s2.upd (s2.free hq)).upd hD
    · rintro H2 ⟨rs, hlen, hd, hrs, hnd, s2⟩
      refine ⟨_, rfl, a, us.map V.int, rfl, SqL.of (s2 _ _ hH), for_enum1 (K := K) (a := a) (xs := us.map V.int)
        (fun i σ H3 => ∃ x y, σ = [some (.ref a), some (.ref D), x, y] ∧ Same H H3 ∧ H3 D = some (.lst (rs.map V.ref)) ∧ ∀ (p : Nat) (r : Addr), rs[p]? = some r → H3 r = some (.lst ((rowOf (us.take i) (p : Int)).map V.int)))
        ⟨none, none, rfl, s2, hd, fun p r hp => (hrs r (List.mem_of_getElem? hp)).2.2⟩ (fun i σ H3 _ ⟨_, _, _, s3, _⟩ => SqL.of (s3 _ _ hH)) ?_ ?_⟩
      · rintro i x t σ H3 hi ⟨x0, y0, rfl, s3, hd3, hr3⟩ ht
        obtain ⟨u, hu, rfl⟩ := map_int_get hi
        have hub := hg i u hu
        have hil : i < us.length := (List.getElem?_eq_some_iff.mp hu).1
        obtain ⟨r, hr0⟩ : ∃ r, rs[u.toNat]? = some r := ⟨_, List.getElem?_eq_getElem (by omega)⟩
        have nt : ∀ {b o}, H3 b = some o → b ≠ t := fun {b o} e => ne_of_none e ht
        have hrr := hr3 _ _ hr0
        refine ⟨t, _, rfl, SqT.of upd_same, rfl, _, _, rfl, _, _, rfl, rfl, ?_⟩
        refine ⟨_, rfl, _, rfl, D, rs.map V.ref, u, .ref r, rfl, rfl, SqL.of (by rw [upd_ne (nt hd3)]; exact hd3), at_of (j := u.toNat) (by omega) (by rw [List.getElem?_map, hr0]; rfl), ?_⟩
        refine ⟨.inl ⟨rfl, _, SqL.of (by rw [upd_ne (nt hrr)]; exact hrr)⟩, _, rfl, r, _, _, rfl, rfl, (by rw [upd_ne (nt hrr)]; exact hrr), ?_, ?_⟩
        · rw [List.length_map]
          have := rowOf_length (us.take i) ((u.toNat : Nat) : Int)
          rw [List.length_take] at this
          exact small1000 (by omega)
        · have hrD : r ≠ D := (hrs r (List.mem_of_getElem? hr0)).2.1
          have hHr : H r = none := (hrs r (List.mem_of_getElem? hr0)).1
          refine ⟨_, _, rfl, (s3.upd (s3.free ht)).upd hHr, ?_, fun p r' hp => ?_⟩
          · rw [upd_ne (Ne.symm hrD), upd_ne (nt hd3)]
            exact hd3
          · have elen : (us.take i).length = i := by
              rw [List.length_take]
              omega
            rw [take_snoc hu, rowOf_snoc, elen]
            by_cases hpu : p = u.toNat
            · subst hpu
              rw [hr0] at hp
              cases hp
              have e : u = ((u.toNat : Nat) : Int) := by omega
              rw [upd_same, if_pos e, List.map_append]
              rfl
            · have hne : r' ≠ r := fun z => hpu (nd_ix hnd hp (by rw [z]; exact hr0))
              have e : ¬ u = ((p : Nat) : Int) := fun z => hpu (by omega)
              rw [upd_ne hne, upd_ne (nt (hr3 p r' hp)), if_neg e, List.append_nil]
              exact hr3 p r' hp
      · rintro σ H3 ⟨x0, y0, rfl, s3, hd3, hr3⟩
        refine ⟨_, rfl, ?_⟩
        rw [List.length_map, List.take_length] at hr3
        refine k D rs H3 s3 hD hd3 ⟨?_, fun p r os hp ho => ?_⟩ (fun r hr' => ⟨(hrs r hr').1, (hrs r hr').2.1⟩) hnd
        · rw [hlen]
          unfold rowsOf
          simp
        · have hp' := hr3 p r hp
          unfold rowsOf at ho
          rw [List.getElem?_map] at ho
          cases e : (List.range (us.length + 1))[p]? with
          | none =>
            rw [e] at ho
            cases ho
          | some z =>
            rw [e] at ho
            have ez : z = p := by
              have := (List.getElem?_eq_some_iff.mp e).2
              simpa using this.symm
            subst ez
            have ho : rowOf us (z : Int) = os := by simpa using ho
            rw [← ho]
            exact hp'
end
end Toy

set_option Elab.async false
set_option linter.all false
set_option maxRecDepth 100000
set_option maxHeartbeats 4000000
namespace Toy
open PySem L2
theorem funC {K : PySem.W.Frag} {x qual : Str} {st : Stmt} {f : Addr} {fd : FuncData} (F : Fun K x qual st f fd) {c : Addr} (hc : fd.code = .ref c) {P : Program} {w : World} {mg : Str → Option Value} {base : Heap} {N ps : List Str} {k : Nat} {sp : Sp} (S : FnScope N ps (defScope st)) (len : ∀ vs H Q E, sp vs H Q E → vs.length = ps.length)
    (hbody : ∀ (A : Around) (outer : List Env) (s : Shared) (H : Hp) (vs : List V) (Q : VK) (E : XK), Room k (A.deeper (PyProof.Rows.envOfC qual (defScope st) s.heap.objs.size f (.ref c))) → sp vs H Q E →
      ∃ t, PSs (cxOf CX0 P w K mg base N qual (defScope st) f (.ref c) A outer s H E).nox (defBody st) t ∧ t { nx := fun _ H' => Q .non H', rt := Q } (L2.start N vs) H) : FnOk P w K mg base CX0 (k + 1) f fd ps sp := by
  obtain ⟨oc, od, kV, doc, pm, an, cdv, ct, osl, rfl, lk, hcd⟩ := F.ex
  have hc : cdv = .ref c := hc
  subst hc
  refine fn_of lk hcd S len fun A outer s H vs Q E hr hsp => ?_
  obtain ⟨t, h, q⟩ := hbody A outer s H vs Q E hr hsp
  exact ⟨t, h.nox, q⟩
def at0 (ms : List Int) (c : Int) : Int := ms.getD c.toNat 0
def Falls (ms cs cs' : List Int) : Prop := cs'.Perm cs ∧ cs'.Pairwise fun c d => at0 ms d ≤ at0 ms c
theorem byKey_falls {ms cs : List Int} {ys : List V} (h : ByKey (cs.map fun c => -at0 ms c) (cs.map V.int) ys) : ∃ cs', ys = cs'.map V.int ∧ Falls ms cs cs' := by
  obtain ⟨ps, hp, rfl, hs⟩ := h
  have key : ∀ q ∈ (cs.map fun c => -at0 ms c).zip (cs.map V.int), ∃ c, q = (-at0 ms c, V.int c) := by
    intro q hq
    rw [List.zip_map'] at hq
    obtain ⟨c, _, rfl⟩ := List.mem_map.mp hq
    exact ⟨c, rfl⟩
  obtain ⟨cs', rfl⟩ : ∃ cs' : List Int, ps = cs'.map fun c => (-at0 ms c, V.int c) := by
    have all : ∀ q ∈ ps, ∃ c, q = (-at0 ms c, V.int c) := fun q hq => key q (hp.mem_iff.mp hq)
    clear hp hs key
    induction ps with
    | nil => exact ⟨[], rfl⟩
    | cons q r ih =>
      obtain ⟨c, rfl⟩ := all q List.mem_cons_self
      obtain ⟨r', e⟩ := ih fun z hz => all z (List.mem_cons_of_mem _ hz)
      exact ⟨c :: r', by rw [e]; rfl⟩
  refine ⟨cs', by rw [List.map_map]; rfl, ?_, ?_⟩
  · have h2 := hp.map fun q : Int × V => match q.2 with | .int c => c | _ => 0
    rw [List.zip_map', List.map_map, List.map_map] at h2
    simpa [Function.comp_def] using h2
  · rw [List.map_map, List.pairwise_map] at hs
    exact hs.imp fun {c d} z => by
      have z : -at0 ms c ≤ -at0 ms d := z
      omega
section
variable {P : Program} {w : World} {K : PySem.W.Frag} {mg : Str → Option Value} {base : Heap} {A : Adr}
abbrev lamQ : Str := "longest_first.<locals>.<lambda>"
structure Gr (Pt : Addr) (H H' : Hp) : Prop where
  but : ButT Pt H H'
  tab : TabOk H' Pt lamQ
theorem tab_same {H H' : Hp} {Pt : Addr} {q : Str} (T : TabOk H Pt q) (s : Same H H') : TabOk H' Pt q := by
  obtain ⟨ts, e, k⟩ := T
  exact ⟨ts, s _ _ e, fun t ht => s _ _ (k t ht)⟩
theorem Gr.of {H H' : Hp} {Pt : Addr} (T : TabOk H Pt lamQ) (s : Same H H') : Gr Pt H H' := ⟨fun b o e _ => s b o e, tab_same T s⟩
theorem Gr.trans {H H1 H2 : Hp} {Pt : Addr} (a : Gr Pt H H1) (b : Gr Pt H1 H2) : Gr Pt H H2 := ⟨fun c o e n => b.but c o (a.but c o e n) n, b.tab⟩
theorem Gr.upd {H H1 : Hp} {Pt a : Addr} {o : HO} (g : Gr Pt H H1) (h : H a = none) (h1 : H1 a = none) : Gr Pt H (L2.upd H1 a o) := ⟨fun c u e n => by rw [upd_ne (ne_of_none e h)]; exact g.but c u e n, g.tab.laid h1⟩
theorem tab_ne {H : Hp} {Pt b : Addr} {o : HO} (T : TabOk H Pt lamQ) (e : H b = some o) (ho : ∀ ps, o ≠ .tbl ps) : b ≠ Pt := by
  obtain ⟨ts, q, _⟩ := T
  rintro rfl
  rw [q] at e
  cases e
  exact ho _ rfl
theorem Gr.get {H H' : Hp} {Pt b : Addr} {xs : List V} (g : Gr Pt H H') (T : TabOk H Pt lamQ) (e : H b = some (.lst xs)) : H' b = some (.lst xs) := g.but _ _ e (tab_ne T e fun _ z => nomatch z)
theorem Gr.free {H H' : Hp} {Pt b : Addr} (g : Gr Pt H H') (T : TabOk H Pt lamQ) (e : H' b = none) : H b = none := by
  cases q : H b with
  | none => rfl
  | some o =>
    by_cases hb : b = Pt
    · obtain ⟨ts, z, _⟩ := g.tab
      rw [hb] at e
      rw [e] at z
      cases z
    · rw [g.but b o q hb] at e
      cases e
def spLong (Pt : Addr) : Sp := fun vs H Q _ => ∃ (r m : Addr) (cs ms : List Int), vs = [.ref r, .ref m] ∧ H r = some (.lst (cs.map V.int)) ∧ H m = some (.lst (ms.map V.int)) ∧ cs.length < 64 ∧ (∀ c ∈ cs, 0 ≤ c ∧ c.toNat < ms.length) ∧ TabOk H Pt lamQ ∧
  ∀ (b : Addr) (cs' : List Int) (H' : Hp), Gr Pt H H' → H b = none → H' b = some (.lst (cs'.map V.int)) → Falls ms cs cs' → Q (.ref b) H'
theorem sc_longest_first : FnScope ["row", "marks", "called"] ["row", "marks"] (defScope s_longest_first) := ⟨rfl, rfl, rfl, by decide +kernel, rfl, by decide +kernel, by decide +kernel⟩
theorem ok_longest_first (T : Txt K mg A) (hk : K.In base) (B : BmOk mg base) : FnOk P w K mg base CX0 4 A.f_longest_first A.d_longest_first ["row", "marks"] (spLong A.P_longest_first) := by
  have C : PySem.W.CodeHd base A.c_longest_first A.P_longest_first := PySem.W.codeHd_of_K hk T.hd_longest_first
  refine funC T.f_longest_first T.cd_longest_first sc_longest_first (fun vs H Q E h => ?_) (fun A' outer s H vs Q E hr h => ?_)
  · obtain ⟨r, m, cs, ms, rfl, _⟩ := h
    rfl
  · obtain ⟨r, m, cs, ms, rfl, h1, h2, h64, hix, hT, k⟩ := h
    refine ⟨_, (pss_one (ps_ret (pe_sortK (i := 2) B rfl C rfl sc_longest_first.nd (hr.mono (by decide)) (by rfl) T.n_sorted (lamOk_by (by kernel_rfl)) (pv 0) rfl rfl (fun _ _ _ _ _ => rfl) (fun _ _ _ _ _ _ => (pe_un un_neg (pe_ix (ix_listK K) (pv 1) (pv 2) (fun _ _ => rfl))))))), ?_⟩
    refine ⟨_, rfl, r, cs.map V.int, cs.map (fun c => -at0 ms c), rfl, SqL.of h1, by simpa using h64, by simp, hT, fun H2 T2 B2 => ⟨fun j v k' hv hk' => ?_, fun b ys hb hy hl => ?_⟩⟩
    · obtain ⟨c, hc, rfl⟩ := map_int_get hv
      rw [List.getElem?_map, hc] at hk'
      cases hk'
      have hcb := hix c (List.mem_of_getElem? hc)
      have g : Gr A.P_longest_first H H2 := ⟨B2, T2⟩
      refine ⟨_, rfl, _, rfl, m, ms.map V.int, c, .int (at0 ms c), rfl, rfl, SqL.of (g.get hT h2), at_of (j := c.toNat) (by omega) ?_, at0 ms c, rfl, rfl, rfl⟩
      rw [List.getElem?_map, List.getElem?_eq_getElem hcb.2]
      unfold at0
      rw [List.getD_eq_getElem?_getD, List.getElem?_eq_getElem hcb.2]
      rfl
    · have g : Gr A.P_longest_first H H2 := ⟨B2, T2⟩
      obtain ⟨cs', rfl, hf⟩ := byKey_falls hy
      exact k b cs' _ (g.upd (g.free hT hb) hb) (g.free hT hb) upd_same hf
def vals (ms row : List Int) : List Int := row.zipIdx.map fun q => (q.2 : Int) + 1 + at0 ms q.1
def IsNeed (ms row : List Int) (m : Int) : Prop := (row = [] ∧ m = 0) ∨ (m ∈ vals ms row ∧ ∀ y ∈ vals ms row, y ≤ m)
theorem vals_snoc (ms row : List Int) (c : Int) : vals ms (row ++ [c]) = vals ms row ++ [(row.length : Int) + 1 + at0 ms c] := by
  unfold vals
  rw [List.zipIdx_append, List.map_append]
  simp
theorem vals_length (ms row : List Int) : (vals ms row).length = row.length := by
  unfold vals
  simp
def spNeed : Sp := fun vs H Q _ => ∃ (r m : Addr) (cs ms : List Int), vs = [.ref r, .ref m] ∧ H r = some (.lst (cs.map V.int)) ∧ H m = some (.lst (ms.map V.int)) ∧ cs.length < 64 ∧ (∀ c ∈ cs, 0 ≤ c ∧ c.toNat < ms.length) ∧
  ∀ (n : Int) (H' : Hp), Same H H' → IsNeed ms cs n → Q (.int n) H'
theorem sc_rounds_needed : FnScope ["row", "marks", "at", "called"] ["row", "marks"] (defScope s_rounds_needed) := ⟨rfl, rfl, rfl, by decide +kernel, rfl, by decide +kernel, by decide +kernel⟩
theorem ok_rounds_needed (T : Txt K mg A) : FnOk P w K mg base CX0 1 A.f_rounds_needed A.d_rounds_needed ["row", "marks"] spNeed := by
  refine T.f_rounds_needed.ok sc_rounds_needed (fun vs H Q E h => ?_) (fun cdv A outer s H vs Q E hr h => ?_)
  · obtain ⟨r, m, cs, ms, rfl, _⟩ := h
    rfl
  · obtain ⟨r, m, cs, ms, rfl, h1, h2, h64, hix, k⟩ := h
    refine ⟨_, (pss_one (ps_ret (pe_callBK (ck_maxK K rfl) (by rfl) T.n_max (by decide +kernel) (pa_cons (pe_lc (own := [("at", 2), ("called", 3)]) rfl sc_rounds_needed.nd (pi_enum1K K (by rfl) T.n_enumerate (pa_cons (pv 0) pa_nil)) (blkOk_by (own := [("at", 2), ("called", 3)]) (by kernel_rfl)) (fun _ _ _ _ _ => (pg_tupK K (n := 2) (by rfl) (pgs_cons (pg_name (i := 2) sc_rounds_needed.nd rfl (Or.inl rfl)) (pgs_cons (pg_name (i := 3) sc_rounds_needed.nd rfl (Or.inl rfl)) pgs_nil)))) (fun _ _ _ _ _ => pts_nil) (fun _ _ _ _ _ => (pe_op op_add (pv 2) (pe_ix (ix_listK K) (pv 1) (pv 3) (fun _ _ => rfl))))) pa_nil) (pk_cons pe_int pk_nil)))), ?_⟩
    refine ⟨_, rfl, r, cs.map V.int, rfl, SqL.of h1, fun D hD => ?_⟩
    refine lc_enum1 (K := K) (a := r) (xs := cs.map V.int) (fun i H2 => Same H H2 ∧ H2 D = some (.lst ((vals ms (cs.take i)).map V.int))) ⟨Same.new hD, by rw [upd_same]; rfl⟩ (fun i H2 _ ⟨s2, _⟩ => SqL.of (s2 _ _ h1)) ?_ ?_
    · rintro i x t H2 hi ⟨s2, hd⟩ ht
      obtain ⟨c, hc, rfl⟩ := map_int_get hi
      have hcb := hix c (List.mem_of_getElem? hc)
      have hil : i < cs.length := (List.getElem?_eq_some_iff.mp hc).1
      have hm2 := s2 _ _ h2
      refine ⟨t, _, rfl, SqT.of upd_same, rfl, _, _, rfl, _, _, rfl, rfl, rfl, yesT ?_⟩
      refine ⟨_, rfl, _, rfl, _, rfl, m, ms.map V.int, c, .int (at0 ms c), rfl, rfl, SqL.of (by rw [upd_ne (ne_of_none hm2 ht)]; exact hm2), at_of (j := c.toNat) (by omega) ?_, _, _, rfl, rfl, _, (by rw [upd_ne (ne_of_none hd ht)]; exact hd), ?_, (s2.upd (s2.free ht)).upd hD, ?_⟩
      · rw [List.getElem?_map, List.getElem?_eq_getElem hcb.2]
        unfold at0
        rw [List.getD_eq_getElem?_getD, List.getElem?_eq_getElem hcb.2]
        rfl
      · rw [List.length_map, vals_length, List.length_take]
        exact small1000 (by omega)
      · have elen : (cs.take i).length = i := by
          rw [List.length_take]
          omega
        rw [upd_same, take_snoc hc, vals_snoc, elen, List.map_append]
        rfl
    · rintro H2 ⟨s2, hd⟩
      rw [List.length_map, List.take_length] at hd
      refine ⟨D, vals ms cs, .int 0, rfl, rfl, SqL.of hd, fun e => ?_, fun n hn hmax => ?_⟩
      · refine k 0 H2 s2 (.inl ⟨?_, rfl⟩)
        have : cs.length = 0 := by
          rw [← vals_length ms cs, e]
          rfl
        exact List.length_eq_zero_iff.mp this
      · exact k n H2 s2 (.inr ⟨hn, hmax⟩)
end
end Toy

set_option Elab.async false
set_option linter.all false
set_option maxRecDepth 100000
set_option maxHeartbeats 4000000
namespace Toy
open PySem L2
theorem falls_congr {ms ms' cs cs' : List Int} (h : ∀ c ∈ cs, at0 ms c = at0 ms' c) (f : Falls ms cs cs') : Falls ms' cs cs' := by
  obtain ⟨hp, hs⟩ := f
  refine ⟨hp, hs.imp_of_mem fun {c d} hc hd z => ?_⟩
  rw [← h c (hp.mem_iff.mp hc), ← h d (hp.mem_iff.mp hd)]
  exact z
theorem vals_congr {ms ms' cs : List Int} (h : ∀ c ∈ cs, at0 ms c = at0 ms' c) : vals ms cs = vals ms' cs := by
  unfold vals
  refine List.map_congr_left fun q hq => ?_
  have hm : q.1 ∈ cs := by
    exact List.mem_of_getElem? (List.mem_zipIdx_iff_getElem?.mp hq)
  rw [h q.1 hm]
theorem need_congr {ms ms' cs : List Int} {m : Int} (h : ∀ c ∈ cs, at0 ms c = at0 ms' c) (f : IsNeed ms cs m) : IsNeed ms' cs m := by
  unfold IsNeed at f ⊢
  rw [← vals_congr h]
  exact f
theorem rowOf_mem {us : List Int} (hg : GoodUps us) {p c : Int} (h : c ∈ rowOf us p) : p < c ∧ 0 ≤ c ∧ c ≤ us.length := by
  unfold rowOf at h
  obtain ⟨q, hq, rfl⟩ := List.mem_map.mp h
  obtain ⟨hq1, hq2⟩ := List.mem_filter.mp hq
  have e : us[q.2]? = some q.1 := List.mem_zipIdx_iff_getElem?.mp hq1
  have hp : q.1 = p := by simpa using hq2
  have hb := hg.2 _ _ e
  have hl := (List.getElem?_eq_some_iff.mp e).1
  omega
theorem at0_set_ne {ms : List Int} {j : Nat} {v c : Int} (h : c.toNat ≠ j) : at0 (ms.set j v) c = at0 ms c := by
  unfold at0
  rw [List.getD_eq_getElem?_getD, List.getD_eq_getElem?_getD, List.getElem?_set_ne (Ne.symm h)]
theorem at0_set_eq {ms : List Int} {j : Nat} {v c : Int} (h : c.toNat = j) (hj : j < ms.length) : at0 (ms.set j v) c = v := by
  unfold at0
  rw [List.getD_eq_getElem?_getD, h, List.getElem?_set_self hj]
  rfl
structure BestR (us : List Int) (os : List (List Int)) (ms : List Int) : Prop where
  lo : os.length = us.length + 1
  lm : ms.length = us.length + 1
  row : ∀ (p : Nat) (row : List Int), os[p]? = some row → Falls ms (rowOf us (p : Int)) row ∧ IsNeed ms row (at0 ms (p : Int))
section
variable {P : Program} {w : World} {K : PySem.W.Frag} {mg : Str → Option Value} {base : Heap} {A : Adr}
def spBest (Pt : Addr) : Sp := fun vs H Q _ => ∃ (a : Addr) (us : List Int), vs = [.ref a] ∧ H a = some (.lst (us.map V.int)) ∧ GoodUps us ∧ TabOk H Pt lamQ ∧
  ∀ (t o m : Addr) (rs : List Addr) (os : List (List Int)) (ms : List Int) (H' : Hp), Gr Pt H H' → H' t = some (.tup [.ref o, .ref m]) → H' o = some (.lst (rs.map V.ref)) → LL H' rs os → H' m = some (.lst (ms.map V.int)) → BestR us os ms → Q (.ref t) H'
theorem sc_best_orders : FnScope ["ups", "orders", "marks", "person", "row", "turned"] ["ups"] (defScope s_best_orders) := ⟨rfl, rfl, rfl, by decide +kernel, rfl, by decide +kernel, by decide +kernel⟩
theorem ok_best_orders (T : Txt K mg A) (hk : K.In base) (B : BmOk mg base) : FnOk P w K mg base CX0 5 A.f_best_orders A.d_best_orders ["ups"] (spBest A.P_longest_first) := by
  have G_rows_of := ok_rows_of (P := P) (w := w) (base := base) T
  have G_longest_first := ok_longest_first (P := P) (w := w) T hk B
  have G_rounds_needed := ok_rounds_needed (P := P) (w := w) (base := base) T
  generalize hPt : A.P_longest_first = Pt at G_longest_first
  refine T.f_best_orders.ok sc_best_orders (fun vs H Q E h => ?_) (fun cdv A outer s H vs Q E hr h => ?_)
  · obtain ⟨a, us, rfl, _⟩ := h
    rfl
  · obtain ⟨a, us, rfl, hH, hg, hT, k⟩ := h
    have hg' := id hg
    obtain ⟨hl, hgu⟩ := hg'
    refine ⟨_, (pss_cons (ps_set (i := 1) sc_best_orders.nd rfl (Or.inl rfl) (pe_lst pa_nil))
      (pss_cons (ps_setLc (i := 2) (own := [("person", 3)]) rfl sc_best_orders.nd rfl rfl (sw_true rfl rfl rfl (by decide +kernel)) (pi_range1 (by rfl) T.n_range (pa_cons (pe_op op_add (pe_callB (call_len_seqK K) (by rfl) T.n_len PySem.boot_len (pa_cons (pv 0) pa_nil)) pe_int) pa_nil)) (blkOk_by (own := [("person", 3)]) (by kernel_rfl)) (fun _ _ _ _ _ => (pg_name (i := 3) sc_best_orders.nd rfl (Or.inl rfl))) (fun _ _ _ _ _ => pts_nil) (fun _ _ _ _ _ => pe_int))
      (pss_cons (ps_for PassesOwn.never rfl (pi_reversed (by rfl) T.n_reversed (pa_cons (pe_listEnum rfl (by rfl) T.n_list (by rfl) T.n_enumerate (pe_call G_rows_of (hr.mono (by decide)) (by rfl) T.m_rows_of T.k_rows_of T.b_rows_of .nil pass0 (pa_cons (pv 0) pa_nil))) pa_nil)) (pg_tupK K (n := 2) (by rfl) (pgs_cons (pg_name (i := 3) sc_best_orders.nd rfl (Or.inl rfl)) (pgs_cons (pg_name (i := 4) sc_best_orders.nd rfl (Or.inl rfl)) pgs_nil))) (pss_cons (ps_set (i := 5) sc_best_orders.nd rfl (Or.inl rfl) (pe_call G_longest_first (hr.mono (by decide)) (by rfl) T.m_longest_first T.k_longest_first T.b_longest_first .nil pass0 (pa_cons (pv 4) (pa_cons (pv 2) pa_nil))))
      (pss_cons (ps_asg (pe_call G_rounds_needed (hr.mono (by decide)) (by rfl) T.m_rounds_needed T.k_rounds_needed T.b_rounds_needed .nil pass0 (pa_cons (pv 5) (pa_cons (pv 2) pa_nil))) (pg_sub (pv 2) (pv 3) set_list))
      (pss_one (ps_expr (pe_bmK K PySem.F.plainAttrs_list PySem.F.slot_list_append PySem.F.type_list_append mt_append (pv 1) (pa_cons (pv 5) pa_nil)))))))
      (pss_one (ps_ret (pe_tup (pa_cons (pe_rev (pv 1)) (pa_cons (pv 2) pa_nil)))))))), ?_⟩
    refine ⟨Nat.zero_le _, fun o ho => ?_⟩
    have s1 : Same H (upd H o (.lst [])) := Same.new ho
    have hH1 := s1 _ _ hH
    refine ⟨_, rfl, a, us.map V.int, rfl, .inl (SqL.of hH1), _, _, rfl, rfl, _, rfl, ?_, ?_, fun m hm => ?_⟩
    · rw [List.length_map]
      omega
    · rw [List.length_map]
      omega
    have hn : ((((us.map V.int).length : Nat) : Int) + 1).toNat = us.length + 1 := by
      rw [List.length_map]
      omega
    rw [hn]
    have hom : o ≠ m := fun z => by
      rw [← z, upd_same] at hm
      cases hm
    have hmH : H m = none := s1.free hm
    refine lc_range (lo := 0) (n := us.length + 1) (fun i H2 => Same (upd H o (.lst [])) H2 ∧ H2 m = some (.lst ((List.replicate i (0 : Int)).map V.int))) ⟨Same.new hm, upd_same⟩ ?_ ?_
    · rintro i H2 hi ⟨s2, hd⟩
      refine ⟨rfl, yesT ?_⟩
      refine ⟨_, hd, ?_, s2.upd hm, ?_⟩
      · rw [List.length_map, List.length_replicate]
        exact small1000 (by omega)
      · rw [upd_same, List.replicate_succ', List.map_append]
        rfl
    · rintro H2 ⟨s2, hm2⟩
      have sH2 : Same H H2 := s1.trans s2
      have ho2 : H2 o = some (.lst []) := s2 _ _ upd_same
      refine ⟨_, rfl, a, us, rfl, sH2 _ _ hH, hg, fun b rs0 H3 s3 hb hb3 hLL hnew hnd => ?_⟩
      refine ⟨b, rs0.map V.ref, rfl, SqL.of hb3, fun H4 D Ts s4 hTl hTs hD hDn => ?_⟩
      have hN : rs0.length = us.length + 1 := by
        rw [hLL.1]
        unfold rowsOf
        simp
      have hTl : Ts.length = us.length + 1 := by
        rw [hTl, List.length_map, hN]
      refine ⟨D, Ts.map V.ref, rfl, SqL.of hD, ?_⟩
      have s24 : Same H2 H4 := s3.trans s4
      have T4 : TabOk H4 Pt lamQ := tab_same (tab_same hT sH2) s24
      have ho4 := s24 _ _ ho2
      have hm4 := s24 _ _ hm2
      have nD : D ≠ o ∧ D ≠ m := ⟨Ne.symm (ne_of_none (s3 _ _ ho2) hDn), Ne.symm (ne_of_none (s3 _ _ hm2) hDn)⟩
      refine for_rev (K := K) (a := D) (xs := Ts.map V.ref) (fun i σ H5 => ∃ x y z, σ = [some (.ref a), some (.ref o), some (.ref m), x, y, z] ∧ TabOk H5 Pt lamQ ∧ (∀ c u, H4 c = some u → c ≠ o → c ≠ m → c ≠ Pt → H5 c = some u) ∧
          ∃ (ms : List Int) (rs : List Addr) (os : List (List Int)), ms.length = us.length + 1 ∧ H5 m = some (.lst (ms.map V.int)) ∧ H5 o = some (.lst (rs.map V.ref)) ∧ os.length = i ∧ LL H5 rs os ∧ (∀ r ∈ rs, r ≠ o ∧ r ≠ m ∧ r ≠ Pt) ∧
            ∀ (j : Nat) (row : List Int), os[j]? = some row → Falls ms (rowOf us ((us.length - j : Nat) : Int)) row ∧ IsNeed ms row (at0 ms ((us.length - j : Nat) : Int)))
        ⟨none, none, none, rfl, T4, fun c u e _ _ _ => e, List.replicate (us.length + 1) 0, [], [], by simp, hm4, ho4, rfl, ⟨rfl, fun p r os h1 _ => by simp at h1⟩, by simp, fun j row hj => by simp at hj⟩ ?_ ?_ ?_
      · rintro i σ H5 _ ⟨_, _, _, _, T5, kp, _⟩
        exact SqL.of (kp D _ hD nD.1 nD.2 (tab_ne T4 hD fun _ z => nomatch z))
      · rintro i x σ H5 hi hx ⟨x0, y0, z0, rfl, T5, kp, ms, rs, os, hml, hm5, ho5, hol, hLL5, hrs, hrow⟩
        rw [List.length_map, hTl] at hi hx
        have ei : us.length + 1 - 1 - i = us.length - i := by omega
        rw [ei] at hx
        obtain ⟨Tp, hTp, rfl⟩ : ∃ Tp, Ts[us.length - i]? = some Tp ∧ x = .ref Tp := by
          rw [List.getElem?_map] at hx
          cases e : Ts[us.length - i]? with
          | none =>
            rw [e] at hx
            cases hx
          | some z =>
            rw [e] at hx
            exact ⟨z, rfl, (Option.some.inj hx).symm⟩
        obtain ⟨hTn, y, hy, hTv⟩ := hTs _ _ hTp
        obtain ⟨r, hr0, rfl⟩ : ∃ r, rs0[us.length - i]? = some r ∧ y = .ref r := by
          rw [List.getElem?_map] at hy
          cases e : rs0[us.length - i]? with
          | none =>
            rw [e] at hy
            cases hy
          | some z =>
            rw [e] at hy
            exact ⟨z, rfl, (Option.some.inj hy).symm⟩
        have nTp : Tp ≠ o ∧ Tp ≠ m := ⟨Ne.symm (ne_of_none (s3 _ _ ho2) hTn), Ne.symm (ne_of_none (s3 _ _ hm2) hTn)⟩
        have hTp5 := kp Tp _ hTv nTp.1 nTp.2 (tab_ne T4 hTv fun _ z => nomatch z)
        have hrow0 : (rowsOf us)[us.length - i]? = some (rowOf us ((us.length - i : Nat) : Int)) := by
          unfold rowsOf
          rw [List.getElem?_map, List.getElem?_range (by omega)]
          rfl
        have hr3 := hLL.2 _ _ _ hr0 hrow0
        have hr4 := s4 _ _ hr3
        have hrn := (hnew r (List.mem_of_getElem? hr0)).1
        have nr : r ≠ o ∧ r ≠ m := ⟨Ne.symm (ne_of_none ho2 hrn), Ne.symm (ne_of_none hm2 hrn)⟩
        have hr5 := kp r _ hr4 nr.1 nr.2 (tab_ne T4 hr4 fun _ z => nomatch z)
        have nmP : m ≠ Pt := tab_ne T5 hm5 fun _ z => nomatch z
        have noP : o ≠ Pt := tab_ne T5 ho5 fun _ z => nomatch z
        have hix : ∀ c ∈ rowOf us ((us.length - i : Nat) : Int), 0 ≤ c ∧ c.toNat < ms.length := fun c hc => by
          have q := rowOf_mem hg hc
          omega
        refine ⟨Tp, _, rfl, SqT.of hTp5, rfl, _, _, rfl, _, _, rfl, rfl, ?_⟩
        refine ⟨_, rfl, _, rfl, r, m, _, ms, rfl, hr5, hm5, ?_, hix, T5, fun b2 cs' H6 g6 hb2 hb6 hf => ?_⟩
        · have := rowOf_length us ((us.length - i : Nat) : Int)
          omega
        have hm6 := g6.get T5 hm5
        have ho6 := g6.get T5 ho5
        have nb : b2 ≠ o ∧ b2 ≠ m := ⟨Ne.symm (ne_of_none ho5 hb2), Ne.symm (ne_of_none hm5 hb2)⟩
        refine ⟨_, rfl, _, rfl, b2, m, cs', ms, rfl, hb6, hm6, ?_, fun c hc => hix c (hf.1.mem_iff.mp hc), fun v H7 s7 hneed => ?_⟩
        · rw [hf.1.length_eq]
          have := rowOf_length us ((us.length - i : Nat) : Int)
          omega
        have hm7 := s7 _ _ hm6
        have ho7 := s7 _ _ ho6
        refine ⟨_, rfl, _, rfl, m, _, _, us.length - i, rfl, rfl, hm7, ?_, ?_⟩
        · rw [List.length_map, hml]
          unfold ixN
          rw [if_pos (by omega), if_pos (by omega)]
          congr 1
          omega
        have hb7 := s7 _ _ hb6
        refine ⟨_, rfl, .inl ⟨rfl, _, SqL.of (by rw [upd_ne hom]; exact ho7)⟩, _, rfl, o, rs.map V.ref, _, rfl, rfl, (by rw [upd_ne hom]; exact ho7), ?_, ?_⟩
        · rw [List.length_map, hLL5.1, hol]
          exact small1000 (by omega)
        have T7 : TabOk H7 Pt lamQ := tab_same g6.tab s7
        have g57 : ∀ c u, H5 c = some u → c ≠ Pt → H7 c = some u := fun c u e n => s7 _ _ (g6.but c u e n)
        have T8 : TabOk (upd (upd H7 m (.lst ((ms.map V.int).set (us.length - i) (.int v)))) o (.lst (rs.map V.ref ++ [.ref b2]))) Pt lamQ := by
          obtain ⟨ts, e, kc⟩ := T7
          refine ⟨ts, by rw [upd_ne (Ne.symm noP), upd_ne (Ne.symm nmP)]; exact e, fun t ht => ?_⟩
          have q := kc t ht
          rw [upd_ne (fun z => by rw [z, ho7] at q; cases q), upd_ne (fun z => by rw [z, hm7] at q; cases q)]
          exact q
        refine ⟨_, _, _, rfl, T8, fun c u e n1 n2 n3 => ?_, ms.set (us.length - i) v, rs ++ [b2], os ++ [cs'], ?_, ?_, ?_, ?_, ⟨?_, fun p r' row hp ho' => ?_⟩, fun r' hr' => ?_, fun j row hj => ?_⟩
        · rw [upd_ne n1, upd_ne n2]
          exact g57 c u (kp c u e n1 n2 n3) n3
        · rw [List.length_set, hml]
        · rw [upd_ne (Ne.symm hom), upd_same, List.map_set]
        · rw [upd_same, List.map_append]
          rfl
        · rw [List.length_append, hol]
          rfl
        · rw [List.length_append, List.length_append, hLL5.1]
          rfl
        · by_cases hpi : p < rs.length
          · rw [List.getElem?_append_left hpi] at hp
            rw [List.getElem?_append_left (by rw [← hLL5.1]; exact hpi)] at ho'
            obtain ⟨n1, n2, n3⟩ := hrs r' (List.mem_of_getElem? hp)
            rw [upd_ne n1, upd_ne n2]
            exact g57 _ _ (hLL5.2 p r' row hp ho') n3
          · rw [List.getElem?_append_right (by omega)] at hp
            rw [List.getElem?_append_right (by rw [← hLL5.1]; omega)] at ho'
            have ep : p - rs.length = 0 := by
              have := (List.getElem?_eq_some_iff.mp hp).1
              simp at this
              omega
            rw [ep] at hp
            rw [← hLL5.1, ep] at ho'
            have e1 : b2 = r' := by simpa using hp
            have e2 : cs' = row := by simpa using ho'
            subst e1 e2
            rw [upd_ne nb.1, upd_ne nb.2]
            exact hb7
        · rcases List.mem_append.mp hr' with h1 | h1
          · exact hrs r' h1
          · obtain rfl := List.mem_singleton.mp h1
            exact ⟨nb.1, nb.2, tab_ne T7 hb7 fun _ z => nomatch z⟩
        · have same : ∀ (q : Nat), us.length - i ≤ q → ∀ c ∈ rowOf us (q : Int), at0 ms c = at0 (ms.set (us.length - i) v) c := fun q hq c hc => by
            have z := rowOf_mem hg hc
            rw [at0_set_ne (by omega)]
          by_cases hji : j < os.length
          · rw [List.getElem?_append_left hji] at hj
            obtain ⟨f1, f2⟩ := hrow j row hj
            have sm := same (us.length - j) (by omega)
            refine ⟨falls_congr sm f1, ?_⟩
            have e1 : at0 (ms.set (us.length - i) v) ((us.length - j : Nat) : Int) = at0 ms ((us.length - j : Nat) : Int) := at0_set_ne (by omega)
            rw [e1]
            exact need_congr (fun c hc => sm c (f1.1.mem_iff.mp hc)) f2
          · rw [List.getElem?_append_right (by omega)] at hj
            have ej : j - os.length = 0 := by
              have := (List.getElem?_eq_some_iff.mp hj).1
              simp at this
              omega
            rw [ej] at hj
            have e2 : cs' = row := by simpa using hj
            have ejj : j = i := by omega
            subst e2 ejj
            have sm := same (us.length - j) (Nat.le_refl _)
            refine ⟨falls_congr sm hf, ?_⟩
            have e1 : at0 (ms.set (us.length - j) v) ((us.length - j : Nat) : Int) = v := at0_set_eq (by omega) (by omega)
            rw [e1]
            exact need_congr (fun c hc => sm c (hf.1.mem_iff.mp hc)) hneed
      · rintro σ H5 ⟨x0, y0, z0, rfl, T5, kp, ms, rs, os, hml, hm5, ho5, hol, hLL5, hrs, hrow⟩
        rw [List.length_map, hTl] at hol
        refine ⟨_, rfl, o, rs.map V.ref, rfl, SqL.of ho5, fun q hq => ⟨_, rfl, (by show 2 ≤ sizeLine; decide), fun t ht => ?_⟩⟩
        have gH4 : ∀ c u, H c = some u → c ≠ Pt → H5 c = some u := fun c u e n => kp c u (s24 _ _ (sH2 _ _ e)) (ne_of_none e ho) (ne_of_none e hmH) n
        have g5 : Gr Pt H H5 := ⟨gH4, T5⟩
        have g6 := g5.upd (o := .lst (rs.map V.ref).reverse) (g5.free hT hq) hq
        have hq2 : H5 t = none := by
          by_cases z : t = q
          · rw [z, upd_same] at ht
            cases ht
          · rw [upd_ne z] at ht
            exact ht
        have g7 := g6.upd (o := .tup [.ref q, .ref m]) (g5.free hT hq2) ht
        have ntq : q ≠ t := fun z => by
          rw [← z, upd_same] at ht
          cases ht
        have nt : ∀ {b u}, H5 b = some u → b ≠ t ∧ b ≠ q := fun {b u} e => ⟨ne_of_none e hq2, ne_of_none e hq⟩
        refine k t q m rs.reverse os.reverse ms _ g7 upd_same ?_ ⟨?_, fun p r row hp ho' => ?_⟩ ?_ ⟨?_, hml, fun p row hp => ?_⟩
        · rw [upd_ne ntq, upd_same, List.map_reverse]
        · rw [List.length_reverse, List.length_reverse, hLL5.1]
        · have hpl : p < rs.length := by
            have := (List.getElem?_eq_some_iff.mp hp).1
            rwa [List.length_reverse] at this
          rw [List.getElem?_reverse hpl] at hp
          rw [List.getElem?_reverse (by rw [← hLL5.1]; exact hpl), ← hLL5.1] at ho'
          have e := hLL5.2 _ _ _ hp ho'
          rw [upd_ne (nt e).1, upd_ne (nt e).2]
          exact e
        · rw [upd_ne (nt hm5).1, upd_ne (nt hm5).2]
          exact hm5
        · rw [List.length_reverse, hol]
        · have hpl : p < os.length := by
            have := (List.getElem?_eq_some_iff.mp hp).1
            rwa [List.length_reverse] at this
          rw [List.getElem?_reverse hpl] at hp
          have q := hrow _ _ hp
          have e : us.length - (os.length - 1 - p) = p := by omega
          rw [e] at q
          exact q
end
end Toy

set_option Elab.async false
set_option linter.all false
set_option maxRecDepth 100000
set_option maxHeartbeats 4000000
namespace Toy
open PySem L2
theorem FnOk.either {P : Program} {w : World} {K : PySem.W.Frag} {mg : Str → Option Value} {base : Heap} {CX : CXT} {k : Nat} {f : Addr} {fd : FuncData} {ps : List Str} {sp sp' : Sp} (F : FnOk P w K mg base CX k f fd ps sp) (F' : FnOk P w K mg base CX k f fd ps sp') :
    FnOk P w K mg base CX k f fd ps (fun vs H Q E => sp vs H Q E ∨ sp' vs H Q E) :=
  ⟨fun vs H Q E q => q.elim (F.len vs H Q E) (F'.len vs H Q E), fun A outer s H args us vs Q E hr he hb hv hs => hs.elim (F.run A outer s H args us vs Q E hr he hb hv) (F'.run A outer s H args us vs Q E hr he hb hv)⟩
section
variable {P : Program} {w : World} {K : PySem.W.Frag} {mg : Str → Option Value} {base : Heap} {A : Adr}
def spCopyL : Sp := fun vs H Q _ => ∃ (a : Addr) (rs : List Addr) (oss : List (List Int)), vs = [.ref a] ∧ H a = some (.lst (rs.map V.ref)) ∧ LL H rs oss ∧ rs.length < 1000 ∧
  ∀ (b : Addr) (rs' : List Addr) (H' : Hp), Same H H' → H b = none → H' b = some (.lst (rs'.map V.ref)) → LL H' rs' oss → (∀ r ∈ rs', H r = none ∧ r ≠ b) → rs'.Nodup → Q (.ref b) H'
theorem ref_get {rs : List Addr} {i : Nat} {x : V} (h : (rs.map V.ref)[i]? = some x) : ∃ r, rs[i]? = some r ∧ x = .ref r := by
  rw [List.getElem?_map] at h
  cases e : rs[i]? with
  | none =>
    rw [e] at h
    cases h
  | some z =>
    rw [e] at h
    exact ⟨z, rfl, (Option.some.inj h).symm⟩
theorem ok_copiedL (T : Txt K mg A) : FnOk P w K mg base CX0 1 A.f_copied A.d_copied ["thing"] spCopyL := by
  refine T.f_copied.ok sc_copied (fun vs H Q E h => ?_) (fun cdv A outer s H vs Q E hr h => ?_)
  · obtain ⟨a, rs, oss, rfl, _⟩ := h
    rfl
  · obtain ⟨a, rs, oss, rfl, hH, hL, hl, k⟩ := h
    refine ⟨_, (pss_cons (ps_if (pt_not (pt_val (pe_callB (cr_isiK K) (by rfl) T.n_isinstance (by decide +kernel) (pa_cons (pv 0) (pa_cons (pe_bltn (v := .ty "list") (by rfl) T.n_list (by decide +kernel) rfl) pa_nil))))) (pss_one (ps_ret (pv 0))) pss_nil)
      (pss_one (ps_ret (pe_lc (own := [("part", 1)]) rfl sc_copied.nd (pi_listK K (pv 0)) (blkOk_by (own := [("part", 1)]) (by kernel_rfl)) (fun _ _ _ _ _ => (pg_name (i := 1) sc_copied.nd rfl (Or.inl rfl))) (fun _ _ _ _ _ => pts_nil) (fun _ _ _ _ _ => (pe_ifExp (pt_val (pe_callB (cr_isiK K) (by rfl) T.n_isinstance (by decide +kernel) (pa_cons (pv 1) (pa_cons (pe_bltn (v := .ty "list") (by rfl) T.n_list (by decide +kernel) rfl) pa_nil)))) (pe_callTy (call_list_ofK K) (by rfl) T.n_list (by decide +kernel) (pa_cons (pv 1) pa_nil)) (pv 1))))))), ?_⟩
    refine ⟨_, rfl, .ref a, .ty "list", _, true, rfl, .lst hH, (fun u hu => kitL hu), true, rfl, iteF ?_⟩
    refine ⟨_, rfl, a, rfl, ⟨_, SqL.of hH⟩, fun D hD => ?_⟩
    refine lc_list (K := K) (a := a) (xs := rs.map V.ref) (fun i H2 => Same H H2 ∧ ∃ rs' : List Addr, H2 D = some (.lst (rs'.map V.ref)) ∧ LL H2 rs' (oss.take i) ∧ (∀ r ∈ rs', H r = none ∧ r ≠ D) ∧ rs'.Nodup)
      ⟨Same.new hD, [], upd_same, ⟨by simp, fun p r os h1 _ => by simp at h1⟩, by simp, List.nodup_nil⟩ (fun i H2 _ ⟨s2, _⟩ => SqL.of (s2 _ _ hH)) ?_ ?_
    · rintro i x H2 hi ⟨s2, rs', hd, hL', hn', hnd⟩
      obtain ⟨r, hr0, rfl⟩ := ref_get hi
      have hil : i < rs.length := (List.getElem?_eq_some_iff.mp hr0).1
      obtain ⟨os, ho⟩ : ∃ os, oss[i]? = some os := ⟨_, List.getElem?_eq_getElem (by rw [← hL.1]; exact hil)⟩
      have hr2 := s2 _ _ (hL.2 i r os hr0 ho)
      have hlen' : rs'.length = i := by
        rw [hL'.1, List.length_take, ← hL.1]
        omega
      refine ⟨rfl, yesT ?_⟩
      refine ⟨_, rfl, .ref r, .ty "list", _, true, rfl, .lst hr2, (fun u hu => kitL hu), true, rfl, iteT ?_⟩
      refine ⟨_, rfl, r, _, rfl, .inl (SqL.of hr2), fun q hq => ⟨rs'.map V.ref, ?_, ?_, (s2.upd (s2.free hq)).upd hD, rs' ++ [q], ?_, ⟨?_, ?_⟩, ?_, ?_⟩⟩
      · rw [upd_ne (ne_of_none hd hq)]
        exact hd
      · rw [List.length_map]
        exact small1000 (by omega)
      · rw [upd_same, List.map_append]
        rfl
      · rw [take_snoc ho, List.length_append, List.length_append, hL'.1]
        rfl
      · intro p r' os' hp ho'
        rw [take_snoc ho] at ho'
        have nq : q ≠ D := Ne.symm (ne_of_none hd hq)
        by_cases hpi : p < rs'.length
        · rw [List.getElem?_append_left hpi] at hp
          rw [List.getElem?_append_left (by rw [← hL'.1]; exact hpi)] at ho'
          have e := hL'.2 p r' os' hp ho'
          rw [upd_ne (hn' r' (List.mem_of_getElem? hp)).2, upd_ne (ne_of_none e hq)]
          exact e
        · rw [List.getElem?_append_right (by omega)] at hp
          rw [List.getElem?_append_right (by rw [← hL'.1]; omega), ← hL'.1] at ho'
          have ep : p - rs'.length = 0 := by
            have := (List.getElem?_eq_some_iff.mp hp).1
            simp at this
            omega
          rw [ep] at hp ho'
          have e1 : q = r' := by simpa using hp
          have e2 : os = os' := by simpa using ho'
          subst e1 e2
          rw [upd_ne nq, upd_same]
      · intro r' hr'
        rcases List.mem_append.mp hr' with h1 | h1
        · exact hn' r' h1
        · obtain rfl := List.mem_singleton.mp h1
          exact ⟨s2.free hq, Ne.symm (ne_of_none hd hq)⟩
      · refine nd_snoc hnd fun h1 => ?_
        obtain ⟨p, hp⟩ := List.getElem?_of_mem h1
        obtain ⟨os', ho'⟩ : ∃ os', (oss.take i)[p]? = some os' := ⟨_, List.getElem?_eq_getElem (by rw [← hL'.1]; exact (List.getElem?_eq_some_iff.mp hp).1)⟩
        rw [hL'.2 p q os' hp ho'] at hq
        cases hq
    · rintro H2 ⟨s2, rs', hd, hL', hn', hnd⟩
      rw [List.length_map, hL.1, List.take_length] at hL'
      exact k D rs' H2 s2 hD hd hL' hn' hnd
theorem ok_copied (T : Txt K mg A) : FnOk P w K mg base CX0 1 A.f_copied A.d_copied ["thing"] (fun vs H Q E => spCopyI vs H Q E ∨ spCopyL vs H Q E) := FnOk.either (ok_copiedI T) (ok_copiedL T)
abbrev fldF (o m : Addr) : List (Str × V) := [("orders", .ref o), ("marks", .ref m)]
def spFInit (C : Addr) : Sp := fun vs H Q _ => ∃ (x dx o m : Addr) (rs : List Addr) (os : List (List Int)) (ms : List Int), vs = [.ref x, .ref o, .ref m] ∧ H x = some (.ins C dx []) ∧ H o = some (.lst (rs.map V.ref)) ∧ LL H rs os ∧ rs.length < 1000 ∧ H m = some (.lst (ms.map V.int)) ∧ ms.length < 1000 ∧
  ∀ (o' m' : Addr) (rs' : List Addr) (H' : Hp), (∀ b u, H b = some u → b ≠ x → H' b = some u) → H' x = some (.ins C dx (fldF o' m')) → H' o' = some (.lst (rs'.map V.ref)) → LL H' rs' os → H' m' = some (.lst (ms.map V.int)) → Q .non H'
theorem sc_Fewest_init : FnScope ["self", "orders", "marks"] ["self", "orders", "marks"] (defScope s_Fewest_init) := ⟨rfl, rfl, rfl, by decide +kernel, rfl, by decide +kernel, by decide +kernel⟩
theorem put2 (o' m' : Addr) : putF "marks" (V.ref m') (putF "orders" (V.ref o') []) = fldF o' m' := by
  have hne : ¬ (("orders" : Str) = "marks") := by decide +kernel
  show (if ("orders" : Str) = "marks" then _ else (("orders" : Str), V.ref o') :: putF "marks" (V.ref m') []) = fldF o' m'
  rw [if_neg hne]
  rfl
theorem ok_Fewest_init (T : Txt K mg A) : FnOk P w K mg base CX0 2 A.f_Fewest_init A.d_Fewest_init ["self", "orders", "marks"] (spFInit A.C_Fewest) := by
  have G_copied := ok_copied (P := P) (w := w) (base := base) T
  refine T.f_Fewest_init.ok sc_Fewest_init (fun vs H Q E h => ?_) (fun cdv A' outer s H vs Q E hr h => ?_)
  · obtain ⟨x, dx, o, m, rs, os, ms, rfl, _⟩ := h
    rfl
  · obtain ⟨x, dx, o, m, rs, os, ms, rfl, hx, ho, hL, hl, hm, hml, k⟩ := h
    refine ⟨_, (pss_cons (ps_fld (pv 0) (pe_call G_copied (hr.mono (by decide)) (by rfl) T.m_copied T.k_copied T.b_copied .nil pass0 (pa_cons (pv 1) pa_nil)) rfl)
      (pss_one (ps_fld (pv 0) (pe_call G_copied (hr.mono (by decide)) (by rfl) T.m_copied T.k_copied T.b_copied .nil pass0 (pa_cons (pv 2) pa_nil)) rfl))), ?_⟩
    have nx : ∀ {b xs}, H b = some (.lst xs) → b ≠ x := fun {b xs} e z => by
      rw [z, hx] at e
      cases e
    refine ⟨_, rfl, .inr ⟨o, rs, os, rfl, ho, hL, hl, fun o' rs' H1 s1 hon ho' hL' hn' hnd => ?_⟩⟩
    have hx1 := s1 _ _ hx
    refine ⟨_, rfl, x, A.C_Fewest, dx, [], rfl, hx1, T.cl_Fewest, T.na_Fewest_orders, (by show 0 < 1000; decide), ?_⟩
    have hm1 : (upd H1 x (.ins A.C_Fewest dx (putF "orders" (.ref o') []))) m = some (.lst (ms.map V.int)) := by
      rw [upd_ne (nx hm)]
      exact s1 _ _ hm
    refine ⟨_, rfl, .inl ⟨m, ms, rfl, hm1, hml, fun m' H2 s2 hmn hm' => ?_⟩⟩
    have hx2 := s2 _ _ (upd_same (H := H1) (a := x) (o := .ins A.C_Fewest dx (putF "orders" (.ref o') [])))
    refine ⟨_, rfl, x, A.C_Fewest, dx, _, rfl, hx2, T.cl_Fewest, T.na_Fewest_marks, (by show 1 < 1000; decide), ?_⟩
    have nxo : o' ≠ x := Ne.symm (ne_of_none hx hon)
    have nxm : m' ≠ x := fun z => by
      rw [z, upd_same] at hmn
      cases hmn
    have up : ∀ {b u}, H1 b = some u → b ≠ x → (upd H2 x (.ins A.C_Fewest dx (putF "marks" (.ref m') (putF "orders" (.ref o') [])))) b = some u := fun {b u} e n => by
      rw [upd_ne n]
      exact s2 _ _ (by rw [upd_ne n]; exact e)
    refine k o' m' rs' _ (fun b u e n => up (s1 _ _ e) n) ?_ (up ho' nxo) ⟨hL'.1, fun p r row hp hr' => up (hL'.2 p r row hp hr') ?_⟩ ?_
    · rw [upd_same, put2]
    · exact Ne.symm (ne_of_none hx (hn' r (List.mem_of_getElem? hp)).1)
    · rw [upd_ne nxm]
      exact hm'
def spFewest (Pt C : Addr) : Sp := fun vs H Q _ => ∃ (a : Addr) (us : List Int), vs = [.ref a] ∧ H a = some (.lst (us.map V.int)) ∧ GoodUps us ∧ TabOk H Pt lamQ ∧
  ∀ (x dx o m : Addr) (rs : List Addr) (os : List (List Int)) (ms : List Int) (H' : Hp), Gr Pt H H' → H' x = some (.ins C dx (fldF o m)) → H' o = some (.lst (rs.map V.ref)) → LL H' rs os → H' m = some (.lst (ms.map V.int)) → BestR us os ms → Q (.ref x) H'
theorem sc_fewest : FnScope ["ups", "orders", "marks"] ["ups"] (defScope s_fewest) := ⟨rfl, rfl, rfl, by decide +kernel, rfl, by decide +kernel, by decide +kernel⟩
theorem ok_fewest (T : Txt K mg A) (hk : K.In base) (B : BmOk mg base) : FnOk P w K mg base CX0 6 A.f_fewest A.d_fewest ["ups"] (spFewest A.P_longest_first A.C_Fewest) := by
  have G_take_ups := ok_take_ups (P := P) (w := w) (base := base) T
  have G_best_orders := ok_best_orders (P := P) (w := w) T hk B
  have G_Fewest_init := ok_Fewest_init (P := P) (w := w) (base := base) T
  refine T.f_fewest.ok sc_fewest (fun vs H Q E h => ?_) (fun cdv A' outer s H vs Q E hr h => ?_)
  · obtain ⟨a, us, rfl, _⟩ := h
    rfl
  · obtain ⟨a, us, rfl, hH, hg, hT, k⟩ := h
    refine ⟨_, (pss_cons (ps_asg (pe_call G_best_orders (hr.mono (by decide)) (by rfl) T.m_best_orders T.k_best_orders T.b_best_orders .nil pass0 (pa_cons (pe_call G_take_ups (hr.mono (by decide)) (by rfl) T.m_take_ups T.k_take_ups T.b_take_ups .nil pass0 (pa_cons (pv 0) pa_nil)) pa_nil)) (pg_tupK K (n := 2) (by rfl) (pgs_cons (pg_name (i := 1) sc_fewest.nd rfl (Or.inl rfl)) (pgs_cons (pg_name (i := 2) sc_fewest.nd rfl (Or.inl rfl)) pgs_nil))))
      (pss_one (ps_ret (pe_make T.k_Fewest G_Fewest_init (hr.mono (by decide)) (by rfl) T.c_Fewest T.b_Fewest_init .nil pass0 (pa_cons (pv 1) (pa_cons (pv 2) pa_nil)))))), ?_⟩
    refine ⟨_, rfl, a, us, rfl, hH, hg, fun b H1 s1 hbn hb => ?_⟩
    have T1 := tab_same hT s1
    refine ⟨b, us, rfl, hb, hg, T1, fun t o m rs os ms H2 g2 ht ho hL hm hB => ?_⟩
    refine ⟨t, _, rfl, SqT.of ht, rfl, _, _, rfl, _, _, rfl, rfl, ?_⟩
    refine ⟨_, rfl, _, rfl, fun x dx hx hdx ndx => ?_⟩
    have up : ∀ {c u}, H2 c = some u → (upd (upd H2 dx (.own x)) x (.ins A.C_Fewest dx [])) c = some u := fun {c u} e => by
      rw [upd_ne (ne_of_none e hx), upd_ne (ne_of_none e hdx)]
      exact e
    have hrl : rs.length < 1000 := by
      rw [hL.1, hB.lo]
      have := hg.1
      omega
    have hml : ms.length < 1000 := by
      rw [hB.lm]
      have := hg.1
      omega
    refine ⟨x, dx, o, m, rs, os, ms, rfl, upd_same, up ho, ⟨hL.1, fun p r row hp hr' => up (hL.2 p r row hp hr')⟩, hrl, up hm, hml, fun o' m' rs' H3 kp hx3 ho3 hL3 hm3 => ⟨rfl, ?_⟩⟩
    have g02 : Gr A.P_longest_first H H2 := (Gr.of hT s1).trans g2
    have kp2 : ∀ {c u}, H2 c = some u → H3 c = some u := fun {c u} e => kp c u (up e) (ne_of_none e hx)
    have g3 : Gr A.P_longest_first H H3 := ⟨fun c u e n => kp2 (g02.but c u e n), tab_same g02.tab fun c u e => kp2 e⟩
    exact k x dx o' m' rs' os ms H3 g3 hx3 ho3 hL3 hm3 hB
end
end Toy

set_option Elab.async false
set_option linter.all false
set_option maxRecDepth 100000
set_option maxHeartbeats 4000000
namespace Toy
open PySem L2 PySem.Builtin.Int
theorem bits_of {x : Int} {m : Nat} (h : x.natAbs < 2 ^ m) : intBits x ≤ m := intBits_le_iff.mpr h
theorem p18 : (10 : Int) ^ (18 : Int).toNat = 1000000000000000000 := by decide
theorem b20 {n : Nat} (h : n ≤ 200) : n ≤ 2 ^ 20 := Nat.le_trans h (by decide)
theorem mulB {x y : Int} {m n : Nat} (hx : intBits x ≤ m) (hy : intBits y ≤ n) (hm : m ≤ 200) (hn : n ≤ 200) : CMulB x y := ⟨Nat.le_trans hx (b20 hm), Nat.le_trans hy (b20 hn)⟩
section
variable {P : Program} {w : World} {K : PySem.W.Frag} {mg : Str → Option Value} {base : Heap} {A : Adr}
def spNumber : Sp := fun vs H Q _ => ∃ c n z, vs = [.int c, .int n, .int z] ∧ 0 ≤ n ∧ n ≤ 1000 ∧ ∀ r, Q (.int r) H
theorem sc_law_number : FnScope ["_law_cell", "_law_at", "_law_whole", "_law_mixed", "_law_more"] ["_law_cell", "_law_at", "_law_whole"] (defScope s_law_number) := ⟨rfl, rfl, rfl, by decide +kernel, rfl, by decide +kernel, by decide +kernel⟩
theorem ok_law_number (T : Txt K mg A) : FnOk P w K mg base CX0 1 A.f_law_number A.d_law_number ["_law_cell", "_law_at", "_law_whole"] spNumber := by
  refine T.f_law_number.ok sc_law_number (fun vs H Q E h => ?_) (fun cdv A' outer s H vs Q E hr h => ?_)
  · obtain ⟨c, n, z, rfl, _⟩ := h
    rfl
  · obtain ⟨c, n, z, rfl, hn0, hn1, k⟩ := h
    refine ⟨_, (pss_cons (ps_if (PW.pt (pw_or (pt_cmpR op_ge (pv 0) (pe_op op_pow pe_int pe_int) (nomark _)) (pw_or1 (pt_cmpR op_le (pv 0) (pe_op op_sub pe_int (pe_op op_pow pe_int pe_int)) (nomark _))))) (pss_one (ps_ret (pe_op op_mod (pv 0) (pe_op op_pow pe_int pe_int)))) pss_nil)
      (pss_cons (ps_set (i := 3) sc_law_number.nd rfl (Or.inl rfl) (pe_op op_mod (pe_op op_add (pe_op op_mulB (pe_op op_add (pv 0) (pe_op op_mulB pe_int (pv 1))) pe_int) (pv 2)) pe_int))
      (pss_cons (ps_set (i := 4) sc_law_number.nd rfl (Or.inl rfl) (pe_op op_mulB (pe_op op_mulB (pv 3) (pe_op op_add (pe_op op_add (pv 3) (pe_op op_mulB pe_int (pv 1))) pe_int)) (pe_op op_add (pe_op op_add (pv 3) (pv 0)) pe_int)))
      (pss_one (ps_ret (pe_op op_fdiv (pe_op op_mulB (pv 4) (pe_op op_add (pv 4) pe_int)) pe_int)))))), ?_⟩
    have big : Q (.int (c % 10 ^ (60 : Int).toNat)) H := k _
    have ret1 : ∃ v, (L2.start ["_law_cell", "_law_at", "_law_whole", "_law_mixed", "_law_more"] [.int c, .int n, .int z])[0]? = some (some v) ∧ tOp (rI CPow fun i j => .int (i ^ j.toNat)) (tC (.int 10)) (tC (.int 60)) (L2.start ["_law_cell", "_law_at", "_law_whole", "_law_mixed", "_law_more"] [.int c, .int n, .int z]) H fun y H2 => rI (fun _ j => 0 < j) (fun i j => .int (i % j)) v y H2 Q :=
      ⟨_, rfl, _, _, rfl, rfl, ⟨by decide, by decide, by decide⟩, _, _, rfl, rfl, (by show (0 : Int) < 10 ^ 60; decide), big⟩
    refine ⟨_, rfl, _, _, rfl, rfl, ⟨by decide, by decide, by decide⟩, _, _, rfl, rfl, _, rfl, ?_⟩
    refine ite2 (fun _ => ?_) (fun h1 => ?_)
    · exact iteT ret1
    refine ⟨_, rfl, _, _, rfl, rfl, ⟨by decide, by decide, by decide⟩, _, _, rfl, rfl, _, _, rfl, rfl, _, rfl, ?_⟩
    refine ite2 (fun _ => ret1) (fun h2 => ?_)
    rw [p18] at h1 h2
    have h1 : c < 1000000000000000000 := by
      have : ¬ (1000000000000000000 ≤ c) := fun q => h1 (decide_eq_true q)
      omega
    have h2 : -1000000000000000000 < c := by
      have : ¬ (c ≤ 0 - 1000000000000000000) := fun q => h2 (decide_eq_true q)
      omega
    refine ⟨_, rfl, _, rfl, _, _, rfl, rfl, mulB (m := 20) (n := 20) (bits_of (by decide)) (bits_of (by omega)) (by decide) (by decide), _, _, rfl, rfl, _, _, rfl, rfl, mulB (m := 64) (n := 20) (bits_of (by omega)) (bits_of (by decide)) (by decide) (by decide), _, rfl, _, _, rfl, rfl, _, _, rfl, rfl, (by show (0 : Int) < 2147483647; decide), ?_⟩
    have bM : intBits (((c + 977 * n) * 48271 + z) % 2147483647) ≤ 31 := bits_of (by omega)
    have bN : intBits ((((c + 977 * n) * 48271 + z) % 2147483647) + 31 * n + 7) ≤ 33 := bits_of (by omega)
    have bC : intBits ((((c + 977 * n) * 48271 + z) % 2147483647) + c + 5) ≤ 62 := bits_of (by omega)
    have b1 : intBits ((((c + 977 * n) * 48271 + z) % 2147483647) * ((((c + 977 * n) * 48271 + z) % 2147483647) + 31 * n + 7)) ≤ 64 := intBits_mul_le bM bN
    refine ⟨_, rfl, _, rfl, _, rfl, _, _, rfl, rfl, mulB (m := 20) (n := 20) (bits_of (by decide)) (bits_of (by omega)) (by decide) (by decide), _, _, rfl, rfl, _, _, rfl, rfl, _, _, rfl, rfl, mulB (m := 31) (n := 33) bM bN (by decide) (by decide), _, rfl, _, rfl, _, _, rfl, rfl, _, _, rfl, rfl, _, _, rfl, rfl, mulB (m := 64) (n := 62) b1 bC (by decide) (by decide), ?_⟩
    have b2 : intBits ((((c + 977 * n) * 48271 + z) % 2147483647) * ((((c + 977 * n) * 48271 + z) % 2147483647) + 31 * n + 7) * ((((c + 977 * n) * 48271 + z) % 2147483647) + c + 5)) ≤ 126 := intBits_mul_le b1 bC
    have b3 : intBits ((((c + 977 * n) * 48271 + z) % 2147483647) * ((((c + 977 * n) * 48271 + z) % 2147483647) + 31 * n + 7) * ((((c + 977 * n) * 48271 + z) % 2147483647) + c + 5) + 48271) ≤ 127 := by
      have q := intBits_add_le b2 (show intBits 48271 ≤ 20 from bits_of (by decide))
      simpa using q
    refine ⟨_, rfl, _, rfl, _, _, rfl, rfl, _, _, rfl, rfl, mulB (m := 126) (n := 127) b2 b3 (by decide) (by decide), _, _, rfl, rfl, ⟨by decide, by decide⟩, k _⟩
end
end Toy

set_option Elab.async false
set_option linter.all false
set_option maxRecDepth 100000
set_option maxHeartbeats 4000000
namespace Toy
open PySem L2
theorem dpAll_ints {K : PySem.W.Frag} {H : Hp} : ∀ ns : List Int, DpAll K H (ns.map V.int) (ns.map PyData.int)
  | [] => .nil
  | n :: r => .cons (.int n) (dpAll_ints r)
theorem dp_ints {K : PySem.W.Frag} {H : Hp} {a : Addr} {ns : List Int} (h : SqL K H a (ns.map V.int)) : Dp K H (.ref a) (.list (ns.map PyData.int)) := .lst h (dpAll_ints ns)
theorem can_ints : ∀ ns : List Int, PyData.canLayAll0 (ns.map PyData.int) = true
  | [] => by simp [PyData.canLayAll0]
  | n :: r => by
    have ih := can_ints r
    simp [PyData.canLayAll0, PyData.canLay0, ih]
theorem dep_ints : ∀ ns : List Int, PyData.depthAll (ns.map PyData.int) ≤ 1
  | [] => by simp [PyData.depthAll]
  | n :: r => by
    have ih := dep_ints r
    simp only [List.map_cons, PyData.depthAll, PyData.depth]
    omega
theorem shaped_ints (ns : List Int) : SeqAt.shaped (.list (ns.map PyData.int)) = true := by
  unfold SeqAt.shaped
  rw [Bool.and_eq_true]
  refine ⟨?_, decide_eq_true ?_⟩
  · simpa only [PyData.canLay0] using can_ints ns
  · have := dep_ints ns
    simp only [PyData.depth]
    omega
theorem eqv_nil (ns : List Int) : PyData.eqv (.list (ns.map PyData.int)) (.list []) = decide (ns = []) := by
  cases ns with
  | nil => simp [PyData.eqv, PyData.eqvAll]
  | cons n r => simp [PyData.eqv, PyData.eqvAll]
section
variable {P : Program} {w : World} {K : PySem.W.Frag} {mg : Str → Option Value} {base : Heap} {A : Adr}
def spLups (K : PySem.W.Frag) : Sp := fun vs H Q _ => ∃ (a : Addr) (ns : List Int) (by' most : Int), vs = [.ref a, .int by', .int most] ∧ SqL K H a (ns.map V.int) ∧ ns.length ≤ 63 ∧ 0 ≤ by' ∧ by' ≤ 10 ∧ 1 ≤ most ∧ most ≤ 40 ∧
  ∀ (b : Addr) (us : List Int) (H' : Hp), Same H H' → H b = none → H' b = some (.lst (us.map V.int)) → (us.length : Int) < most → GoodUps us → Q (.ref b) H'
theorem sc_law_ups : FnScope ["_law_script", "_law_by", "_law_most", "_law_cells", "_law_at", "_law_whole", "_law_found", "_law_many", "_law_kind", "_law_number_here"] ["_law_script", "_law_by", "_law_most"] (defScope s_law_ups) := ⟨rfl, rfl, rfl, by decide +kernel, rfl, by decide +kernel, by decide +kernel⟩
theorem ok_law_ups (T : Txt K mg A) : FnOk P w K mg base CX0 2 A.f_law_ups A.d_law_ups ["_law_script", "_law_by", "_law_most"] (spLups K) := by
  have G_law_number := ok_law_number (P := P) (w := w) (base := base) T
  refine T.f_law_ups.ok sc_law_ups (fun vs H Q E h => ?_) (fun cdv A' outer s H vs Q E hr h => ?_)
  · obtain ⟨a, ns, b, m, rfl, _⟩ := h
    rfl
  · obtain ⟨a, ns, by', most, rfl, hS, hlen, hb0, hb1, hm0, hm1, k⟩ := h
    have tail : ∃ u, PSs (cxOf CX0 P w K mg base ["_law_script", "_law_by", "_law_most", "_law_cells", "_law_at", "_law_whole", "_law_found", "_law_many", "_law_kind", "_law_number_here"] "_law_ups" (defScope s_law_ups) A.f_law_ups cdv A' outer s H E).nox ((defBody s_law_ups).drop 1) u ∧ ∀ (cl : Addr) (cs : List Int) (H1 : Hp), Same H H1 → H cl = none → H1 cl = some (.lst (cs.map V.int)) → 0 < cs.length → cs.length ≤ 63 →
        u { nx := fun _ H' => Q .non H', rt := Q } [some (.ref a), some (.int by'), some (.int most), some (.ref cl), none, none, none, none, none, none] H1 := by
      refine ⟨_, (pss_cons (ps_par (i := 5) (j := 6) (by rfl) sc_law_ups.nd rfl rfl (by decide) rfl rfl (pa_cons (pe_op op_add (pe_callB (cr_sumK K rfl) (by rfl) T.n_sum (by decide +kernel) (pa_cons (pv 3) pa_nil)) (pv 1)) (pa_cons (pe_lst pa_nil) pa_nil)) (by rfl))
      (pss_cons (ps_par (i := 7) (j := 8) (by rfl) sc_law_ups.nd rfl rfl (by decide) rfl rfl (pa_cons (pe_op op_mod (pe_op op_fdiv (pe_call G_law_number (hr.mono (by decide)) (by rfl) T.m_law_number T.k_law_number T.b_law_number .nil pass0 (pa_cons (pv 5) (pa_cons (pe_op op_add (pv 1) pe_int) (pa_cons pe_int pa_nil)))) pe_int) (pv 2)) (pa_cons (pe_op op_mod (pe_op op_fdiv (pe_call G_law_number (hr.mono (by decide)) (by rfl) T.m_law_number T.k_law_number T.b_law_number .nil pass0 (pa_cons (pv 5) (pa_cons (pe_op op_add (pv 1) pe_int) (pa_cons pe_int pa_nil)))) pe_int) pe_int) pa_nil)) (by rfl))
      (pss_cons (ps_for PassesOwn.never rfl (pi_range1 (by rfl) T.n_range (pa_cons (pv 7) pa_nil)) (pg_name (i := 4) sc_law_ups.nd rfl (Or.inl rfl)) (pss_cons (ps_set (i := 9) sc_law_ups.nd rfl (Or.inl rfl) (pe_op op_fdiv (pe_call G_law_number (hr.mono (by decide)) (by rfl) T.m_law_number T.k_law_number T.b_law_number .nil pass0 (pa_cons (pe_op op_add (pe_ix (ix_listK K) (pv 3) (pe_op op_mod (pe_op op_add (pv 4) (pv 1)) (pe_callB (call_len_seqK K) (by rfl) T.n_len PySem.boot_len (pa_cons (pv 3) pa_nil))) (fun _ _ => rfl)) (pv 4)) (pa_cons (pe_op op_add (pv 4) (pv 1)) (pa_cons (pv 5) pa_nil)))) pe_int))
      (pss_one (ps_expr (pe_bmK K PySem.F.plainAttrs_list PySem.F.slot_list_append PySem.F.type_list_append mt_append (pv 6) (pa_cons (pe_ix (ix_tupK K) (pe_tup (pa_cons (pe_op op_mod (pv 9) (pe_op op_add (pv 4) pe_int)) (pa_cons (pv 4) (pa_cons pe_int (pa_cons (pe_op op_mod (pv 9) (pe_callB (call_min2 rfl) (by rfl) T.n_min (by decide +kernel) (pa_cons (pe_op op_add (pv 4) pe_int) (pa_cons pe_int pa_nil)))) (pa_cons (pe_op op_fdiv (pv 4) pe_int) pa_nil)))))) (pv 8) (fun _ _ => rfl)) pa_nil))))))
      (pss_one (ps_ret (pv 6)))))), ?_⟩
      intro cl cs H1 s1 hcn hc1 hc0 hc63
      refine ⟨_, rfl, cl, cs, rfl, SqL.of hc1, _, rfl, _, _, rfl, rfl, Nat.zero_le _, fun f hf => ⟨_, _, rfl, ?_⟩⟩
      have s2 : Same H (upd H1 f (.lst [])) := s1.upd (s1.free hf)
      have hfH : H f = none := s1.free hf
      have hcf : cl ≠ f := ne_of_none hc1 hf
      have hc2 : (upd H1 f (.lst [])) cl = some (.lst (cs.map V.int)) := by
        rw [upd_ne hcf]
        exact hc1
      refine ⟨_, rfl, _, rfl, _, _, rfl, rfl, _, _, _, rfl, by omega, by omega, fun r1 => ?_⟩
      refine ⟨_, _, rfl, rfl, ⟨by decide, by decide⟩, _, rfl, _, _, rfl, rfl, (by show 0 < most; omega), ?_⟩
      refine ⟨_, rfl, _, rfl, _, _, rfl, rfl, _, _, _, rfl, by omega, by omega, fun r2 => ?_⟩
      refine ⟨_, _, rfl, rfl, ⟨by decide, by decide⟩, _, _, rfl, rfl, (by show (0 : Int) < 5; decide), _, _, rfl, ?_⟩
      have hma : 0 ≤ r1 / 9 % most ∧ r1 / 9 % most < most := ⟨Int.emod_nonneg _ (by omega), Int.emod_lt_of_pos _ (by omega)⟩
      have hki : 0 ≤ r2 / 360 % 5 ∧ r2 / 360 % 5 < 5 := ⟨Int.emod_nonneg _ (by omega), Int.emod_lt_of_pos _ (by omega)⟩
      refine ⟨_, rfl, r1 / 9 % most, rfl, by omega, by omega, ?_⟩
      refine for_range (lo := 0) (n := (r1 / 9 % most).toNat) (fun i σ H3 => ∃ x y, σ = [some (.ref a), some (.int by'), some (.int most), some (.ref cl), x, some (.int (cs.sum + by')), some (.ref f), some (.int (r1 / 9 % most)), some (.int (r2 / 360 % 5)), y] ∧ Same H H3 ∧ H3 cl = some (.lst (cs.map V.int)) ∧
          ∃ us : List Int, H3 f = some (.lst (us.map V.int)) ∧ us.length = i ∧ ∀ (j : Nat) (u : Int), us[j]? = some u → 0 ≤ u ∧ u ≤ j)
        ⟨none, none, rfl, s2, hc2, [], upd_same, rfl, fun j u h1 => by simp at h1⟩ ?_ ?_
      · rintro i σ H3 hi ⟨x0, y0, rfl, s3, hc3, us, hf3, hul, hug⟩
        have hcl0 : 0 < (((cs.map V.int).length : Nat) : Int) := by
          rw [List.length_map]
          omega
        have hidx : 0 ≤ ((0 : Int) + i + by') % (((cs.map V.int).length : Nat) : Int) ∧ ((0 : Int) + i + by') % (((cs.map V.int).length : Nat) : Int) < (((cs.map V.int).length : Nat) : Int) := ⟨Int.emod_nonneg _ (by omega), Int.emod_lt_of_pos _ hcl0⟩
        obtain ⟨z, hz⟩ : ∃ z, cs[(((0 : Int) + i + by') % (((cs.map V.int).length : Nat) : Int)).toNat]? = some z := ⟨_, List.getElem?_eq_getElem (by have := hidx.2; rw [List.length_map] at this; rw [List.length_map]; omega)⟩
        refine ⟨_, rfl, _, rfl, _, rfl, _, _, rfl, rfl, _, rfl, cl, _, rfl, .inl (SqL.of hc3), _, _, rfl, rfl, hcl0, cl, cs.map V.int, _, .int z, rfl, rfl, SqL.of hc3, at_of (j := (((0 : Int) + i + by') % (((cs.map V.int).length : Nat) : Int)).toNat) (by omega) (by rw [List.getElem?_map, hz]; rfl), ?_⟩
        refine ⟨_, rfl, _, _, rfl, rfl, _, rfl, _, rfl, _, _, rfl, rfl, _, rfl, _, _, _, rfl, by omega, by omega, fun r => ?_⟩
        refine ⟨_, _, rfl, rfl, ⟨by decide, by decide⟩, ?_⟩
        refine ⟨_, rfl, .inl ⟨rfl, _, SqL.of hf3⟩, ?_⟩
        refine ⟨_, rfl, _, rfl, _, _, rfl, rfl, _, _, rfl, rfl, (by show (0 : Int) < 0 + i + 1; omega), ?_⟩
        refine ⟨_, rfl, _, rfl, _, rfl, _, _, rfl, rfl, _, _, rfl, _, _, rfl, rfl, (by show (0 : Int) < if (3 : Int) < 0 + (i : Int) + 1 then (3 : Int) else 0 + (i : Int) + 1; split <;> omega), ?_⟩
        refine ⟨_, rfl, _, _, rfl, rfl, ⟨by decide, by decide⟩, (by show 5 ≤ sizeLine; decide), fun t ht => ?_⟩
        obtain ⟨v, hv, hv0, hv1⟩ : ∃ v : Int, atI [V.int (r / 3 % (0 + i + 1)), V.int (0 + i), V.int 0, V.int (r / 3 % (if (3 : Int) < 0 + (i : Int) + 1 then (3 : Int) else 0 + (i : Int) + 1)), V.int ((0 + i) / 2)] (r2 / 360 % 5) = some (V.int v) ∧ 0 ≤ v ∧ v ≤ i := by
          have c5 : r2 / 360 % 5 = ((0 : Nat) : Int) ∨ r2 / 360 % 5 = ((1 : Nat) : Int) ∨ r2 / 360 % 5 = ((2 : Nat) : Int) ∨ r2 / 360 % 5 = ((3 : Nat) : Int) ∨ r2 / 360 % 5 = ((4 : Nat) : Int) := by omega
          rcases c5 with e | e | e | e | e
          · refine ⟨_, at_of e rfl, Int.emod_nonneg _ (by omega), ?_⟩
            have := Int.emod_lt_of_pos (r / 3) (show (0 : Int) < 0 + i + 1 by omega)
            omega
          · exact ⟨_, at_of e rfl, by omega, by omega⟩
          · exact ⟨_, at_of e rfl, by omega, by omega⟩
          · have hpos : (0 : Int) < if (3 : Int) < 0 + (i : Int) + 1 then (3 : Int) else 0 + (i : Int) + 1 := by split <;> omega
            have hle : (if (3 : Int) < 0 + (i : Int) + 1 then (3 : Int) else 0 + (i : Int) + 1) ≤ i + 1 := by split <;> omega
            refine ⟨_, at_of e rfl, Int.emod_nonneg _ (by omega), ?_⟩
            have := Int.emod_lt_of_pos (r / 3) hpos
            omega
          · exact ⟨_, at_of e rfl, by omega, by omega⟩
        refine ⟨_, rfl, t, _, _, .int v, rfl, rfl, SqT.of upd_same, hv, f, us.map V.int, .int v, rfl, rfl, (by rw [upd_ne (ne_of_none hf3 ht)]; exact hf3), ?_, ?_⟩
        · rw [List.length_map]
          exact small1000 (by omega)
        · refine ⟨_, _, rfl, (s3.upd (s3.free ht)).upd hfH, ?_, us ++ [v], ?_, ?_, fun j u hj => ?_⟩
          · rw [upd_ne hcf, upd_ne (ne_of_none hc3 ht)]
            exact hc3
          · rw [upd_same, List.map_append]
            rfl
          · rw [List.length_append, hul]
            rfl
          · by_cases hji : j < us.length
            · rw [List.getElem?_append_left hji] at hj
              exact hug j u hj
            · rw [List.getElem?_append_right (by omega)] at hj
              have ej : j - us.length = 0 := by
                have := (List.getElem?_eq_some_iff.mp hj).1
                simp at this
                omega
              rw [ej] at hj
              have e2 : v = u := by simpa using hj
              omega
      · rintro σ H3 ⟨x0, y0, rfl, s3, hc3, us, hf3, hul, hug⟩
        refine ⟨_, rfl, ?_⟩
        exact k f us H3 s3 hfH hf3 (by omega) ⟨by omega, hug⟩
    obtain ⟨u, hu, rest⟩ := tail
    refine ⟨_, pss_cons (ps_set (i := 3) sc_law_ups.nd rfl (Or.inl rfl) (pe_ifExp (pt_cmpR (op_neDK K hr.units) (pv 0) (pe_lst pa_nil) (nomark _)) (pe_slice (sl_listK K) (pv 0) po_none (po_some pe_int)) (pe_lst (pa_cons pe_int pa_nil)))) hu, ?_⟩
    refine ⟨_, rfl, Nat.zero_le _, fun e he => ⟨.list (ns.map PyData.int), .list [], dp_ints ((Same.new he).seq hS), .lst (SqL.of upd_same) .nil, shaped_ints ns, shaped_ints [], _, rfl, ?_⟩⟩
    rw [eqv_nil]
    by_cases hn : ns = []
    · rw [decide_eq_true hn]
      refine iteF ?_
      refine ⟨(by show 1 ≤ sizeLine; decide), fun cl hcl => ?_⟩
      exact rest cl [5] _ ((Same.new he).upd ((Same.new he).free hcl)) ((Same.new he).free hcl) upd_same (by decide) (by decide)
    · rw [decide_eq_false hn]
      refine iteT ?_
      refine ⟨_, rfl, _, rfl, a, ns.map V.int, rfl, (Same.new he).seq hS, fun cl hcl => ?_⟩
      have ecut : cutV (ns.map V.int) none (some 63) = ns.map V.int := by
        unfold cutV
        rw [HT.sIx_none]
        have e1 : HT.sIx (ns.map V.int).length (ns.map V.int).length (some 63) = ns.length := by
          have := HT.sIx_nat (ns.map V.int).length (ns.map V.int).length 63
          have e63 : ((63 : Nat) : Int) = 63 := rfl
          rw [e63] at this
          rw [this, List.length_map]
          omega
        rw [e1, List.drop_zero, Nat.sub_zero, List.take_of_length_le (by simp)]
      rw [ecut]
      exact rest cl ns _ ((Same.new he).upd ((Same.new he).free hcl)) ((Same.new he).free hcl) upd_same (List.length_pos_iff.mpr hn) hlen
end
end Toy

set_option Elab.async false
set_option linter.all false
set_option maxRecDepth 100000
set_option maxHeartbeats 4000000
namespace Toy
open PySem L2
section
variable {P : Program} {w : World} {K : PySem.W.Frag} {mg : Str → Option Value} {base : Heap} {A : Adr}
def spCalled : Sp := fun vs H Q _ => ∃ (a : Addr) (us : List Int), vs = [.ref a] ∧ H a = some (.lst (us.map V.int)) ∧ us.length ≤ 39 ∧
  ∀ (b : Addr) (rs : List Addr) (H' : Hp), Same H H' → H b = none → H' b = some (.lst (rs.map V.ref)) → LL H' rs (rowsOf us) → Q (.ref b) H'
theorem rowsOf_get (us : List Int) {p : Nat} (h : p < us.length + 1) : (rowsOf us)[p]? = some (rowOf us (p : Int)) := by
  unfold rowsOf
  rw [List.getElem?_map, List.getElem?_range h]
  rfl
theorem rowsOf_length (us : List Int) : (rowsOf us).length = us.length + 1 := by
  unfold rowsOf
  simp
theorem sc_law_called : FnScope ["_law_ups_here", "_law_person", "_law_at", "_law_up"] ["_law_ups_here"] (defScope s_law_called) := ⟨rfl, rfl, rfl, by decide +kernel, rfl, by decide +kernel, by decide +kernel⟩
theorem ok_law_called (T : Txt K mg A) : FnOk P w K mg base CX0 1 A.f_law_called A.d_law_called ["_law_ups_here"] spCalled := by
  refine T.f_law_called.ok sc_law_called (fun vs H Q E h => ?_) (fun cdv A' outer s H vs Q E hr h => ?_)
  · obtain ⟨a, us, rfl, _⟩ := h
    rfl
  · obtain ⟨a, us, rfl, hH, hl, k⟩ := h
    refine ⟨_, (pss_one (ps_ret (pe_lc (own := [("_law_person", 1)]) rfl sc_law_called.nd (pi_range1 (by rfl) T.n_range (pa_cons (pe_op op_add (pe_callB (call_len_seqK K) (by rfl) T.n_len PySem.boot_len (pa_cons (pv 0) pa_nil)) pe_int) pa_nil)) (blkOk_by (own := [("_law_person", 1)]) (by kernel_rfl)) (fun _ _ _ _ _ => (pg_name (i := 1) sc_law_called.nd rfl (Or.inr rfl))) (fun _ _ _ _ _ => pts_nil) (fun _ _ _ _ _ => (pe_lc (own := [("_law_at", 2), ("_law_up", 3)]) rfl sc_law_called.nd (pi_enumK K (by rfl) T.n_enumerate (pa_cons (pv 0) pa_nil)) (blkOk_by (own := [("_law_at", 2), ("_law_up", 3)]) (by kernel_rfl)) (fun _ _ _ _ _ => (pg_tupK K (n := 2) (by rfl) (pgs_cons (pg_name (i := 2) sc_law_called.nd rfl (Or.inl rfl)) (pgs_cons (pg_name (i := 3) sc_law_called.nd rfl (Or.inl rfl)) pgs_nil)))) (fun _ _ _ _ _ => (pts_one (pt_cmpR op_eq (pv 3) (pv 1) (nomark _)))) (fun _ _ _ _ _ => (pe_op op_add (pv 2) pe_int))))))), ?_⟩
    refine ⟨_, rfl, a, us.map V.int, rfl, .inl (SqL.of hH), _, _, rfl, rfl, _, rfl, ?_, ?_, fun D hD => ?_⟩
    · rw [List.length_map]
      omega
    · rw [List.length_map]
      omega
    have hn : ((((us.map V.int).length : Nat) : Int) + 1).toNat = us.length + 1 := by
      rw [List.length_map]
      omega
    rw [hn]
    refine lc_range (lo := 0) (n := us.length + 1) (fun i H2 => ∃ rs : List Addr, rs.length = i ∧ H2 D = some (.lst (rs.map V.ref)) ∧ LL H2 rs ((rowsOf us).take i) ∧ (∀ r ∈ rs, r ≠ D) ∧ Same H H2) ⟨[], rfl, upd_same, ⟨by simp, fun p r os h1 _ => by simp at h1⟩, by simp, Same.new hD⟩ ?_ ?_
    · rintro i H2 hi ⟨rs, hlen, hd, hL, hrs, s2⟩
      refine ⟨rfl, yesT ?_⟩
      have hH2 := s2 _ _ hH
      refine ⟨_, rfl, a, us.map V.int, rfl, SqL.of hH2, fun D2 hD2 => ?_⟩
      have nD2 : D ≠ D2 := ne_of_none hd hD2
      refine lc_enum0 (K := K) (a := a) (xs := us.map V.int) (fun j H3 => Same H2 H3 ∧ H3 D2 = some (.lst ((rowOf (us.take j) ((i : Nat) : Int)).map V.int))) ⟨Same.new hD2, by rw [upd_same]; rfl⟩ (fun j H3 _ ⟨s3, _⟩ => SqL.of (s3 _ _ hH2)) ?_ ?_
      · rintro j x t H3 hj ⟨s3, hd3⟩ ht
        obtain ⟨u, hu, rfl⟩ := map_int_get hj
        have hjl : j < us.length := (List.getElem?_eq_some_iff.mp hu).1
        have elen : (us.take j).length = j := by
          rw [List.length_take]
          omega
        have nt : D2 ≠ t := ne_of_none hd3 ht
        refine ⟨t, _, rfl, SqT.of upd_same, rfl, _, _, rfl, _, _, rfl, rfl, rfl, ?_⟩
        refine ⟨_, rfl, _, rfl, rfl, _, rfl, ?_⟩
        rw [take_snoc hu, rowOf_snoc, elen]
        refine ite2 (fun he => ?_) (fun he => ?_)
        · have he : u = (i : Int) := by
            have z := of_decide_eq_true he
            injection z with z
            omega
          refine ⟨_, rfl, _, _, rfl, rfl, _, (by rw [upd_ne nt]; exact hd3), ?_, (s3.upd (s3.free ht)).upd hD2, ?_⟩
          · rw [List.length_map]
            have := rowOf_length (us.take j) ((i : Nat) : Int)
            exact small1000 (by omega)
          · rw [upd_same, if_pos he, List.map_append]
            rfl
        · have he : ¬ u = (i : Int) := fun z => he (decide_eq_true (by rw [z]; simp))
          refine ⟨s3.upd (s3.free ht), ?_⟩
          rw [upd_ne nt, if_neg he, List.append_nil]
          exact hd3
      · rintro H3 ⟨s3, hd3⟩
        rw [List.length_map, List.take_length] at hd3
        refine ⟨rs.map V.ref, s3 _ _ hd, ?_, rs ++ [D2], ?_, ?_, ⟨?_, ?_⟩, ?_, ?_⟩
        · rw [List.length_map]
          exact small1000 (by omega)
        · rw [List.length_append, hlen]
          rfl
        · rw [upd_same, List.map_append]
          rfl
        · rw [take_snoc (rowsOf_get us hi), List.length_append, List.length_append, hL.1]
          rfl
        · intro p r os hp ho
          rw [take_snoc (rowsOf_get us hi)] at ho
          by_cases hpi : p < rs.length
          · rw [List.getElem?_append_left hpi] at hp
            rw [List.getElem?_append_left (by rw [← hL.1]; exact hpi)] at ho
            rw [upd_ne (hrs r (List.mem_of_getElem? hp))]
            exact s3 _ _ (hL.2 p r os hp ho)
          · rw [List.getElem?_append_right (by omega)] at hp
            rw [List.getElem?_append_right (by rw [← hL.1]; omega), ← hL.1] at ho
            have ep : p - rs.length = 0 := by
              have := (List.getElem?_eq_some_iff.mp hp).1
              simp at this
              omega
            rw [ep] at hp ho
            have e1 : D2 = r := by simpa using hp
            have e2 : rowOf us (i : Int) = os := by simpa using ho
            subst e1 e2
            rw [upd_ne (Ne.symm nD2)]
            exact hd3
        · intro r hr'
          rcases List.mem_append.mp hr' with h1 | h1
          · exact hrs r h1
          · obtain rfl := List.mem_singleton.mp h1
            exact Ne.symm nD2
        · exact (s2.trans s3).upd hD
    · rintro H2 ⟨rs, hlen, hd, hL, hrs, s2⟩
      rw [← rowsOf_length us, List.take_length] at hL
      exact k D rs H2 s2 hD hd hL
end
end Toy

set_option Elab.async false
set_option linter.all false
set_option maxRecDepth 100000
set_option maxHeartbeats 4000000
namespace Toy
open PySem L2
def stepF (st : List Int × List (List Int)) (p : Int) : List Int × List (List Int) := match st.2[p.toNat]? with
  | some (h :: t) => (st.1 ++ [h], st.2.set p.toNat t)
  | _ => st
def stepM (rows : List (List Int)) (kn : List Int) : List Int × List (List Int) := kn.foldl stepF ([], rows)
inductive Goes (n : Nat) : List Int → List (List Int) → Int → Int → Prop where
  | stop {kn rows r} (h : ¬ kn.length < n) : Goes n kn rows r r
  | stuck {kn rows r} (h : kn.length < n) (h2 : (stepM rows kn).1 = []) : Goes n kn rows r (-1)
  | step {kn rows r z} (h : kn.length < n) (h2 : (stepM rows kn).1 ≠ []) (h3 : Goes n (kn ++ (stepM rows kn).1) (stepM rows kn).2 (r + 1) z) : Goes n kn rows r z
def InN (n : Nat) (rows : List (List Int)) : Prop := ∀ row ∈ rows, ∀ c ∈ row, 0 ≤ c ∧ c.toNat < n
theorem stepF_len (st : List Int × List (List Int)) (p : Int) : (stepF st p).2.length = st.2.length ∧ (stepF st p).1.length ≤ st.1.length + 1 := by
  unfold stepF
  split
  · simp
  · simp
theorem stepF_in {n : Nat} {st : List Int × List (List Int)} {p : Int} (h1 : ∀ c ∈ st.1, 0 ≤ c ∧ c.toNat < n) (h2 : InN n st.2) : (∀ c ∈ (stepF st p).1, 0 ≤ c ∧ c.toNat < n) ∧ InN n (stepF st p).2 := by
  unfold stepF
  split
  · rename_i h t e
    have hm := List.mem_of_getElem? e
    refine ⟨fun c hc => ?_, fun row hr c hc => ?_⟩
    · rcases List.mem_append.mp hc with hc | hc
      · exact h1 c hc
      · obtain rfl := List.mem_singleton.mp hc
        exact h2 _ hm c List.mem_cons_self
    · rcases List.mem_or_eq_of_mem_set hr with hr | rfl
      · exact h2 row hr c hc
      · exact h2 _ hm c (List.mem_cons_of_mem _ hc)
  · exact ⟨h1, h2⟩
theorem fold_all {n : Nat} : ∀ (kn : List Int) (st : List Int × List (List Int)), (∀ c ∈ st.1, 0 ≤ c ∧ c.toNat < n) → InN n st.2 → (∀ c ∈ (kn.foldl stepF st).1, 0 ≤ c ∧ c.toNat < n) ∧ InN n (kn.foldl stepF st).2 ∧ (kn.foldl stepF st).2.length = st.2.length ∧ (kn.foldl stepF st).1.length ≤ st.1.length + kn.length
  | [], st, h1, h2 => ⟨h1, h2, rfl, Nat.le_refl _⟩
  | p :: r, st, h1, h2 => by
    have q := stepF_in (p := p) h1 h2
    have z := stepF_len st p
    obtain ⟨a, b, c, d⟩ := fold_all r (stepF st p) q.1 q.2
    refine ⟨a, b, c.trans z.1, ?_⟩
    have d : (r.foldl stepF (stepF st p)).1.length ≤ (stepF st p).1.length + r.length := d
    show (r.foldl stepF (stepF st p)).1.length ≤ st.1.length + (r.length + 1)
    omega
theorem step_all {n : Nat} {rows : List (List Int)} (h2 : InN n rows) (kn : List Int) : (∀ c ∈ (stepM rows kn).1, 0 ≤ c ∧ c.toNat < n) ∧ InN n (stepM rows kn).2 ∧ (stepM rows kn).2.length = rows.length ∧ (stepM rows kn).1.length ≤ kn.length := by
  have q := fold_all kn ([], rows) (by simp) h2
  refine ⟨q.1, q.2.1, q.2.2.1, ?_⟩
  have z := q.2.2.2
  show (kn.foldl stepF ([], rows)).1.length ≤ kn.length
  simpa using z
theorem step_take {rows : List (List Int)} {kn : List Int} {j : Nat} {p : Int} (h : kn[j]? = some p) : stepM rows (kn.take (j + 1)) = stepF (stepM rows (kn.take j)) p := by
  unfold stepM
  rw [take_snoc h, List.foldl_append]
  rfl
theorem LL.set {H : Hp} {rs : List Addr} {oss : List (List Int)} {p : Nat} {r : Addr} {t : List Int} (h : LL H rs oss) (hp : rs[p]? = some r) (nd : rs.Nodup) : LL (upd H r (.lst (t.map V.int))) rs (oss.set p t) := by
  refine ⟨by rw [List.length_set]; exact h.1, fun q r' os hq ho => ?_⟩
  by_cases hqp : q = p
  · subst hqp
    rw [hp] at hq
    cases hq
    rw [List.getElem?_set_self (by rw [← h.1]; exact (List.getElem?_eq_some_iff.mp hp).1)] at ho
    cases ho
    exact upd_same
  · rw [List.getElem?_set_ne (Ne.symm hqp)] at ho
    rw [upd_ne (fun z => hqp (nd_ix nd hq (by rw [z]; exact hp)))]
    exact h.2 q r' os hq ho
theorem LL.upd {H : Hp} {rs : List Addr} {oss : List (List Int)} {a : Addr} {o : HO} (h : LL H rs oss) (n : a ∉ rs) : LL (L2.upd H a o) rs oss :=
  ⟨h.1, fun p r os hp ho => by rw [upd_ne (fun z => n (by rw [← z]; exact List.mem_of_getElem? hp))]; exact h.2 p r os hp ho⟩
def knLen (σ : St) (H : Hp) : Nat := match σ[1]? with
  | some (some (V.ref kb)) => (match H kb with
    | some (HO.lst xs) => xs.length
    | _ => 0)
  | _ => 0
theorem knLen_of {x0 : Option V} {r : List (Option V)} {H : Hp} {kb : Addr} {xs : List V} (h : H kb = some (.lst xs)) : knLen (x0 :: some (.ref kb) :: r) H = xs.length := by
  show (match H kb with
    | some (HO.lst xs) => xs.length
    | _ => 0) = xs.length
  rw [h]
section
variable {P : Program} {w : World} {K : PySem.W.Frag} {mg : Str → Option Value} {base : Heap} {A : Adr}
def spLast : Sp := fun vs H Q _ => ∃ (a : Addr) (rs : List Addr) (oss : List (List Int)) (z : Int), vs = [.ref a] ∧ H a = some (.lst (rs.map V.ref)) ∧ LL H rs oss ∧ 0 < oss.length ∧ oss.length < 400 ∧ InN oss.length oss ∧ Goes oss.length [0] oss 0 z ∧ ∀ H', Same H H' → Q (.int z) H'
theorem sc_law_last : FnScope ["_law_orders", "_law_knows", "_law_rows", "_law_rounds", "_law_told", "_law_row", "_law_person"] ["_law_orders"] (defScope s_law_last) := ⟨rfl, rfl, rfl, by decide +kernel, rfl, by decide +kernel, by decide +kernel⟩
theorem ok_law_last (T : Txt K mg A) : FnOk P w K mg base CX0 1 A.f_law_last A.d_law_last ["_law_orders"] spLast := by
  refine T.f_law_last.ok sc_law_last (fun vs H Q E h => ?_) (fun cdv A' outer s H vs Q E hr h => ?_)
  · obtain ⟨a, rs, oss, z, rfl, _⟩ := h
    rfl
  · obtain ⟨a, rs, oss, z, rfl, hH, hL, hn0, hn1, hin, hgo, k⟩ := h
    refine ⟨_, (pss_cons (ps_asg (pe_tup (pa_cons (pe_lst (pa_cons pe_int pa_nil)) (pa_cons (pe_lc (own := [("_law_row", 5)]) rfl sc_law_last.nd (pi_listK K (pv 0)) (blkOk_by (own := [("_law_row", 5)]) (by kernel_rfl)) (fun _ _ _ _ _ => (pg_name (i := 5) sc_law_last.nd rfl (Or.inl rfl))) (fun _ _ _ _ _ => pts_nil) (fun _ _ _ _ _ => (pe_callTy (call_list_ofK K) (by rfl) T.n_list (by decide +kernel) (pa_cons (pv 5) pa_nil)))) (pa_cons pe_int pa_nil)))) (pg_tupK K (n := 3) (by rfl) (pgs_cons (pg_name (i := 1) sc_law_last.nd rfl (Or.inl rfl)) (pgs_cons (pg_name (i := 2) sc_law_last.nd rfl (Or.inr rfl)) (pgs_cons (pg_name (i := 3) sc_law_last.nd rfl (Or.inl rfl)) pgs_nil)))))
      (pss_cons (ps_while PassesOwn.never (pt_cmpR op_lt (pe_callB (call_len_seqK K) (by rfl) T.n_len PySem.boot_len (pa_cons (pv 1) pa_nil)) (pe_callB (call_len_seqK K) (by rfl) T.n_len PySem.boot_len (pa_cons (pv 0) pa_nil)) (nomark _)) (pss_cons (ps_setLc (i := 4) (own := [("_law_person", 6)]) rfl sc_law_last.nd rfl rfl (sw_true rfl rfl rfl (by decide +kernel)) (pi_listK K (pv 1)) (blkOk_by (own := [("_law_person", 6)]) (by kernel_rfl)) (fun _ _ _ _ _ => (pg_name (i := 6) sc_law_last.nd rfl (Or.inl rfl))) (fun _ _ _ _ _ => (pts_one (pt_cmpR (op_neDK K hr.units) (pe_ix (ix_listK K) (pv 2) (pv 6) (fun _ _ => rfl)) (pe_lst pa_nil) (nomark _)))) (fun _ _ _ _ _ => (pe_bmK K PySem.F.plainAttrs_list PySem.F.slot_list_pop PySem.F.type_list_pop mt_popAt (pe_ix (ix_listK K) (pv 2) (pv 6) (fun _ _ => rfl)) (pa_cons pe_int pa_nil))))
      (pss_cons (ps_if (pt_cmpR (op_eqDK K hr.units) (pv 4) (pe_lst pa_nil) (nomark _)) (pss_one (ps_ret (pe_un un_neg pe_int))) pss_nil)
      (pss_one (ps_par (i := 1) (j := 3) (by rfl) sc_law_last.nd rfl rfl (by decide) rfl rfl (pa_cons (pe_op op_cat (pv 1) (pv 4)) (pa_cons (pe_op op_add (pv 3) pe_int) pa_nil)) (by rfl))))))
      (pss_one (ps_ret (pv 3))))), ?_⟩
    refine ⟨(by show 1 ≤ sizeLine; decide), fun ka hka => ?_⟩
    have s1 : Same H (upd H ka (.lst [.int 0])) := Same.new hka
    have hH1 := s1 _ _ hH
    refine ⟨_, rfl, a, rfl, ⟨_, SqL.of hH1⟩, fun R hR => ?_⟩
    have hRk : ka ≠ R := fun e => by
      rw [← e, upd_same] at hR
      cases hR
    have hRH : H R = none := s1.free hR
    refine lc_list (K := K) (a := a) (xs := rs.map V.ref) (fun i H2 => Same (upd H ka (.lst [.int 0])) H2 ∧ ∃ rs' : List Addr, rs'.length = i ∧ H2 R = some (.lst (rs'.map V.ref)) ∧ LL H2 rs' (oss.take i) ∧ (∀ r ∈ rs', H r = none ∧ r ≠ R ∧ r ≠ ka) ∧ rs'.Nodup)
      ⟨Same.new hR, [], rfl, upd_same, ⟨by simp, fun p r os h1 _ => by simp at h1⟩, by simp, List.nodup_nil⟩ (fun i H2 _ ⟨s2, _⟩ => SqL.of (s2 _ _ hH1)) ?_ ?_
    · rintro i x H2 hi ⟨s2, rs', hlen', hd, hL', hn', hnd⟩
      obtain ⟨r, hr0, rfl⟩ := ref_get hi
      have hil : i < rs.length := (List.getElem?_eq_some_iff.mp hr0).1
      obtain ⟨os, ho⟩ : ∃ os, oss[i]? = some os := ⟨_, List.getElem?_eq_getElem (by rw [← hL.1]; exact hil)⟩
      have hr2 := s2 _ _ (s1 _ _ (hL.2 i r os hr0 ho))
      refine ⟨rfl, yesT ?_⟩
      refine ⟨_, rfl, r, _, rfl, .inl (SqL.of hr2), fun q hq => ⟨rs'.map V.ref, ?_, ?_, (s2.upd (s2.free hq)).upd hR, rs' ++ [q], ?_, ?_, ⟨?_, ?_⟩, ?_, ?_⟩⟩
      · rw [upd_ne (ne_of_none hd hq)]
        exact hd
      · rw [List.length_map, hlen']
        have := hL.1
        exact small1000 (by omega)
      · rw [List.length_append, hlen']
        rfl
      · rw [upd_same, List.map_append]
        rfl
      · rw [take_snoc ho, List.length_append, List.length_append, hL'.1]
        rfl
      · intro p r' os' hp ho'
        rw [take_snoc ho] at ho'
        have nq : q ≠ R := Ne.symm (ne_of_none hd hq)
        by_cases hpi : p < rs'.length
        · rw [List.getElem?_append_left hpi] at hp
          rw [List.getElem?_append_left (by rw [← hL'.1]; exact hpi)] at ho'
          have e := hL'.2 p r' os' hp ho'
          rw [upd_ne (hn' r' (List.mem_of_getElem? hp)).2.1, upd_ne (ne_of_none e hq)]
          exact e
        · rw [List.getElem?_append_right (by omega)] at hp
          rw [List.getElem?_append_right (by rw [← hL'.1]; omega), ← hL'.1] at ho'
          have ep : p - rs'.length = 0 := by
            have := (List.getElem?_eq_some_iff.mp hp).1
            simp at this
            omega
          rw [ep] at hp ho'
          have e1 : q = r' := by simpa using hp
          have e2 : os = os' := by simpa using ho'
          subst e1 e2
          rw [upd_ne nq, upd_same]
      · intro r' hr'
        rcases List.mem_append.mp hr' with h1 | h1
        · exact hn' r' h1
        · obtain rfl := List.mem_singleton.mp h1
          exact ⟨s1.free (s2.free hq), Ne.symm (ne_of_none hd hq), Ne.symm (ne_of_none (s2 _ _ upd_same) hq)⟩
      · refine nd_snoc hnd fun h1 => ?_
        obtain ⟨p, hp⟩ := List.getElem?_of_mem h1
        obtain ⟨os', ho'⟩ : ∃ os', (oss.take i)[p]? = some os' := ⟨_, List.getElem?_eq_getElem (by rw [← hL'.1]; exact (List.getElem?_eq_some_iff.mp hp).1)⟩
        rw [hL'.2 p q os' hp ho'] at hq
        cases hq
    · rintro H2 ⟨s2, rs', hlen', hd, hL', hn', hnd⟩
      rw [List.length_map, hL.1, List.take_length] at hL'
      rw [List.length_map] at hlen'
      have hka2 : H2 ka = some (.lst [.int 0]) := s2 _ _ upd_same
      refine ⟨(by show 3 ≤ sizeLine; decide), fun t ht => ?_⟩
      have nt : ∀ {b o}, H2 b = some o → b ≠ t := fun {b o} e => ne_of_none e ht
      refine ⟨t, _, rfl, SqT.of upd_same, rfl, _, _, rfl, _, _, rfl, _, _, rfl, rfl, ?_⟩
      have tn : t ∉ rs' := fun h1 => by
        obtain ⟨p, hp⟩ := List.getElem?_of_mem h1
        obtain ⟨os', ho'⟩ : ∃ os', oss[p]? = some os' := ⟨_, List.getElem?_eq_getElem (by rw [← hL'.1]; exact (List.getElem?_eq_some_iff.mp hp).1)⟩
        rw [hL'.2 p t os' hp ho'] at ht
        cases ht
      refine while_by (fun σ H3 => ∃ (kb : Addr) (kn : List Int) (rows : List (List Int)) (rd : Int) (x y v : Option V), σ = [some (.ref a), some (.ref kb), some (.ref R), some (.int rd), x, y, v] ∧ Same H H3 ∧ H3 kb = some (.lst (kn.map V.int)) ∧ kb ∉ rs' ∧ kb ≠ R ∧ H kb = none ∧ H3 R = some (.lst (rs'.map V.ref)) ∧ LL H3 rs' rows ∧ InN oss.length rows ∧
          (∀ c ∈ kn, 0 ≤ c ∧ c.toNat < oss.length) ∧ kn.length < 1000 ∧ Goes oss.length kn rows rd z)
        (fun σ H3 => oss.length - knLen σ H3)
        ⟨ka, [0], oss, 0, none, none, none, rfl, (s1.trans s2).upd ((s1.trans s2).free ht), (by rw [upd_ne (nt hka2)]; exact hka2), fun h1 => (hn' ka h1).2.2 rfl, hRk, hka, (by rw [upd_ne (nt hd)]; exact hd), hL'.upd tn, hin, by simpa using hn0, by decide, hgo⟩ ?_ ?_
      · rintro σ H3 ⟨kb, kn, rows, rd, x, y, v, rfl, s3, hkb, hkr, hkR, hkH, hR3, hL3, hin3, hkn, hk100, hgo3⟩
        have hH3 := s3 _ _ hH
        refine ⟨_, rfl, kb, _, rfl, .inl (SqL.of hkb), _, rfl, a, _, rfl, .inl (SqL.of hH3), _, _, rfl, rfl, _, rfl, ?_⟩
        have hll : ((rs.map V.ref).length : Int) = (oss.length : Int) := by
          rw [List.length_map, hL.1]
        have hkl : ((kn.map V.int).length : Int) = (kn.length : Int) := by
          rw [List.length_map]
        refine ite2 (fun hlt => ?_) (fun hlt => ?_)
        · have hlt : kn.length < oss.length := by
            have := of_decide_eq_true hlt
            omega
          refine ⟨_, rfl, kb, rfl, ⟨_, SqL.of hkb⟩, fun D hD => ?_⟩
          have hDH : H D = none := s3.free hD
          have Dr : D ∉ rs' := fun h1 => by
            obtain ⟨p, hp⟩ := List.getElem?_of_mem h1
            obtain ⟨os', ho'⟩ : ∃ os', rows[p]? = some os' := ⟨_, List.getElem?_eq_getElem (by rw [← hL3.1]; exact (List.getElem?_eq_some_iff.mp hp).1)⟩
            rw [hL3.2 p D os' hp ho'] at hD
            cases hD
          have nDk : kb ≠ D := ne_of_none hkb hD
          have nDR : R ≠ D := ne_of_none hR3 hD
          have hrl : rows.length = rs'.length := hL3.1.symm
          have hrsl : rs'.length = oss.length := hL'.1
          refine lc_list (K := K) (a := kb) (xs := kn.map V.int) (fun j H4 => Same H H4 ∧ H4 kb = some (.lst (kn.map V.int)) ∧ H4 R = some (.lst (rs'.map V.ref)) ∧ H4 D = some (.lst ((stepM rows (kn.take j)).1.map V.int)) ∧ LL H4 rs' (stepM rows (kn.take j)).2)
            ⟨s3.upd hDH, by rw [upd_ne nDk]; exact hkb, by rw [upd_ne nDR]; exact hR3, upd_same, hL3.upd Dr⟩ (fun j H4 _ ⟨_, q, _⟩ => SqL.of q) ?_ ?_
          · rintro j x1 H4 hj ⟨s4, hk4, hR4, hD4, hL4⟩
            obtain ⟨p, hp, rfl⟩ := map_int_get hj
            have hpb := hkn p (List.mem_of_getElem? hp)
            have hjl : j < kn.length := (List.getElem?_eq_some_iff.mp hp).1
            have sa := step_all hin3 (kn.take j)
            rw [step_take hp]
            have hpl : p.toNat < rs'.length := by omega
            obtain ⟨r, hr0⟩ : ∃ r, rs'[p.toNat]? = some r := ⟨_, List.getElem?_eq_getElem hpl⟩
            obtain ⟨row, hrow⟩ : ∃ row, (stepM rows (kn.take j)).2[p.toNat]? = some row := ⟨_, List.getElem?_eq_getElem (by rw [sa.2.2.1]; omega)⟩
            have hr4 := hL4.2 _ _ _ hr0 hrow
            have item : atI (rs'.map V.ref) p = some (.ref r) := at_of (j := p.toNat) (by omega) (by rw [List.getElem?_map, hr0]; rfl)
            refine ⟨rfl, ?_⟩
            refine ⟨_, rfl, _, rfl, R, _, p, .ref r, rfl, rfl, SqL.of hR4, item, Nat.zero_le _, fun e he => ?_⟩
            have ne : ∀ {b o}, H4 b = some o → b ≠ e := fun {b o} q => ne_of_none q he
            refine ⟨.list (row.map PyData.int), .list [], dp_ints (SqL.of (by rw [upd_ne (ne hr4)]; exact hr4)), .lst (SqL.of upd_same) .nil, shaped_ints row, shaped_ints [], _, rfl, ?_⟩
            rw [eqv_nil]
            have er : e ∉ rs' := fun h1 => by
              obtain ⟨q, hq⟩ := List.getElem?_of_mem h1
              obtain ⟨os', ho'⟩ : ∃ os', (stepM rows (kn.take j)).2[q]? = some os' := ⟨_, List.getElem?_eq_getElem (by rw [← hL4.1]; exact (List.getElem?_eq_some_iff.mp hq).1)⟩
              rw [hL4.2 q e os' hq ho'] at he
              cases he
            cases row with
            | nil =>
              refine iteF ?_
              have es : stepF (stepM rows (kn.take j)) p = stepM rows (kn.take j) := by
                unfold stepF
                rw [hrow]
              rw [es]
              exact ⟨s4.upd (s4.free he), by rw [upd_ne (ne hk4)]; exact hk4, by rw [upd_ne (ne hR4)]; exact hR4, by rw [upd_ne (ne hD4)]; exact hD4, hL4.upd er⟩
            | cons h0 t0 =>
              refine iteT ?_
              have es : stepF (stepM rows (kn.take j)) p = ((stepM rows (kn.take j)).1 ++ [h0], (stepM rows (kn.take j)).2.set p.toNat t0) := by
                unfold stepF
                rw [hrow]
              rw [es]
              have hrm : r ∈ rs' := List.mem_of_getElem? hr0
              have nrD : D ≠ r := fun q => Dr (by rw [q]; exact hrm)
              have nrk : kb ≠ r := fun q => hkr (by rw [q]; exact hrm)
              have nrR : R ≠ r := Ne.symm (hn' r hrm).2.1
              have hre : (upd H4 e (.lst [])) r = some (.lst ((h0 :: t0).map V.int)) := by
                rw [upd_ne (ne hr4)]
                exact hr4
              refine ⟨_, rfl, _, rfl, R, _, p, .ref r, rfl, rfl, SqL.of (by rw [upd_ne (ne hR4)]; exact hR4), item, .inl ⟨rfl, _, SqL.of hre⟩, r, _, 0, 0, .int h0, rfl, rfl, hre, by decide, by decide, (by unfold seqIndex?; simp), rfl, ?_⟩
              have eer : ((h0 :: t0).map V.int).eraseIdx 0 = t0.map V.int := rfl
              rw [eer]
              have hD5 : (upd (upd H4 e (.lst [])) r (.lst (t0.map V.int))) D = some (.lst ((stepM rows (kn.take j)).1.map V.int)) := by
                rw [upd_ne nrD, upd_ne (ne hD4)]
                exact hD4
              refine ⟨_, hD5, ?_, ((s4.upd (s4.free he)).upd (hn' r hrm).1).upd hDH, ?_, ?_, ?_, ?_⟩
              · rw [List.length_map]
                have := sa.2.2.2
                rw [List.length_take] at this
                exact small1000 (by omega)
              · rw [upd_ne nDk, upd_ne nrk, upd_ne (ne hk4)]
                exact hk4
              · rw [upd_ne nDR, upd_ne nrR, upd_ne (ne hR4)]
                exact hR4
              · rw [upd_same, List.map_append]
                rfl
              · exact ((hL4.upd er).set hr0 hnd).upd Dr
          · rintro H4 ⟨s4, hk4, hR4, hD4, hL4⟩
            rw [List.length_map, List.take_length] at hD4 hL4
            have sa := step_all hin3 kn
            refine ⟨_, rfl, Nat.zero_le _, fun e he => ?_⟩
            have ne : ∀ {b o}, H4 b = some o → b ≠ e := fun {b o} q => ne_of_none q he
            have er : e ∉ rs' := fun h1 => by
              obtain ⟨q, hq⟩ := List.getElem?_of_mem h1
              obtain ⟨os', ho'⟩ : ∃ os', (stepM rows kn).2[q]? = some os' := ⟨_, List.getElem?_eq_getElem (by rw [← hL4.1]; exact (List.getElem?_eq_some_iff.mp hq).1)⟩
              rw [hL4.2 q e os' hq ho'] at he
              cases he
            refine ⟨.list ((stepM rows kn).1.map PyData.int), .list [], dp_ints (SqL.of (by rw [upd_ne (ne hD4)]; exact hD4)), .lst (SqL.of upd_same) .nil, shaped_ints _, shaped_ints [], _, rfl, ?_⟩
            rw [eqv_nil]
            have s5 := s4.upd (o := .lst []) (s4.free he)
            refine ite2 (fun h0 => ?_) (fun h0 => ?_)
            · have h0 := of_decide_eq_true h0
              refine ⟨_, rfl, ?_⟩
              cases hgo3 with
              | stop h => exact absurd hlt h
              | stuck _ _ => exact k _ s5
              | step _ h2 _ => exact absurd h0 h2
            · have h0 : (stepM rows kn).1 ≠ [] := fun q => h0 (decide_eq_true q)
              have hgo5 : Goes oss.length (kn ++ (stepM rows kn).1) (stepM rows kn).2 (rd + 1) z := by
                cases hgo3 with
                | stop h => exact absurd hlt h
                | stuck _ h2 => exact absurd h2 h0
                | step _ _ h3 => exact h3
              have hk5 : (upd H4 e (.lst [])) kb = some (.lst (kn.map V.int)) := by
                rw [upd_ne (ne hk4)]
                exact hk4
              have hD5 : (upd H4 e (.lst [])) D = some (.lst ((stepM rows kn).1.map V.int)) := by
                rw [upd_ne (ne hD4)]
                exact hD4
              have hR5 : (upd H4 e (.lst [])) R = some (.lst (rs'.map V.ref)) := by
                rw [upd_ne (ne hR4)]
                exact hR4
              have hL5 := hL4.upd (o := .lst []) er
              refine ⟨_, rfl, _, rfl, kb, D, _, _, rfl, rfl, hk5, hD5, ?_, fun kc hkc => ?_⟩
              · rw [List.length_map, List.length_map]
                have := sa.2.2.2
                exact Nat.le_of_lt (small1000 (by omega))
              refine ⟨_, rfl, _, _, rfl, rfl, _, _, rfl, ?_⟩
              have nk : ∀ {b o}, (upd H4 e (.lst [])) b = some o → b ≠ kc := fun {b o} q => ne_of_none q hkc
              have kcr : kc ∉ rs' := fun h1 => by
                obtain ⟨q, hq⟩ := List.getElem?_of_mem h1
                obtain ⟨os', ho'⟩ : ∃ os', (stepM rows kn).2[q]? = some os' := ⟨_, List.getElem?_eq_getElem (by rw [← hL5.1]; exact (List.getElem?_eq_some_iff.mp hq).1)⟩
                rw [hL5.2 q kc os' hq ho'] at hkc
                cases hkc
              have hlt1 : 0 < (stepM rows kn).1.length := List.length_pos_iff.mpr h0
              refine ⟨⟨kc, kn ++ (stepM rows kn).1, (stepM rows kn).2, rd + 1, _, _, _, rfl, s5.upd (s5.free hkc), ?_, kcr, Ne.symm (nk hR5), s5.free hkc, ?_, hL5.upd kcr, sa.2.1, fun c hc => ?_, ?_, hgo5⟩, ?_⟩
              · rw [upd_same, List.map_append]
              · rw [upd_ne (nk hR5)]
                exact hR5
              · rcases List.mem_append.mp hc with hc | hc
                · exact hkn c hc
                · exact sa.1 c hc
              · rw [List.length_append]
                have := sa.2.2.2
                omega
              · have e1 := knLen_of (x0 := some (.ref a)) (r := [some (.ref R), some (.int rd), x, y, v]) hkb
                have e2 := knLen_of (x0 := some (.ref a)) (r := [some (.ref R), some (.int (rd + 1)), some (.ref D), y, v]) (upd_same (H := upd H4 e (.lst [])) (a := kc) (o := .lst (kn.map V.int ++ (stepM rows kn).1.map V.int)))
                show oss.length - knLen (some (.ref a) :: some (.ref kc) :: [some (.ref R), some (.int (rd + 1)), some (.ref D), y, v]) _ < oss.length - knLen (some (.ref a) :: some (.ref kb) :: [some (.ref R), some (.int rd), x, y, v]) H3
                rw [e1, e2, List.length_append, List.length_map, List.length_map]
                omega
        · have hlt : ¬ kn.length < oss.length := fun q => hlt (decide_eq_true (by omega))
          refine ⟨_, rfl, ?_⟩
          cases hgo3 with
          | stop _ => exact k _ s3
          | stuck h _ => exact absurd h hlt
          | step h _ _ => exact absurd h hlt
      · intro σ H3 Q1 Q2 hq hc
        obtain ⟨v1, e1, p1, y1, e2, h2, v2, e3, p2, y2, e4, h4, i1, j1, e5, e6, b1, e7, q1⟩ := hc
        exact ⟨v1, e1, p1, y1, e2, h2, v2, e3, p2, y2, e4, h4, i1, j1, e5, e6, b1, e7, hq _ _ q1⟩
end
end Toy

set_option Elab.async false
set_option linter.all false
set_option maxRecDepth 100000
set_option maxHeartbeats 4000000
namespace Toy
open PySem L2
def insAt (s : List Int) (one : Int) (k : Nat) : List Int := s.take k ++ [one] ++ s.drop k
def insAll (one : Int) (s : List Int) : List (List Int) := (List.range (s.length + 1)).map fun k => insAt s one k
def longerM (found : List (List Int)) (one : Int) : List (List Int) := found.flatMap (insAll one)
def turnsM (row : List Int) : List (List Int) := row.foldl longerM [[]]
theorem big_size {n : Nat} (h : n ≤ 100000) : n < sizeLine := Nat.lt_of_le_of_lt h (by decide)
theorem cut_take {s : List Int} {k : Nat} (h : k ≤ s.length) : cutV (s.map V.int) none (some (k : Int)) = (s.take k).map V.int := by
  unfold cutV
  rw [HT.sIx_none, HT.sIx_nat, List.drop_zero, Nat.sub_zero, List.length_map, Nat.min_eq_left h, List.map_take]
theorem cut_drop {s : List Int} {k : Nat} (h : k ≤ s.length) : cutV (s.map V.int) (some (k : Int)) none = (s.drop k).map V.int := by
  unfold cutV
  rw [HT.sIx_none, HT.sIx_nat, List.length_map, Nat.min_eq_left h, ← List.map_drop, List.take_of_length_le (by simp)]
theorem LL.app {H : Hp} {rs rs' : List Addr} {os os' : List (List Int)} (h : LL H rs os) (h' : LL H rs' os') : LL H (rs ++ rs') (os ++ os') := by
  refine ⟨by rw [List.length_append, List.length_append, h.1, h'.1], fun p r o hp ho => ?_⟩
  by_cases hpi : p < rs.length
  · rw [List.getElem?_append_left hpi] at hp
    rw [List.getElem?_append_left (by rw [← h.1]; exact hpi)] at ho
    exact h.2 p r o hp ho
  · rw [List.getElem?_append_right (by omega)] at hp
    rw [List.getElem?_append_right (by rw [← h.1]; omega), ← h.1] at ho
    exact h'.2 _ r o hp ho
theorem LL.one {H : Hp} {r : Addr} {o : List Int} (h : H r = some (.lst (o.map V.int))) : LL H [r] [o] := by
  refine ⟨rfl, fun p r' o' hp ho => ?_⟩
  have ep : p = 0 := by
    have := (List.getElem?_eq_some_iff.mp hp).1
    simp at this
    omega
  subst ep
  have e1 : r = r' := by simpa using hp
  have e2 : o = o' := by simpa using ho
  subst e1 e2
  exact h
theorem LL.notin {H : Hp} {rs : List Addr} {os : List (List Int)} {a : Addr} (h : LL H rs os) (ha : H a = none) : a ∉ rs := fun h1 => by
  obtain ⟨p, hp⟩ := List.getElem?_of_mem h1
  obtain ⟨o, ho⟩ : ∃ o, os[p]? = some o := ⟨_, List.getElem?_eq_getElem (by rw [← h.1]; exact (List.getElem?_eq_some_iff.mp hp).1)⟩
  rw [h.2 p a o hp ho] at ha
  cases ha
theorem LL.nil {H : Hp} : LL H [] [] := ⟨rfl, fun p r o hp _ => by simp at hp⟩
theorem insAll_length (one : Int) (s : List Int) : (insAll one s).length = s.length + 1 := by
  unfold insAll
  simp
theorem longer_len {one : Int} {m : Nat} : ∀ {found : List (List Int)}, (∀ s ∈ found, s.length = m) → (longerM found one).length = found.length * (m + 1) ∧ ∀ s ∈ longerM found one, s.length = m + 1
  | [], _ => ⟨by simp [longerM], by simp [longerM]⟩
  | s :: r, h => by
    have ih := longer_len (one := one) (m := m) (found := r) fun s hs => h s (List.mem_cons_of_mem _ hs)
    have e : longerM (s :: r) one = insAll one s ++ longerM r one := rfl
    have hs := h s List.mem_cons_self
    rw [e]
    refine ⟨?_, fun t ht => ?_⟩
    · rw [List.length_append, insAll_length, ih.1, hs, List.length_cons, Nat.succ_mul]
      omega
    · rcases List.mem_append.mp ht with ht | ht
      · unfold insAll at ht
        obtain ⟨k, hk, rfl⟩ := List.mem_map.mp ht
        have hk := List.mem_range.mp hk
        unfold insAt
        simp
        omega
      · exact ih.2 t ht
theorem turns_size {cs : List Int} (h : cs.length ≤ 5) (i : Nat) (hi : i ≤ cs.length) : (turnsM (cs.take i)).length ≤ 6 ^ i ∧ ∀ s ∈ turnsM (cs.take i), s.length = i := by
  induction i with
  | zero => exact ⟨by simp [turnsM], by simp [turnsM]⟩
  | succ i ih =>
    have ih := ih (by omega)
    obtain ⟨c, hc⟩ : ∃ c, cs[i]? = some c := ⟨_, List.getElem?_eq_getElem (by omega)⟩
    have e : turnsM (cs.take (i + 1)) = longerM (turnsM (cs.take i)) c := by
      rw [take_snoc hc]
      unfold turnsM
      rw [List.foldl_append]
      rfl
    rw [e]
    have q := longer_len (one := c) ih.2
    refine ⟨?_, q.2⟩
    rw [q.1, Nat.pow_succ]
    exact Nat.mul_le_mul ih.1 (by omega)
section
variable {P : Program} {w : World} {K : PySem.W.Frag} {mg : Str → Option Value} {base : Heap} {A : Adr}
def spTurns : Sp := fun vs H Q _ => ∃ (r : Addr) (cs : List Int), vs = [.ref r] ∧ H r = some (.lst (cs.map V.int)) ∧ cs.length ≤ 5 ∧
  ∀ (b : Addr) (rs : List Addr) (H' : Hp), Same H H' → H b = none → H' b = some (.lst (rs.map V.ref)) → LL H' rs (turnsM cs) → (∀ r ∈ rs, H r = none) → Q (.ref b) H'
theorem sc_law_turns : FnScope ["_law_row", "_law_found", "_law_one", "_law_longer", "_law_some", "_law_at"] ["_law_row"] (defScope s_law_turns) := ⟨rfl, rfl, rfl, by decide +kernel, rfl, by decide +kernel, by decide +kernel⟩
theorem ok_law_turns (T : Txt K mg A) : FnOk P w K mg base CX0 1 A.f_law_turns A.d_law_turns ["_law_row"] spTurns := by
  refine T.f_law_turns.ok sc_law_turns (fun vs H Q E h => ?_) (fun cdv A' outer s H vs Q E hr h => ?_)
  · obtain ⟨r, cs, rfl, _⟩ := h
    rfl
  · obtain ⟨r, cs, rfl, hH, hc5, k⟩ := h
    refine ⟨_, (pss_cons (ps_set (i := 1) sc_law_turns.nd rfl (Or.inl rfl) (pe_lst (pa_cons (pe_lst pa_nil) pa_nil)))
      (pss_cons (ps_for PassesOwn.never rfl (pi_listK K (pv 0)) (pg_name (i := 2) sc_law_turns.nd rfl (Or.inr rfl)) (pss_cons (ps_set (i := 3) sc_law_turns.nd rfl (Or.inl rfl) (pe_lst pa_nil))
      (pss_cons (ps_for PassesOwn.never rfl (pi_listK K (pv 1)) (pg_name (i := 4) sc_law_turns.nd rfl (Or.inr rfl)) (pss_one (ps_expr (pe_bmK K PySem.F.plainAttrs_list PySem.F.slot_list_extend PySem.F.type_list_extend mt_extend (pv 3) (pa_cons (pe_lc (own := [("_law_at", 5)]) rfl sc_law_turns.nd (pi_range1 (by rfl) T.n_range (pa_cons (pe_op op_add (pe_callB (call_len_seqK K) (by rfl) T.n_len PySem.boot_len (pa_cons (pv 4) pa_nil)) pe_int) pa_nil)) (blkOk_by (own := [("_law_at", 5)]) (by kernel_rfl)) (fun _ _ _ _ _ => (pg_name (i := 5) sc_law_turns.nd rfl (Or.inl rfl))) (fun _ _ _ _ _ => pts_nil) (fun _ _ _ _ _ => (pe_op op_cat (pe_op op_cat (pe_slice (sl_listK K) (pv 4) po_none (po_some (pv 5))) (pe_lst (pa_cons (pv 2) pa_nil))) (pe_slice (sl_listK K) (pv 4) (po_some (pv 5)) po_none)))) pa_nil)))))
      (pss_one (ps_set (i := 1) sc_law_turns.nd rfl (Or.inl rfl) (pv 3))))))
      (pss_one (ps_ret (pv 1))))), ?_⟩
    refine ⟨Nat.zero_le _, fun e0 he0 => ⟨(by show 1 ≤ sizeLine; decide), fun f0 hf0 => ?_⟩⟩
    have s0 : Same H (upd H e0 (.lst [])) := Same.new he0
    have s1 : Same H (upd (upd H e0 (.lst [])) f0 (.lst [.ref e0])) := s0.upd (s0.free hf0)
    have nef : e0 ≠ f0 := fun z => by
      rw [← z, upd_same] at hf0
      cases hf0
    refine ⟨_, rfl, r, rfl, ⟨_, SqL.of (s1 _ _ hH)⟩, for_list (K := K) (a := r) (xs := cs.map V.int)
      (fun i σ H2 => ∃ (fa : Addr) (rs : List Addr) (x y z v : Option V), σ = [some (.ref r), some (.ref fa), x, y, z, v] ∧ Same H H2 ∧ H fa = none ∧ H2 fa = some (.lst (rs.map V.ref)) ∧ LL H2 rs (turnsM (cs.take i)) ∧ ∀ m ∈ rs, H m = none)
      ⟨f0, [e0], none, none, none, none, rfl, s1, s0.free hf0, upd_same, LL.one (by rw [upd_ne nef, upd_same]; rfl), fun m hm => by rw [List.mem_singleton.mp hm]; exact he0⟩ (fun i σ H2 _ ⟨_, _, _, _, _, _, _, s2, _⟩ => SqL.of (s2 _ _ hH)) ?_ ?_⟩
    · rintro i x σ H2 hi ⟨fa, rs, x0, y0, z0, v0, rfl, s2, hfa, hfa2, hL2, hrn⟩
      obtain ⟨c, hc, rfl⟩ := map_int_get hi
      have hil : i < cs.length := (List.getElem?_eq_some_iff.mp hc).1
      have sz := turns_size hc5 i (Nat.le_of_lt hil)
      have pow : 6 ^ i ≤ 6 ^ 5 := Nat.pow_le_pow_right (by decide) (by omega)
      have e5 : (6 : Nat) ^ 5 = 7776 := by decide
      generalize hfd : turnsM (cs.take i) = found at hL2 sz
      refine ⟨Nat.zero_le _, fun lo hlo => ?_⟩
      have nlo : ∀ {b o}, H2 b = some o → b ≠ lo := fun {b o} q => ne_of_none q hlo
      have hfa3 : (upd H2 lo (.lst [])) fa = some (.lst (rs.map V.ref)) := by
        rw [upd_ne (nlo hfa2)]
        exact hfa2
      refine ⟨_, rfl, fa, rfl, ⟨_, SqL.of hfa3⟩, for_list (K := K) (a := fa) (xs := rs.map V.ref)
        (fun j σ H3 => ∃ (ls : List Addr) (z v : Option V), σ = [some (.ref r), some (.ref fa), some (.int c), some (.ref lo), z, v] ∧ Same H H3 ∧ H3 fa = some (.lst (rs.map V.ref)) ∧ LL H3 rs found ∧ H3 lo = some (.lst (ls.map V.ref)) ∧ LL H3 ls (longerM (found.take j) c) ∧ lo ∉ ls ∧ ∀ m ∈ ls, H m = none)
        ⟨[], z0, v0, rfl, s2.upd (s2.free hlo), hfa3, hL2.upd (hL2.notin hlo), upd_same, by simpa [longerM] using LL.nil, by simp, by simp⟩ (fun j σ H3 _ ⟨_, _, _, _, _, q, _⟩ => SqL.of q) ?_ ?_⟩
      · rintro j x σ H3 hj ⟨ls, z1, v1, rfl, s3, hfa4, hL3, hlo3, hls, hnl, hln⟩
        obtain ⟨r1, hr1, rfl⟩ := ref_get hj
        have hjl : j < found.length := by
          rw [← hL3.1]
          exact (List.getElem?_eq_some_iff.mp hr1).1
        obtain ⟨so, hso⟩ : ∃ so, found[j]? = some so := ⟨_, List.getElem?_eq_getElem hjl⟩
        have hsl : so.length = i := sz.2 so (List.mem_of_getElem? hso)
        have hr3 := hL3.2 j r1 so hr1 hso
        have hlon : H lo = none := s2.free hlo
        refine ⟨_, rfl, .inl ⟨rfl, _, SqL.of hlo3⟩, ?_⟩
        refine ⟨_, rfl, r1, _, rfl, .inl (SqL.of hr3), _, _, rfl, rfl, _, rfl, ?_, ?_, fun D hD => ?_⟩
        · rw [List.length_map]
          omega
        · rw [List.length_map]
          omega
        have hn : ((((so.map V.int).length : Nat) : Int) + 1).toNat = so.length + 1 := by
          rw [List.length_map]
          omega
        rw [hn]
        have nD : ∀ {b o}, H3 b = some o → b ≠ D := fun {b o} q => ne_of_none q hD
        refine lc_range (lo := 0) (n := so.length + 1) (fun q H4 => Same H3 H4 ∧ ∃ ms : List Addr, ms.length = q ∧ H4 D = some (.lst (ms.map V.ref)) ∧ LL H4 ms ((insAll c so).take q) ∧ D ∉ ms ∧ ∀ m ∈ ms, H3 m = none)
          ⟨Same.new hD, [], rfl, upd_same, by simpa using LL.nil, by simp, by simp⟩ ?_ ?_
        · rintro q H4 hq ⟨s4, ms, hml, hD4, hL4, hDm, hmn⟩
          refine ⟨rfl, yesT ?_⟩
          have hr4 := s4 _ _ hr3
          refine ⟨_, rfl, _, rfl, _, rfl, r1, so.map V.int, rfl, SqL.of hr4, fun p1 hp1 => ?_⟩
          have e0q : ((0 : Int) + (q : Int)) = ((q : Nat) : Int) := by omega
          rw [e0q, cut_take (by omega)]
          have n1 : ∀ {b o}, H4 b = some o → b ≠ p1 := fun {b o} z => ne_of_none z hp1
          refine ⟨_, rfl, (by show 1 ≤ sizeLine; decide), fun p2 hp2 => ?_⟩
          have n12 : p1 ≠ p2 := fun z => by
            rw [← z, upd_same] at hp2
            cases hp2
          refine ⟨p1, p2, (so.take q).map V.int, [.int c], rfl, rfl, (by rw [upd_ne n12, upd_same]), upd_same, ?_, fun p3 hp3 => ?_⟩
          · rw [List.length_map, List.length_take]
            exact Nat.le_of_lt (big_size (by show min q so.length + 1 ≤ 100000; omega))
          have s5 : Same H4 (upd (upd (upd H4 p1 (.lst ((so.take q).map V.int))) p2 (.lst [.int c])) p3 (.lst ((so.take q).map V.int ++ [.int c]))) := by
            have a1 : Same H4 (upd H4 p1 (.lst ((so.take q).map V.int))) := Same.new hp1
            have a2 := a1.upd (o := .lst [.int c]) (a1.free hp2)
            exact a2.upd (a2.free hp3)
          refine ⟨_, rfl, _, rfl, _, rfl, r1, so.map V.int, rfl, SqL.of (s5 _ _ hr4), fun p4 hp4 => ?_⟩
          rw [cut_drop (by omega)]
          have n34 : p3 ≠ p4 := fun z => by
            rw [← z, upd_same] at hp4
            cases hp4
          refine ⟨p3, p4, (so.take q).map V.int ++ [.int c], (so.drop q).map V.int, rfl, rfl, (by rw [upd_ne n34, upd_same]), upd_same, ?_, fun p5 hp5 => ?_⟩
          · rw [List.length_append, List.length_map, List.length_map, List.length_take, List.length_drop]
            exact Nat.le_of_lt (big_size (by show min q so.length + 1 + (so.length - q) ≤ 100000; omega))
          have s6 := s5.upd (o := .lst ((so.drop q).map V.int)) (s5.free hp4)
          have hp5' : H4 p5 = none := s6.free hp5
          have hD6 := s6 _ _ hD4
          refine ⟨ms.map V.ref, ?_, ?_, ?_, ms ++ [p5], ?_, ?_, ?_, ?_, ?_⟩
          · rw [upd_ne (ne_of_none hD6 hp5)]
            exact hD6
          · rw [List.length_map]
            exact big_size (by omega)
          · exact (s4.trans (s6.upd hp5')).upd hD
          · rw [List.length_append, hml]
            rfl
          · rw [upd_same, List.map_append]
            rfl
          · have hget : (insAll c so)[q]? = some (insAt so c q) := by
              unfold insAll
              rw [List.getElem?_map, List.getElem?_range hq]
              rfl
            rw [take_snoc hget]
            have nDp : D ≠ p5 := ne_of_none hD4 hp5'
            refine LL.app ?_ (LL.one ?_)
            · refine LL.upd ?_ hDm
              exact (hL4.mono s6).upd ((hL4.mono s6).notin hp5)
            · rw [upd_ne (Ne.symm nDp), upd_same]
              unfold insAt
              rw [List.map_append, List.map_append]
              rfl
          · intro h1
            rcases List.mem_append.mp h1 with h1 | h1
            · exact hDm h1
            · exact ne_of_none hD4 hp5' (List.mem_singleton.mp h1)
          · intro m hm
            rcases List.mem_append.mp hm with hm | hm
            · exact hmn m hm
            · obtain rfl := List.mem_singleton.mp hm
              exact s4.free hp5'
        · rintro H4 ⟨s4, ms, hml, hD4, hL4, hDm, hmn⟩
          rw [← insAll_length c so, List.take_length] at hL4
          have hlo4 := s4 _ _ hlo3
          have szl := longer_len (one := c) (m := i) (found := found.take j) fun s hs => sz.2 s (List.mem_of_mem_take hs)
          refine ⟨lo, D, _, _, rfl, rfl, hlo4, hD4, ?_, ?_⟩
          · rw [List.length_map, List.length_map, hls.1, szl.1, hml, List.length_take, hsl]
            have h1 : min j found.length * (i + 1) ≤ 7776 * 6 := Nat.mul_le_mul (by omega) (by omega)
            exact Nat.le_of_lt (big_size (by omega))
          · have nl : lo ∉ rs := fun h1 => by
              obtain ⟨p, hp⟩ := List.getElem?_of_mem h1
              obtain ⟨o, ho⟩ : ∃ o, found[p]? = some o := ⟨_, List.getElem?_eq_getElem (by rw [← hL2.1]; exact (List.getElem?_eq_some_iff.mp hp).1)⟩
              rw [hL2.2 p lo o hp ho] at hlo
              cases hlo
            have nm : lo ∉ ms := fun h1 => by
              rw [hmn lo h1] at hlo3
              cases hlo3
            refine ⟨ls ++ ms, _, _, rfl, (s3.trans s4).upd hlon, ?_, (hL3.mono s4).upd nl, ?_, ?_, ?_, ?_⟩
            · rw [upd_ne (nlo hfa2)]
              exact s4 _ _ hfa4
            · rw [upd_same, List.map_append]
            · have e : longerM (found.take (j + 1)) c = longerM (found.take j) c ++ insAll c so := by
                rw [take_snoc hso]
                unfold longerM
                rw [List.flatMap_append]
                simp
              rw [e]
              exact LL.app ((hls.mono s4).upd hnl) (hL4.upd nm)
            · intro h1
              rcases List.mem_append.mp h1 with h1 | h1
              · exact hnl h1
              · exact nm h1
            · intro m hm
              rcases List.mem_append.mp hm with hm | hm
              · exact hln m hm
              · exact s3.free (hmn m hm)
      · rintro σ H3 ⟨ls, z1, v1, rfl, s3, hfa4, hL3, hlo3, hls, hnl, hln⟩
        rw [List.length_map, hL3.1, List.take_length] at hls
        refine ⟨_, rfl, lo, ls, _, _, _, _, rfl, s3, s2.free hlo, hlo3, ?_, hln⟩
        have e : turnsM (cs.take (i + 1)) = longerM found c := by
          rw [take_snoc hc, ← hfd]
          unfold turnsM
          rw [List.foldl_append]
          rfl
        rw [e]
        exact hls
    · rintro σ H2 ⟨fa, rs, x0, y0, z0, v0, rfl, s2, hfa, hfa2, hL2, hrn⟩
      rw [List.length_map, List.take_length] at hL2
      exact ⟨_, rfl, k fa rs H2 s2 hfa hfa2 hL2 hrn⟩
end
end Toy

set_option Elab.async false
set_option linter.all false
set_option maxRecDepth 100000
set_option maxHeartbeats 4000000
namespace Toy
open PySem L2
def upsN : Nat → List (List Int)
  | 0 => [[]]
  | n + 1 => (upsN n).flatMap fun us => (List.range (n + 1)).map fun (k : Nat) => us ++ [(k : Int)]
theorem snoc_of {α : Type} : ∀ (xs : List α), 0 < xs.length → ∃ ys y, xs = ys ++ [y]
  | [], h => by simp at h
  | [x], _ => ⟨[], x, rfl⟩
  | x :: y :: r, _ => by
    obtain ⟨ys, z, e⟩ := snoc_of (y :: r) (by simp)
    exact ⟨x :: ys, z, by rw [e]; rfl⟩
theorem mem_upsN : ∀ (n : Nat) (us : List Int), us.length = n → (∀ (j : Nat) (u : Int), us[j]? = some u → 0 ≤ u ∧ u ≤ j) → us ∈ upsN n
  | 0, us, h, _ => by
    have : us = [] := List.length_eq_zero_iff.mp h
    subst this
    exact List.mem_singleton.mpr rfl
  | n + 1, us, h, g => by
    obtain ⟨ys, y, rfl⟩ := snoc_of us (by omega)
    have hl : ys.length = n := by
      rw [List.length_append] at h
      simpa using h
    have ih := mem_upsN n ys hl fun j u hj => g j u (by rw [List.getElem?_append_left (List.getElem?_eq_some_iff.mp hj).1]; exact hj)
    have hy := g n y (by rw [List.getElem?_append_right (by omega), hl]; simp)
    refine List.mem_flatMap.mpr ⟨ys, ih, List.mem_map.mpr ⟨y.toNat, List.mem_range.mpr (by omega), ?_⟩⟩
    rw [show ((y.toNat : Nat) : Int) = y by omega]
def moreM (ev : List (List (List Int))) (row : List Int) : List (List (List Int)) := ev.flatMap fun o => (turnsM row).map fun t => o ++ [t]
def everyM (rows : List (List Int)) : List (List (List Int)) := rows.foldl moreM [[]]
def goM (n : Nat) : Nat → List Int → List (List Int) → Int → Option Int
  | 0, _, _, _ => none
  | f + 1, kn, rows, r => if kn.length < n then (match (stepM rows kn).1 with
      | [] => some (-1)
      | h :: t => goM n f (kn ++ (h :: t)) (stepM rows kn).2 (r + 1)) else some r
theorem goM_goes {n : Nat} : ∀ (f : Nat) (kn : List Int) (rows : List (List Int)) (r z : Int), goM n f kn rows r = some z → Goes n kn rows r z
  | 0, _, _, _, _, h => by cases h
  | f + 1, kn, rows, r, z, h => by
    unfold goM at h
    split at h
    · rename_i hlt
      split at h
      · rename_i e
        cases h
        exact .stuck hlt e
      · rename_i a b e
        refine .step hlt (by rw [e]; simp) ?_
        rw [e]
        exact goM_goes f _ _ _ _ h
    · rename_i hlt
      cases h
      exact .stop hlt
def lastC (o : List (List Int)) : Option Int := goM o.length 8 [0] o 0
def maxL : List Int → Int
  | [] => 0
  | v :: r => r.foldl max v
def needC (ms row : List Int) : Int := maxL (vals ms row)
def marksF (o : List (List Int)) : Nat → List Int
  | 0 => List.replicate o.length 0
  | k + 1 => (marksF o k).set (o.length - 1 - k) (needC (marksF o k) (o.getD (o.length - 1 - k) []))
def marksC (o : List (List Int)) : List Int := marksF o o.length
def fallsC (ms : List Int) : List Int → Bool
  | c :: d :: r => decide (at0 ms d ≤ at0 ms c) && fallsC ms (d :: r)
  | _ => true
def okO (l : Option Int) (o : List (List Int)) : Bool := !(o.all (fallsC (marksC o))) || (lastC o == l && some ((marksC o).getD 0 0) == l)
def leastC (ev : List (List (List Int))) : Option Int := (ev.filterMap lastC).foldl (fun a z => match a with | none => some z | some y => some (min y z)) none
def checkU (us : List Int) : Bool :=
  let ev := everyM (rowsOf us)
  ev.all (fun o => (lastC o).isSome && decide (o.length = us.length + 1) && o.all fun row => row.all fun c => decide (0 ≤ c) && decide (c.toNat < us.length + 1)) && ev.all (okO (leastC ev)) && ((List.range (us.length + 2)).all fun i => decide ((everyM ((rowsOf us).take i)).length ≤ 1000)) && ((List.range (us.length + 2)).all fun i => decide ((everyM ((rowsOf us).take i)).length * (turnsM ((rowsOf us).getD i [])).length ≤ 10000))
theorem fin0 : (upsN 0).all checkU = true := by decide +kernel
theorem fin1 : (upsN 1).all checkU = true := by decide +kernel
theorem fin2 : (upsN 2).all checkU = true := by decide +kernel
theorem fin3 : (upsN 3).all checkU = true := by decide +kernel
theorem fin4 : (upsN 4).all checkU = true := by decide +kernel
theorem fin5 : (upsN 5).all checkU = true := by decide +kernel
theorem fin_all {us : List Int} (hg : GoodUps us) (h : us.length < 6) : checkU us = true := by
  have hm := mem_upsN us.length us rfl hg.2
  have c : us.length = 0 ∨ us.length = 1 ∨ us.length = 2 ∨ us.length = 3 ∨ us.length = 4 ∨ us.length = 5 := by omega
  rcases c with c | c | c | c | c | c <;> rw [c] at hm
  · exact List.all_eq_true.mp fin0 us hm
  · exact List.all_eq_true.mp fin1 us hm
  · exact List.all_eq_true.mp fin2 us hm
  · exact List.all_eq_true.mp fin3 us hm
  · exact List.all_eq_true.mp fin4 us hm
  · exact List.all_eq_true.mp fin5 us hm
end Toy

set_option Elab.async false
set_option linter.all false
set_option maxRecDepth 100000
set_option maxHeartbeats 4000000
namespace Toy
open PySem L2
theorem turns_snoc (r : List Int) (x : Int) : turnsM (r ++ [x]) = longerM (turnsM r) x := by
  unfold turnsM
  rw [List.foldl_append]
  rfl
theorem perm_turns : ∀ (n : Nat) (row ys : List Int), row.length = n → ys.Perm row → ys ∈ turnsM row
  | 0, row, ys, h, p => by
    have e : row = [] := List.length_eq_zero_iff.mp h
    subst e
    have e2 : ys = [] := p.eq_nil
    subst e2
    exact List.mem_singleton.mpr rfl
  | n + 1, row, ys, h, p => by
    obtain ⟨r, x, rfl⟩ := snoc_of row (by omega)
    have hl : r.length = n := by
      rw [List.length_append] at h
      simpa using h
    have hx : x ∈ ys := p.mem_iff.mpr (by simp)
    obtain ⟨l, t, rfl⟩ := List.append_of_mem hx
    have p2 : (l ++ t).Perm r := by
      have q1 : (x :: (l ++ t)).Perm (l ++ x :: t) := List.perm_middle.symm
      have q2 : (r ++ [x]).Perm (x :: r) := List.perm_append_singleton x r
      exact ((q1.trans p).trans q2).cons_inv
    have ih := perm_turns n r (l ++ t) hl p2
    rw [turns_snoc]
    refine List.mem_flatMap.mpr ⟨l ++ t, ih, ?_⟩
    unfold insAll
    refine List.mem_map.mpr ⟨l.length, List.mem_range.mpr (by rw [List.length_append]; omega), ?_⟩
    unfold insAt
    simp
theorem every_snoc (rows : List (List Int)) (row : List Int) : everyM (rows ++ [row]) = moreM (everyM rows) row := by
  unfold everyM
  rw [List.foldl_append]
  rfl
theorem mem_every : ∀ (n : Nat) (rows os : List (List Int)), rows.length = n → os.length = n → (∀ (p : Nat) (t row : List Int), os[p]? = some t → rows[p]? = some row → t ∈ turnsM row) → os ∈ everyM rows
  | 0, rows, os, h1, h2, _ => by
    have e : rows = [] := List.length_eq_zero_iff.mp h1
    have e2 : os = [] := List.length_eq_zero_iff.mp h2
    subst e e2
    exact List.mem_singleton.mpr rfl
  | n + 1, rows, os, h1, h2, h => by
    obtain ⟨rs, row, rfl⟩ := snoc_of rows (by omega)
    obtain ⟨o, t, rfl⟩ := snoc_of os (by omega)
    have hl : rs.length = n := by
      rw [List.length_append] at h1
      simpa using h1
    have ho : o.length = n := by
      rw [List.length_append] at h2
      simpa using h2
    have ih := mem_every n rs o hl ho fun p t' row' hp hr => h p t' row' (by rw [List.getElem?_append_left (List.getElem?_eq_some_iff.mp hp).1]; exact hp) (by rw [List.getElem?_append_left (List.getElem?_eq_some_iff.mp hr).1]; exact hr)
    have ht := h n t row (by rw [List.getElem?_append_right (by omega), ho]; simp) (by rw [List.getElem?_append_right (by omega), hl]; simp)
    rw [every_snoc]
    exact List.mem_flatMap.mpr ⟨o, ih, List.mem_map.mpr ⟨t, ht, rfl⟩⟩
theorem fold_max : ∀ (r : List Int) (v : Int), (r.foldl max v = v ∨ r.foldl max v ∈ r) ∧ v ≤ r.foldl max v ∧ ∀ y ∈ r, y ≤ r.foldl max v
  | [], v => ⟨.inl rfl, Int.le_refl _, by simp⟩
  | x :: r, v => by
    obtain ⟨a, b, c⟩ := fold_max r (max v x)
    refine ⟨?_, ?_, fun y hy => ?_⟩
    · show r.foldl max (max v x) = v ∨ r.foldl max (max v x) ∈ x :: r
      rcases a with a | a
      · rw [a]
        by_cases h : v ≤ x
        · exact .inr (by rw [Int.max_eq_right h]; exact List.mem_cons_self)
        · exact .inl (Int.max_eq_left (by omega))
      · exact .inr (List.mem_cons_of_mem _ a)
    · show v ≤ r.foldl max (max v x)
      omega
    · show y ≤ r.foldl max (max v x)
      rcases List.mem_cons.mp hy with rfl | hy
      · omega
      · exact c y hy
theorem need_eq {ms row : List Int} {m : Int} (h : IsNeed ms row m) : m = needC ms row := by
  unfold needC
  rcases h with ⟨rfl, rfl⟩ | ⟨hm, hmax⟩
  · rfl
  · cases e : vals ms row with
    | nil =>
      rw [e] at hm
      cases hm
    | cons v r =>
      rw [e] at hm hmax
      show m = r.foldl max v
      obtain ⟨a, b, c⟩ := fold_max r v
      have h1 : r.foldl max v ≤ m := by
        rcases a with a | a
        · rw [a]
          exact hmax v List.mem_cons_self
        · exact hmax _ (List.mem_cons_of_mem _ a)
      have h2 : m ≤ r.foldl max v := by
        rcases List.mem_cons.mp hm with rfl | hm
        · exact b
        · exact c m hm
      omega
theorem marksF_len (o : List (List Int)) : ∀ k, (marksF o k).length = o.length
  | 0 => by simp [marksF]
  | k + 1 => by
    unfold marksF
    rw [List.length_set]
    exact marksF_len o k
theorem marks_eq {o : List (List Int)} {ms : List Int} (hl : ms.length = o.length) (h : ∀ (p : Nat) (row : List Int), o[p]? = some row → (∀ c ∈ row, (p : Int) < c) ∧ at0 ms (p : Int) = needC ms row) :
    ∀ (k : Nat), k ≤ o.length → ∀ q : Nat, o.length - k ≤ q → q < o.length → (marksF o k).getD q 0 = ms.getD q 0
  | 0, _, q, h1, h2 => by omega
  | k + 1, hk, q, h1, h2 => by
    have ih := marks_eq hl h k (by omega)
    unfold marksF
    by_cases hq : q = o.length - 1 - k
    · subst hq
      rw [List.getD_eq_getElem?_getD, List.getElem?_set_self (by rw [marksF_len]; omega)]
      obtain ⟨row, hr⟩ : ∃ row, o[o.length - 1 - k]? = some row := ⟨_, List.getElem?_eq_getElem (by omega)⟩
      obtain ⟨hc, hn⟩ := h _ row hr
      have e1 : o.getD (o.length - 1 - k) [] = row := by rw [List.getD_eq_getElem?_getD, hr]; rfl
      rw [e1]
      have e2 : needC (marksF o k) row = needC ms row := by
        unfold needC
        rw [vals_congr fun c hc' => ?_]
        have q := hc c hc'
        unfold at0
        by_cases hb : c.toNat < o.length
        · exact ih c.toNat (by omega) hb
        · rw [List.getD_eq_getElem?_getD, List.getD_eq_getElem?_getD, List.getElem?_eq_none (by rw [marksF_len]; omega), List.getElem?_eq_none (by omega)]
      rw [e2, ← hn]
      unfold at0
      rw [Int.toNat_natCast]
      rfl
    · rw [List.getD_eq_getElem?_getD, List.getElem?_set_ne (by omega), ← List.getD_eq_getElem?_getD]
      exact ih q (by omega) h2
theorem marksC_eq {o : List (List Int)} {ms : List Int} (hl : ms.length = o.length) (h : ∀ (p : Nat) (row : List Int), o[p]? = some row → (∀ c ∈ row, (p : Int) < c) ∧ at0 ms (p : Int) = needC ms row) : marksC o = ms := by
  have ll : (marksF o o.length).length = ms.length := by rw [marksF_len, hl]
  refine List.ext_getElem? fun q => ?_
  by_cases hq : q < o.length
  · have e := marks_eq hl h o.length (Nat.le_refl _) q (by omega) hq
    unfold marksC
    rw [List.getD_eq_getElem?_getD, List.getD_eq_getElem?_getD, List.getElem?_eq_getElem (by rw [marksF_len]; exact hq), List.getElem?_eq_getElem (by omega)] at e
    rw [List.getElem?_eq_getElem (by rw [marksF_len]; exact hq), List.getElem?_eq_getElem (by omega)]
    exact congrArg some e
  · unfold marksC
    rw [List.getElem?_eq_none (by rw [marksF_len]; omega), List.getElem?_eq_none (by omega)]
theorem falls_true {ms : List Int} : ∀ {row : List Int}, row.Pairwise (fun c d => at0 ms d ≤ at0 ms c) → fallsC ms row = true
  | [], _ => rfl
  | [c], _ => rfl
  | c :: d :: r, h => by
    obtain ⟨h1, h2⟩ := List.pairwise_cons.mp h
    unfold fallsC
    rw [falls_true h2, decide_eq_true (h1 d List.mem_cons_self)]
    rfl
def minO (a : Option Int) (z : Int) : Option Int := match a with
  | none => some z
  | some y => some (min y z)
theorem least_le : ∀ (zs : List Int) (a : Option Int) (l : Int), zs.foldl minO a = some l → (∀ y, a = some y → l ≤ y) ∧ ∀ z ∈ zs, l ≤ z
  | [], a, l, h => ⟨fun y e => by
    have h : a = some l := h
    rw [h] at e
    cases e
    exact Int.le_refl _, by simp⟩
  | z :: r, a, l, h => by
    obtain ⟨h1, h2⟩ := least_le r (minO a z) l h
    cases a with
    | none =>
      have q := h1 z rfl
      refine ⟨fun y e => absurd e (by simp), fun y hy => ?_⟩
      rcases List.mem_cons.mp hy with rfl | hy
      · exact q
      · exact h2 y hy
    | some y0 =>
      have q := h1 (min y0 z) rfl
      refine ⟨fun y e => ?_, fun y hy => ?_⟩
      · cases e
        omega
      · rcases List.mem_cons.mp hy with rfl | hy
        · omega
        · exact h2 y hy
theorem best_least {us : List Int} {os : List (List Int)} {ms : List Int} (hg : GoodUps us) (h6 : us.length < 6) (hB : BestR us os ms) :
    ∃ l, lastC os = some l ∧ at0 ms 0 = l ∧ leastC (everyM (rowsOf us)) = some l ∧ (∀ o ∈ everyM (rowsOf us), ∃ z, lastC o = some z ∧ l ≤ z) ∧ os ∈ everyM (rowsOf us) := by
  have hc := fin_all hg h6
  unfold checkU at hc
  simp only [Bool.and_eq_true, List.all_eq_true] at hc
  obtain ⟨⟨⟨c1, c2⟩, _⟩, _⟩ := hc
  have hm : os ∈ everyM (rowsOf us) := mem_every (us.length + 1) (rowsOf us) os (rowsOf_length us) hB.lo fun p t row hp hr => by
    have hpl : p < us.length + 1 := by
      rw [← rowsOf_length us]
      exact (List.getElem?_eq_some_iff.mp hr).1
    rw [rowsOf_get us hpl] at hr
    cases hr
    exact perm_turns _ _ _ rfl (hB.row p t hp).1.1
  have hmk : marksC os = ms := marksC_eq (by rw [hB.lm, hB.lo]) fun p row hp => by
    obtain ⟨f1, f2⟩ := hB.row p row hp
    exact ⟨fun c hc' => (rowOf_mem hg (f1.1.mem_iff.mp hc')).1, need_eq f2⟩
  have hfl : os.all (fallsC (marksC os)) = true := List.all_eq_true.mpr fun row hr => by
    obtain ⟨p, hp⟩ := List.getElem?_of_mem hr
    rw [hmk]
    exact falls_true (hB.row p row hp).1.2
  have ok := c2 os hm
  unfold okO at ok
  rw [hfl] at ok
  simp only [Bool.not_true, Bool.false_or, Bool.and_eq_true, beq_iff_eq] at ok
  obtain ⟨o1, o2⟩ := ok
  rw [hmk] at o2
  refine ⟨ms.getD 0 0, by rw [o1, o2], rfl, o2.symm, fun o ho => ?_, hm⟩
  obtain ⟨z, hz⟩ := Option.isSome_iff_exists.mp (c1 o ho).1.1
  refine ⟨z, hz, ?_⟩
  have e : ((everyM (rowsOf us)).filterMap lastC).foldl minO none = some (ms.getD 0 0) := by
    rw [o2]
    rfl
  exact (least_le _ _ _ e).2 z (List.mem_filterMap.mpr ⟨o, ho, hz⟩)
theorem all_last {us : List Int} (hg : GoodUps us) (h6 : us.length < 6) {o : List (List Int)} (ho : o ∈ everyM (rowsOf us)) : ∃ z, lastC o = some z := by
  have hc := fin_all hg h6
  unfold checkU at hc
  simp only [Bool.and_eq_true, List.all_eq_true] at hc
  exact Option.isSome_iff_exists.mp (hc.1.1.1 o ho).1.1
theorem all_in {us : List Int} (hg : GoodUps us) (h6 : us.length < 6) {o : List (List Int)} (ho : o ∈ everyM (rowsOf us)) : o.length = us.length + 1 ∧ InN o.length o := by
  have hc := fin_all hg h6
  unfold checkU at hc
  simp only [Bool.and_eq_true, List.all_eq_true] at hc
  obtain ⟨⟨_, h1⟩, h2⟩ := hc.1.1.1 o ho
  have h1 := of_decide_eq_true h1
  refine ⟨h1, fun row hr c hc' => ?_⟩
  obtain ⟨a, b⟩ := h2 row hr c hc'
  rw [h1]
  exact ⟨of_decide_eq_true a, of_decide_eq_true b⟩
theorem all_size {us : List Int} (hg : GoodUps us) (h6 : us.length < 6) {i : Nat} (hi : i < us.length + 2) : (everyM ((rowsOf us).take i)).length ≤ 1000 := by
  have hc := fin_all hg h6
  unfold checkU at hc
  simp only [Bool.and_eq_true, List.all_eq_true] at hc
  exact of_decide_eq_true (hc.1.2 i (List.mem_range.mpr hi))
theorem all_prod {us : List Int} (hg : GoodUps us) (h6 : us.length < 6) {i : Nat} (hi : i < us.length + 2) : (everyM ((rowsOf us).take i)).length * (turnsM ((rowsOf us).getD i [])).length ≤ 10000 := by
  have hc := fin_all hg h6
  unfold checkU at hc
  simp only [Bool.and_eq_true, List.all_eq_true] at hc
  exact of_decide_eq_true (hc.2 i (List.mem_range.mpr hi))
end Toy

set_option Elab.async false
set_option linter.all false
set_option maxRecDepth 100000
set_option maxHeartbeats 4000000
namespace Toy
open PySem L2
def L3 (lo : Addr) (H : Hp) (es : List Addr) (evs : List (List (List Int))) : Prop := es.length = evs.length ∧ ∀ (p : Nat) (e : Addr) (os : List (List Int)), es[p]? = some e → evs[p]? = some os → e ≠ lo ∧ ∃ rs, lo ∉ rs ∧ H e = some (.lst (rs.map V.ref)) ∧ LL H rs os
theorem L3.mono {lo : Addr} {H H' : Hp} {es : List Addr} {evs : List (List (List Int))} (h : L3 lo H es evs) (s : Same H H') : L3 lo H' es evs :=
  ⟨h.1, fun p e os a b => let ⟨n, rs, n2, q, l⟩ := h.2 p e os a b; ⟨n, rs, n2, s _ _ q, l.mono s⟩⟩
theorem L3.upd {lo : Addr} {H : Hp} {es : List Addr} {evs : List (List (List Int))} {o : HO} (h : L3 lo H es evs) : L3 lo (L2.upd H lo o) es evs :=
  ⟨h.1, fun p e os a b => let ⟨n, rs, n2, q, l⟩ := h.2 p e os a b; ⟨n, rs, n2, by rw [upd_ne n]; exact q, l.upd n2⟩⟩
theorem L3.app {lo : Addr} {H : Hp} {es es' : List Addr} {evs evs' : List (List (List Int))} (h : L3 lo H es evs) (h' : L3 lo H es' evs') : L3 lo H (es ++ es') (evs ++ evs') := by
  refine ⟨by rw [List.length_append, List.length_append, h.1, h'.1], fun p r o hp ho => ?_⟩
  by_cases hpi : p < es.length
  · rw [List.getElem?_append_left hpi] at hp
    rw [List.getElem?_append_left (by rw [← h.1]; exact hpi)] at ho
    exact h.2 p r o hp ho
  · rw [List.getElem?_append_right (by omega)] at hp
    rw [List.getElem?_append_right (by rw [← h.1]; omega), ← h.1] at ho
    exact h'.2 _ r o hp ho
theorem L3.one {lo : Addr} {H : Hp} {e : Addr} {rs : List Addr} {os : List (List Int)} (n : e ≠ lo) (n2 : lo ∉ rs) (h : H e = some (.lst (rs.map V.ref))) (l : LL H rs os) : L3 lo H [e] [os] := by
  refine ⟨rfl, fun p r' o' hp ho => ?_⟩
  have ep : p = 0 := by
    have := (List.getElem?_eq_some_iff.mp hp).1
    simp at this
    omega
  subst ep
  have e1 : e = r' := by simpa using hp
  have e2 : os = o' := by simpa using ho
  subst e1 e2
  exact ⟨n, rs, n2, h, l⟩
theorem L3.nil {lo : Addr} {H : Hp} : L3 lo H [] [] := ⟨rfl, fun p e os hp _ => by simp at hp⟩
theorem map_ref_inj : ∀ {rs rs' : List Addr}, rs.map V.ref = rs'.map V.ref → rs = rs'
  | [], [], _ => rfl
  | [], _ :: _, h => by simp at h
  | _ :: _, [], h => by simp at h
  | a :: r, b :: r', h => by
    rw [List.map_cons, List.map_cons] at h
    injection h with h1 h2
    injection h1 with h1
    rw [h1, map_ref_inj h2]
theorem L3.upd2 {lo D : Addr} {H : Hp} {es : List Addr} {evs : List (List (List Int))} {o : HO} (h : L3 lo H es evs) (h' : L3 D H es evs) : L3 lo (L2.upd H D o) es evs := by
  refine ⟨h.1, fun p e os a b => ?_⟩
  obtain ⟨n, rs, n2, q, l⟩ := h.2 p e os a b
  obtain ⟨m, rs', m2, q', _⟩ := h'.2 p e os a b
  rw [q] at q'
  injection q' with q'
  injection q' with q'
  have er := map_ref_inj q'
  subst er
  exact ⟨n, rs, n2, by rw [upd_ne m]; exact q, l.upd m2⟩
theorem every_len : ∀ (n : Nat) (rows os : List (List Int)), rows.length = n → os ∈ everyM rows → os.length = n
  | 0, rows, os, h1, h2 => by
    have e : rows = [] := List.length_eq_zero_iff.mp h1
    subst e
    rw [List.mem_singleton.mp h2]
    rfl
  | n + 1, rows, os, h1, h2 => by
    obtain ⟨rs, row, rfl⟩ := snoc_of rows (by omega)
    have hl : rs.length = n := by
      rw [List.length_append] at h1
      simpa using h1
    rw [every_snoc] at h2
    obtain ⟨o, ho, h3⟩ := List.mem_flatMap.mp h2
    obtain ⟨t, _, rfl⟩ := List.mem_map.mp h3
    rw [List.length_append, every_len n rs o hl ho]
    rfl
theorem more_len (row : List Int) : ∀ (ev : List (List (List Int))), (moreM ev row).length = ev.length * (turnsM row).length
  | [] => by simp [moreM]
  | o :: r => by
    have e : moreM (o :: r) row = (turnsM row).map (fun t => o ++ [t]) ++ moreM r row := rfl
    rw [e, List.length_append, List.length_map, more_len row r, List.length_cons, Nat.succ_mul, Nat.add_comm]
theorem L3.av {lo lo' : Addr} {H : Hp} {es : List Addr} {evs : List (List (List Int))} (h : L3 lo H es evs) (hf : H lo' = none) : L3 lo' H es evs :=
  ⟨h.1, fun p e os a b => let ⟨_, rs, _, q, l⟩ := h.2 p e os a b; ⟨ne_of_none q hf, rs, l.notin hf, q, l⟩⟩
theorem Gr.seq {K : PySem.W.Frag} {Pt a : Addr} {H H' : Hp} {xs : List V} (g : Gr Pt H H') (T : TabOk H Pt lamQ) (h : SqL K H a xs) : SqL K H' a xs := by
  obtain ⟨ts, e, _⟩ := T
  exact h.butT g.but e
theorem fld_marks (o m : Addr) : (fldF o m).lookup ("marks" : Str) = some (.ref m) := by kernel_rfl
theorem fld_orders (o m : Addr) : (fldF o m).lookup ("orders" : Str) = some (.ref o) := by kernel_rfl
theorem atI_at0 {ms : List Int} (h : 0 < ms.length) : atI (ms.map V.int) 0 = some (.int (at0 ms 0)) := by
  cases ms with
  | nil => cases h
  | cons m r => exact at_of (j := 0) rfl rfl
section
variable {P : Program} {w : World} {K : PySem.W.Frag} {mg : Str → Option Value} {base : Heap} {A : Adr}
def spLaw (K : PySem.W.Frag) (Pt : Addr) : Sp := fun vs H Q _ => ∃ (a : Addr) (ns : List Int), vs = [.ref a] ∧ SqL K H a (ns.map V.int) ∧ ns.length ≤ 63 ∧ TabOk H Pt lamQ ∧ ∀ H', Q (.bl true) H'
theorem sc_law : FnScope ["_law_script", "_law_by", "_law_ups_here", "_law_every", "_law_row", "_law_least", "_law_found", "_law_longer", "_law_orders", "_law_turn"] ["_law_script"] (defScope s_law) := ⟨rfl, rfl, rfl, by decide +kernel, rfl, by decide +kernel, by decide +kernel⟩
theorem ok_law (T : Txt K mg A) (hk : K.In base) (B : BmOk mg base) : FnOk P w K mg base CX0 8 A.f_law A.d_law ["_law_script"] (spLaw K A.P_longest_first) := by
  have G_law_ups := ok_law_ups (P := P) (w := w) (base := base) T
  have G_law_called := ok_law_called (P := P) (w := w) (base := base) T
  have G_law_turns := ok_law_turns (P := P) (w := w) (base := base) T
  have G_law_last := ok_law_last (P := P) (w := w) (base := base) T
  have G_fewest := ok_fewest (P := P) (w := w) T hk B
  generalize hPt : A.P_longest_first = Pt at G_fewest
  refine T.f_law.ok sc_law (fun vs H Q E h => ?_) (fun cdv A' outer s H vs Q E hr h => ?_)
  · obtain ⟨a, ns, rfl, _⟩ := h
    rfl
  · obtain ⟨a, ns, rfl, hS, hlen, hT, k⟩ := h
    refine ⟨_, (pss_cons (ps_for PassesOwn.never rfl (pi_range1 (by rfl) T.n_range (pa_cons pe_int pa_nil)) (pg_name (i := 1) sc_law.nd rfl (Or.inl rfl)) (pss_cons (ps_set (i := 2) sc_law.nd rfl (Or.inl rfl) (pe_call G_law_ups (hr.mono (by decide)) (by rfl) T.m_law_ups T.k_law_ups T.b_law_ups .nil pass0 (pa_cons (pv 0) (pa_cons (pv 1) (pa_cons pe_int pa_nil)))))
      (pss_cons (ps_set (i := 3) sc_law.nd rfl (Or.inl rfl) (pe_lst (pa_cons (pe_lst pa_nil) pa_nil)))
      (pss_cons (ps_for PassesOwn.never rfl (pi_listK K (pe_call G_law_called (hr.mono (by decide)) (by rfl) T.m_law_called T.k_law_called T.b_law_called .nil pass0 (pa_cons (pv 2) pa_nil))) (pg_name (i := 4) sc_law.nd rfl (Or.inl rfl)) (pss_cons (ps_set (i := 7) sc_law.nd rfl (Or.inl rfl) (pe_lst pa_nil))
      (pss_cons (ps_for PassesOwn.never rfl (pi_listK K (pv 3)) (pg_name (i := 8) sc_law.nd rfl (Or.inr rfl)) (pss_one (ps_expr (pe_bmK K PySem.F.plainAttrs_list PySem.F.slot_list_extend PySem.F.type_list_extend mt_extend (pv 7) (pa_cons (pe_lc (own := [("_law_turn", 9)]) rfl sc_law.nd (pi_listK K (pe_call G_law_turns (hr.mono (by decide)) (by rfl) T.m_law_turns T.k_law_turns T.b_law_turns .nil pass0 (pa_cons (pv 4) pa_nil))) (blkOk_by (own := [("_law_turn", 9)]) (by kernel_rfl)) (fun _ _ _ _ _ => (pg_name (i := 9) sc_law.nd rfl (Or.inl rfl))) (fun _ _ _ _ _ => pts_nil) (fun _ _ _ _ _ => (pe_op op_cat (pv 8) (pe_lst (pa_cons (pv 9) pa_nil))))) pa_nil)))))
      (pss_one (ps_set (i := 3) sc_law.nd rfl (Or.inl rfl) (pv 7))))))
      (pss_cons (ps_set (i := 5) sc_law.nd rfl (Or.inl rfl) (pe_callB (cr_minK K rfl) (by rfl) T.n_min (by decide +kernel) (pa_cons (pe_lc (own := [("_law_orders", 8)]) rfl sc_law.nd (pi_listK K (pv 3)) (blkOk_by (own := [("_law_orders", 8)]) (by kernel_rfl)) (fun _ _ _ _ _ => (pg_name (i := 8) sc_law.nd rfl (Or.inl rfl))) (fun _ _ _ _ _ => pts_nil) (fun _ _ _ _ _ => (pe_call G_law_last (hr.mono (by decide)) (by rfl) T.m_law_last T.k_law_last T.b_law_last .nil pass0 (pa_cons (pv 8) pa_nil)))) pa_nil)))
      (pss_cons (ps_set (i := 6) sc_law.nd rfl (Or.inl rfl) (pe_call G_fewest (hr.mono (by decide)) (by rfl) T.m_fewest T.k_fewest T.b_fewest .nil pass0 (pa_cons (pv 2) pa_nil)))
      (pss_one (ps_if (PW.pt (pw_or (pt_cmpR op_ne (pe_ix (ix_listK K) (pe_fldK K (pv 6) rfl) pe_int (fun _ _ => rfl)) (pv 5) (nomark _)) (pw_or1 (pt_cmpR op_ne (pe_call G_law_last (hr.mono (by decide)) (by rfl) T.m_law_last T.k_law_last T.b_law_last .nil pass0 (pa_cons (pe_fldK K (pv 6) rfl) pa_nil)) (pv 5) (nomark _))))) (pss_one (ps_ret pe_bl)) pss_nil))))))))
      (pss_one (ps_ret (pe_cmpR op_eq (pe_ix (ix_listK K) (pe_fldK K (pe_call G_fewest (hr.mono (by decide)) (by rfl) T.m_fewest T.k_fewest T.b_fewest .nil pass0 (pa_cons (pe_lst (pa_cons pe_int (pa_cons pe_int (pa_cons pe_int (pa_cons pe_int (pa_cons pe_int pa_nil)))))) pa_nil)) rfl) pe_int (fun _ _ => rfl)) pe_int (nomark _))))), ?_⟩
    refine ⟨4, rfl, by decide, by decide, ?_⟩
    refine for_range (lo := 0) (n := 4) (fun i σ H2 => ∃ x1 x2 x3 x4 x5 x6 x7 x8 x9, σ = [some (.ref a), x1, x2, x3, x4, x5, x6, x7, x8, x9] ∧ Gr Pt H H2) ⟨none, none, none, none, none, none, none, none, none, rfl, Gr.of hT (Same.refl H)⟩ ?_ ?_
    · rintro i σ H2 hi ⟨x1, x2, x3, x4, x5, x6, x7, x8, x9, rfl, g2⟩
      refine ⟨_, rfl, _, rfl, a, ns, _, _, rfl, g2.seq hT hS, hlen, by omega, by omega, by decide, by decide, fun ub us H3 s3 hun hub hul hug => ?_⟩
      have h6 : us.length < 6 := by omega
      have T3 : TabOk H3 Pt lamQ := tab_same g2.tab s3
      refine ⟨Nat.zero_le _, fun e0 he0 => ⟨(by show 1 ≤ sizeLine; decide), fun f0 hf0 => ?_⟩⟩
      have s0 : Same H3 (upd H3 e0 (.lst [])) := Same.new he0
      have s1 : Same H3 (upd (upd H3 e0 (.lst [])) f0 (.lst [.ref e0])) := s0.upd (s0.free hf0)
      have nef : e0 ≠ f0 := fun z => by
        rw [← z, upd_same] at hf0
        cases hf0
      refine ⟨_, rfl, ub, us, rfl, s1 _ _ hub, hug.1, fun cb rs0 H4 s4 hcn hcb hLc => ?_⟩
      have hrl : rs0.length = us.length + 1 := by rw [hLc.1, rowsOf_length]
      have s34 : Same H3 H4 := s1.trans s4
      have he4 : H4 e0 = some (.lst []) := s4 _ _ (by rw [upd_ne nef, upd_same])
      have hf4 : H4 f0 = some (.lst [.ref e0]) := s4 _ _ upd_same
      refine ⟨cb, rfl, ⟨_, SqL.of hcb⟩, for_list (K := K) (a := cb) (xs := rs0.map V.ref)
        (fun i1 σ H5 => ∃ (ea : Addr) (es : List Addr) (y4 y5 y6 y7 y8 y9 : Option V), σ = [some (.ref a), some (.int (0 + (i : Int))), some (.ref ub), some (.ref ea), y4, y5, y6, y7, y8, y9] ∧ Same H4 H5 ∧ H5 ea = some (.lst (es.map V.ref)) ∧ ∃ lo', L3 lo' H5 es (everyM ((rowsOf us).take i1)))
        ⟨f0, [e0], _, _, _, _, _, _, rfl, Same.refl H4, hf4, cb, L3.one (rs := []) (ne_of he4 hcb (fun z => ?_)) (by simp) he4 LL.nil⟩ (fun i1 σ H5 _ ⟨_, _, _, _, _, _, _, _, _, s5, _⟩ => SqL.of (s5 _ _ hcb)) ?_ ?_⟩
      · injection z with z
        have := congrArg List.length z
        rw [List.length_map, hrl] at this
        simp at this
      · rintro i1 x σ H5 hi1 ⟨ea, es, y4, y5, y6, y7, y8, y9, rfl, s5, hea, lo0, hL0⟩
        obtain ⟨r, hr, rfl⟩ := ref_get hi1
        have hi1l : i1 < us.length + 1 := by
          rw [← hrl]
          exact (List.getElem?_eq_some_iff.mp hr).1
        have hrow := rowsOf_get us hi1l
        have hr5 : H5 r = some (.lst ((rowOf us i1).map V.int)) := s5 _ _ (hLc.2 i1 r _ hr hrow)
        refine ⟨Nat.zero_le _, fun lo hlo => ?_⟩
        have hL5 := hL0.av hlo
        have nlo : ∀ {b o}, H5 b = some o → b ≠ lo := fun {b o} q => ne_of_none q hlo
        have h45 : Same H4 (upd H5 lo (.lst [])) := s5.upd (s5.free hlo)
        generalize hev : everyM ((rowsOf us).take i1) = ev at hL5
        generalize hrw : rowOf us i1 = row at hr5 hrow
        have hrow5 : row.length ≤ 5 := by
          have := rowOf_length us (i1 : Int)
          rw [hrw] at this
          omega
        have hea' : (upd H5 lo (.lst [])) ea = some (.lst (es.map V.ref)) := by
          rw [upd_ne (nlo hea)]
          exact hea
        refine ⟨_, rfl, ea, rfl, ⟨_, SqL.of hea'⟩, for_list (K := K) (a := ea) (xs := es.map V.ref)
          (fun j σ H6 => ∃ (ls : List Addr) (z8 z9 : Option V), σ = [some (.ref a), some (.int (0 + (i : Int))), some (.ref ub), some (.ref ea), some (.ref r), y5, y6, some (.ref lo), z8, z9] ∧ Same H5 H6 ∧ H6 lo = some (.lst (ls.map V.ref)) ∧ L3 lo H6 ls (moreM (ev.take j) row))
          ⟨[], _, _, rfl, Same.new hlo, upd_same, by simpa [moreM] using L3.nil⟩ (fun j σ H6 _ ⟨_, _, _, _, s6, _⟩ => SqL.of (s6 _ _ hea)) ?_ ?_⟩
        · rintro j x σ H6 hj ⟨ls, z8, z9, rfl, s6, hlo6, hls⟩
          obtain ⟨e1, he1, rfl⟩ := ref_get hj
          have hjl : j < ev.length := by
            rw [← hL5.1]
            exact (List.getElem?_eq_some_iff.mp he1).1
          obtain ⟨os, hos⟩ : ∃ os, ev[j]? = some os := ⟨_, List.getElem?_eq_getElem hjl⟩
          have hevl : ev.length ≤ 1000 := by
            rw [← hev]
            exact all_size hug h6 (by omega)
          have hprod : ev.length * (turnsM row).length ≤ 10000 := by
            have := all_prod hug h6 (i := i1) (by omega)
            rw [List.getD_eq_getElem?_getD, hrow, hev] at this
            exact this
          obtain ⟨ne1, rs1, hnl1, he5, hLo⟩ := hL5.2 j e1 os he1 hos
          refine ⟨_, rfl, .inl ⟨rfl, _, SqL.of hlo6⟩, ?_⟩
          refine ⟨_, rfl, r, row, rfl, s6 _ _ hr5, hrow5, fun tb rt H7 s7 htn htb hLt hnew => ?_⟩
          have hTl : rt.length = (turnsM row).length := hLt.1
          have hT1 : (turnsM row).length ≤ 10000 := Nat.le_trans (Nat.le_trans (by rw [Nat.one_mul]; exact Nat.le_refl _) (Nat.mul_le_mul_right (turnsM row).length (show 1 ≤ ev.length by omega))) hprod
          have hosl : os.length = i1 := by
            rw [every_len _ _ os rfl (by rw [hev]; exact List.mem_of_getElem? hos), List.length_take, rowsOf_length]
            omega
          have hrsl : rs1.length = i1 := by rw [hLo.1, hosl]
          have he7 := s7 _ _ (s6 _ _ he5)
          have hLo7 : LL H7 rs1 os := (hLo.mono s6).mono s7
          have hlo7 := s7 _ _ hlo6
          refine ⟨tb, rfl, ⟨_, SqL.of htb⟩, fun D hD => ?_⟩
          have nDlo : D ≠ lo := fun z => by
            rw [z, hlo7] at hD
            cases hD
          refine lc_list (K := K) (a := tb) (xs := rt.map V.ref) (fun q H8 => Same H7 H8 ∧ ∃ ms : List Addr, H8 D = some (.lst (ms.map V.ref)) ∧ L3 D H8 ms (((turnsM row).take q).map fun t => os ++ [t]) ∧ L3 lo H8 ms (((turnsM row).take q).map fun t => os ++ [t]))
            ⟨Same.new hD, [], upd_same, by simpa using L3.nil, by simpa using L3.nil⟩ (fun q H8 _ ⟨s8, _⟩ => SqL.of (s8 _ _ htb)) ?_ ?_
          · rintro q x H8 hq ⟨s8, ms, hD8, hLD, hLl⟩
            obtain ⟨t, ht, rfl⟩ := ref_get hq
            have hql : q < (turnsM row).length := by
              rw [← hTl]
              exact (List.getElem?_eq_some_iff.mp ht).1
            obtain ⟨tr, htr⟩ : ∃ tr, (turnsM row)[q]? = some tr := ⟨_, List.getElem?_eq_getElem hql⟩
            have ht8 := s8 _ _ (hLt.2 q t tr ht htr)
            have hml : ms.length = q := by
              rw [hLD.1, List.length_map, List.length_take]
              omega
            refine ⟨rfl, yesT ?_⟩
            refine ⟨_, rfl, _, rfl, (by show 1 ≤ sizeLine; decide), fun p1 hp1 => ?_⟩
            have he8 := s8 _ _ he7
            have n1 : ∀ {b o}, H8 b = some o → b ≠ p1 := fun {b o} z => ne_of_none z hp1
            refine ⟨e1, p1, rs1.map V.ref, [.ref t], rfl, rfl, (by rw [upd_ne (n1 he8)]; exact he8), upd_same, ?_, fun p2 hp2 => ?_⟩
            · rw [List.length_map]
              exact Nat.le_of_lt (big_size (by show rs1.length + 1 ≤ 100000; omega))
            have s9 : Same H8 (upd H8 p1 (.lst [.ref t])) := Same.new hp1
            have hp2' : H8 p2 = none := s9.free hp2
            have s10 := s9.upd (o := .lst (rs1.map V.ref ++ [.ref t])) hp2'
            have hD10 := s10 _ _ hD8
            have nDp : D ≠ p2 := ne_of_none hD8 hp2'
            have hLL : LL (upd (upd H8 p1 (.lst [.ref t])) p2 (.lst (rs1.map V.ref ++ [.ref t]))) (rs1 ++ [t]) (os ++ [tr]) := ((hLo7.mono s8).mono s10).app (LL.one (s10 _ _ ht8))
            have hp10 : (upd (upd H8 p1 (.lst [.ref t])) p2 (.lst (rs1.map V.ref ++ [.ref t]))) p2 = some (.lst ((rs1 ++ [t]).map V.ref)) := by
              rw [upd_same, List.map_append]
              rfl
            have hD11 : L3 D (upd (upd H8 p1 (.lst [.ref t])) p2 (.lst (rs1.map V.ref ++ [.ref t]))) (ms ++ [p2]) (((turnsM row).take q).map (fun t => os ++ [t]) ++ [os ++ [tr]]) := by
              refine (hLD.mono s10).app (L3.one (Ne.symm nDp) (fun h1 => ?_) hp10 hLL)
              rcases List.mem_append.mp h1 with h1 | h1
              · exact hLo7.notin hD h1
              · rw [List.mem_singleton.mp h1, hLt.2 q t tr ht htr] at hD
                cases hD
            have hl11 : L3 lo (upd (upd H8 p1 (.lst [.ref t])) p2 (.lst (rs1.map V.ref ++ [.ref t]))) (ms ++ [p2]) (((turnsM row).take q).map (fun t => os ++ [t]) ++ [os ++ [tr]]) := by
              refine (hLl.mono s10).app (L3.one (Ne.symm (ne_of_none (s8 _ _ hlo7) hp2')) (fun h1 => ?_) hp10 hLL)
              rcases List.mem_append.mp h1 with h1 | h1
              · exact hnl1 h1
              · have := hnew t (List.mem_of_getElem? ht)
                rw [← List.mem_singleton.mp h1, hlo6] at this
                cases this
            refine ⟨ms.map V.ref, hD10, ?_, ?_, ms ++ [p2], ?_, ?_, ?_⟩
            · rw [List.length_map]
              exact big_size (by omega)
            · exact (s8.trans s10).upd hD
            · rw [upd_same, List.map_append]
              rfl
            all_goals rw [take_snoc htr, List.map_append]
            · exact L3.upd hD11
            · exact L3.upd2 hl11 hD11
          · rintro H8 ⟨s8, ms, hD8, hLD, hLl⟩
            rw [List.length_map, hTl, List.take_length] at hLl
            have hm1 := hLl.1
            rw [List.length_map] at hm1
            refine ⟨lo, D, _, _, rfl, rfl, s8 _ _ hlo7, hD8, ?_, ?_⟩
            · rw [List.length_map, List.length_map, hls.1, more_len, List.length_take, hm1, Nat.min_eq_left (by omega)]
              have q1 : (j + 1) * (turnsM row).length ≤ ev.length * (turnsM row).length := Nat.mul_le_mul_right _ hjl
              rw [Nat.succ_mul] at q1
              exact Nat.le_of_lt (big_size (by omega))
            · refine ⟨ls ++ ms, _, _, rfl, (s6.trans (s7.trans s8)).upd hlo, ?_, ?_⟩
              · rw [upd_same, List.map_append]
              · have e : moreM (ev.take (j + 1)) row = moreM (ev.take j) row ++ (turnsM row).map (fun t => os ++ [t]) := by
                  rw [take_snoc hos]
                  unfold moreM
                  rw [List.flatMap_append]
                  simp
                rw [e]
                exact ((hls.mono (s7.trans s8)).app hLl).upd
        · rintro σ H6 ⟨ls, z8, z9, rfl, s6, hlo6, hls⟩
          rw [List.length_map, hL5.1, List.take_length] at hls
          refine ⟨_, rfl, lo, ls, _, _, _, _, _, _, rfl, s5.trans s6, hlo6, lo, ?_⟩
          rw [take_snoc hrow, every_snoc, hev]
          exact hls
      · rintro σ H5 ⟨ea, es, y4, y5, y6, y7, y8, y9, rfl, s5, hea, lo0, hL0⟩
        rw [List.length_map, hrl, ← rowsOf_length, List.take_length] at hL0
        have hne : rowsOf us ∈ everyM (rowsOf us) := mem_every _ _ _ rfl rfl fun p t row hp hr => by
          rw [hp] at hr
          cases hr
          exact perm_turns _ _ _ rfl (List.Perm.refl _)
        have hevl : (everyM (rowsOf us)).length ≤ 1000 := by
          have := all_size hug h6 (i := us.length + 1) (by omega)
          rw [← rowsOf_length, List.take_length] at this
          exact this
        have hall : ∀ o ∈ everyM (rowsOf us), o.length = us.length + 1 ∧ InN o.length o ∧ ∃ z, lastC o = some z := fun o ho => ⟨(all_in hug h6 ho).1, (all_in hug h6 ho).2, all_last hug h6 ho⟩
        have hbst := fun {os ms} (hB : BestR us os ms) => best_least hug h6 hB
        generalize hev : everyM (rowsOf us) = ev at hL0 hne hevl hall hbst
        have hev0 : 0 < ev.length := List.length_pos_of_mem hne
        refine ⟨_, rfl, ea, rfl, ⟨_, SqL.of hea⟩, fun D hD => ?_⟩
        refine lc_list (K := K) (a := ea) (xs := es.map V.ref) (fun q H6 => Same H5 H6 ∧ ∃ zs : List Int, zs.length = q ∧ H6 D = some (.lst (zs.map V.int)) ∧ ∀ (p : Nat) (z : Int), zs[p]? = some z → ∃ o, ev[p]? = some o ∧ lastC o = some z)
          ⟨Same.new hD, [], rfl, upd_same, fun p z h => by simp at h⟩ (fun q H6 _ ⟨s6, _⟩ => SqL.of (s6 _ _ hea)) ?_ ?_
        · rintro q x H6 hq ⟨s6, zs, hzl, hD6, hz⟩
          obtain ⟨e1, he1, rfl⟩ := ref_get hq
          have hql : q < ev.length := by
            rw [← hL0.1]
            exact (List.getElem?_eq_some_iff.mp he1).1
          obtain ⟨os, hos⟩ : ∃ os, ev[q]? = some os := ⟨_, List.getElem?_eq_getElem hql⟩
          obtain ⟨_, rs1, _, he5, hLo⟩ := hL0.2 q e1 os he1 hos
          obtain ⟨hol, hoi, z, hzo⟩ := hall os (List.mem_of_getElem? hos)
          refine ⟨rfl, yesT ?_⟩
          refine ⟨_, rfl, e1, rs1, os, z, rfl, s6 _ _ he5, hLo.mono s6, by omega, by omega, hoi, goM_goes 8 _ _ _ _ hzo, fun H7 s7 => ⟨zs.map V.int, s7 _ _ hD6, ?_, ?_, zs ++ [z], ?_, ?_, ?_⟩⟩
          · rw [List.length_map]
            exact big_size (by omega)
          · exact (s6.trans s7).upd hD
          · rw [List.length_append, hzl]
            rfl
          · rw [upd_same, List.map_append]
            rfl
          · intro p z' hp
            by_cases hpq : p < zs.length
            · rw [List.getElem?_append_left hpq] at hp
              exact hz p z' hp
            · have hpl := (List.getElem?_eq_some_iff.mp hp).1
              have ep : p = q := by
                rw [List.length_append] at hpl
                simp at hpl
                omega
              rw [List.getElem?_append_right (by omega), ep, hzl, Nat.sub_self] at hp
              have ez : z = z' := by simpa using hp
              subst ez
              exact ⟨os, by rw [ep]; exact hos, hzo⟩
        · rintro H6 ⟨s6, zs, hzl, hD6, hz⟩
          rw [List.length_map, hL0.1] at hzl
          refine ⟨D, zs, rfl, SqL.of hD6, by omega, fun m hm hmin => ?_⟩
          have s36 : Same H3 H6 := s34.trans (s5.trans s6)
          have T6 : TabOk H6 Pt lamQ := tab_same T3 s36
          refine ⟨_, rfl, ub, us, rfl, s36 _ _ hub, hug, T6, fun x dx o mm rs os ms H7 g7 hx ho hLL hmm hB => ?_⟩
          obtain ⟨l, hl, hl0, _, hle, hmem⟩ := hbst hB
          have eml : m = l := by
            obtain ⟨p, hp⟩ := List.getElem?_of_mem hm
            obtain ⟨o1, ho1, hz1⟩ := hz p m hp
            obtain ⟨z, hz2, hlz⟩ := hle o1 (List.mem_of_getElem? ho1)
            rw [hz1] at hz2
            cases hz2
            obtain ⟨p2, hp2⟩ := List.getElem?_of_mem hmem
            have hp2l := (List.getElem?_eq_some_iff.mp hp2).1
            obtain ⟨z2, hz2⟩ : ∃ z2, zs[p2]? = some z2 := ⟨_, List.getElem?_eq_getElem (by omega)⟩
            obtain ⟨o2, ho2, hz3⟩ := hz p2 z2 hz2
            rw [hp2] at ho2
            cases ho2
            rw [hl] at hz3
            cases hz3
            have := hmin l (List.mem_of_getElem? hz2)
            omega
          subst eml
          obtain ⟨hol, hoi, _⟩ := hall os hmem
          have hm0 : atI (ms.map V.int) 0 = some (.int m) := by
            rw [← hl0]
            exact atI_at0 (by rw [hB.lm]; omega)
          refine ⟨_, rfl, x, _, dx, _, _, rfl, hx, T.cl_Fewest, T.na_Fewest_marks, fld_marks o mm, mm, _, _, _, rfl, rfl, SqL.of hmm, hm0, _, rfl, rfl, _, rfl, ?_⟩
          rw [decide_eq_true rfl]
          refine ⟨_, rfl, x, _, dx, _, _, rfl, hx, T.cl_Fewest, T.na_Fewest_orders, fld_orders o mm, o, rs, os, m, rfl, ho, hLL, by omega, by omega, hoi, goM_goes 8 _ _ _ _ hl, fun H8 s8 => ⟨_, rfl, rfl, _, rfl, ?_⟩⟩
          rw [decide_eq_true rfl]
          exact ⟨_, _, _, _, _, _, _, _, _, rfl, (g2.trans (Gr.of g2.tab s3)).trans ((Gr.of T3 s36).trans (g7.trans (Gr.of g7.tab s8)))⟩
    · rintro σ H2 ⟨x1, x2, x3, x4, x5, x6, x7, x8, x9, rfl, g2⟩
      refine ⟨(by show 5 ≤ sizeLine; decide), fun ub hub => ?_⟩
      have hug : GoodUps [0, 0, 0, 3, 4] := ⟨by decide, fun j u hj => ?_⟩
      · have hn : Gr Pt H (upd H2 ub (.lst ([0, 0, 0, 3, 4].map V.int))) := g2.trans (Gr.of g2.tab (Same.new hub))
        refine ⟨ub, [0, 0, 0, 3, 4], rfl, upd_same, hug, hn.tab, fun x dx o mm rs os ms H7 g7 hx ho hLL hmm hB => ?_⟩
        obtain ⟨l, hl, hl0, hl1, _⟩ := best_least hug (by decide) hB
        have e3 : leastC (everyM (rowsOf [0, 0, 0, 3, 4])) = some 3 := by decide +kernel
        rw [e3] at hl1
        cases hl1
        have hm0 : atI (ms.map V.int) 0 = some (.int 3) := by
          rw [← hl0]
          exact atI_at0 (by rw [hB.lm]; omega)
        exact ⟨x, _, dx, _, _, rfl, hx, T.cl_Fewest, T.na_Fewest_marks, fld_marks o mm, mm, _, _, _, rfl, rfl, SqL.of hmm, hm0, rfl, k _⟩
      · have hjl := (List.getElem?_eq_some_iff.mp hj).1
        have c : j = 0 ∨ j = 1 ∨ j = 2 ∨ j = 3 ∨ j = 4 := by
          simp at hjl
          omega
        rcases c with rfl | rfl | rfl | rfl | rfl <;> cases hj <;> decide
end
end Toy

namespace Toy
open PySem L2 PyProof.Rows
theorem all_mk {l : PySem.W.OpenLaw} {w : World} {K : PySem.W.Frag} {h : Heap} {mg : Str → Option Value} {fa : Addr}
    {t_MOST_PEOPLE : Tok}
    {c_longest_first P_longest_first : Addr}
    {f_is_number : Addr} {od_is_number an_is_number : Option Addr} {sl_is_number : Array (Option Value)} {oc_is_number kV_is_number dc_is_number pm_is_number cd_is_number ct_is_number : Value}
    {f_is_person : Addr} {od_is_person an_is_person : Option Addr} {sl_is_person : Array (Option Value)} {oc_is_person kV_is_person dc_is_person pm_is_person cd_is_person ct_is_person : Value}
    {f_is_ups : Addr} {od_is_ups an_is_ups : Option Addr} {sl_is_ups : Array (Option Value)} {oc_is_ups kV_is_ups dc_is_ups pm_is_ups cd_is_ups ct_is_ups : Value}
    {f_copied : Addr} {od_copied an_copied : Option Addr} {sl_copied : Array (Option Value)} {oc_copied kV_copied dc_copied pm_copied cd_copied ct_copied : Value}
    {f_take_ups : Addr} {od_take_ups an_take_ups : Option Addr} {sl_take_ups : Array (Option Value)} {oc_take_ups kV_take_ups dc_take_ups pm_take_ups cd_take_ups ct_take_ups : Value}
    {f_rows_of : Addr} {od_rows_of an_rows_of : Option Addr} {sl_rows_of : Array (Option Value)} {oc_rows_of kV_rows_of dc_rows_of pm_rows_of cd_rows_of ct_rows_of : Value}
    {f_longest_first : Addr} {od_longest_first an_longest_first : Option Addr} {sl_longest_first : Array (Option Value)} {oc_longest_first kV_longest_first dc_longest_first pm_longest_first ct_longest_first : Value}
    {f_rounds_needed : Addr} {od_rounds_needed an_rounds_needed : Option Addr} {sl_rounds_needed : Array (Option Value)} {oc_rounds_needed kV_rounds_needed dc_rounds_needed pm_rounds_needed cd_rounds_needed ct_rounds_needed : Value}
    {f_best_orders : Addr} {od_best_orders an_best_orders : Option Addr} {sl_best_orders : Array (Option Value)} {oc_best_orders kV_best_orders dc_best_orders pm_best_orders cd_best_orders ct_best_orders : Value}
    {f_fewest : Addr} {od_fewest an_fewest : Option Addr} {sl_fewest : Array (Option Value)} {oc_fewest kV_fewest dc_fewest pm_fewest cd_fewest ct_fewest : Value}
    {f_law_number : Addr} {od_law_number an_law_number : Option Addr} {sl_law_number : Array (Option Value)} {oc_law_number kV_law_number dc_law_number pm_law_number cd_law_number ct_law_number : Value}
    {f_law_ups : Addr} {od_law_ups an_law_ups : Option Addr} {sl_law_ups : Array (Option Value)} {oc_law_ups kV_law_ups dc_law_ups pm_law_ups cd_law_ups ct_law_ups : Value}
    {f_law_called : Addr} {od_law_called an_law_called : Option Addr} {sl_law_called : Array (Option Value)} {oc_law_called kV_law_called dc_law_called pm_law_called cd_law_called ct_law_called : Value}
    {f_law_last : Addr} {od_law_last an_law_last : Option Addr} {sl_law_last : Array (Option Value)} {oc_law_last kV_law_last dc_law_last pm_law_last cd_law_last ct_law_last : Value}
    {f_law_turns : Addr} {od_law_turns an_law_turns : Option Addr} {sl_law_turns : Array (Option Value)} {oc_law_turns kV_law_turns dc_law_turns pm_law_turns cd_law_turns ct_law_turns : Value}
    {f_law : Addr} {od_law an_law : Option Addr} {sl_law : Array (Option Value)} {oc_law kV_law dc_law pm_law cd_law ct_law : Value}
    {C_Fewest : Addr}
    {f_Fewest_init : Addr} {od_Fewest_init an_Fewest_init : Option Addr} {sl_Fewest_init : Array (Option Value)} {oc_Fewest_init kV_Fewest_init dc_Fewest_init pm_Fewest_init cd_Fewest_init ct_Fewest_init : Value}
    {dd_longest_first : Option Addr} {vs_longest_first : Array Value} {sd_longest_first : Array (Option Value)}
    (X : K.In h) (G : h.Ns mainGlobals mg) (hfa : mg "law" = some (.ref fa))
    (z_bool : PySem.W.nsIn K mainGlobals "bool" = some none)
    (z_enumerate : PySem.W.nsIn K mainGlobals "enumerate" = some none)
    (z_int : PySem.W.nsIn K mainGlobals "int" = some none)
    (z_isinstance : PySem.W.nsIn K mainGlobals "isinstance" = some none)
    (z_len : PySem.W.nsIn K mainGlobals "len" = some none)
    (z_list : PySem.W.nsIn K mainGlobals "list" = some none)
    (z_max : PySem.W.nsIn K mainGlobals "max" = some none)
    (z_min : PySem.W.nsIn K mainGlobals "min" = some none)
    (z_range : PySem.W.nsIn K mainGlobals "range" = some none)
    (z_reversed : PySem.W.nsIn K mainGlobals "reversed" = some none)
    (z_sorted : PySem.W.nsIn K mainGlobals "sorted" = some none)
    (z_sum : PySem.W.nsIn K mainGlobals "sum" = some none)
    (g_MOST_PEOPLE : PySem.W.nsIn K mainGlobals "MOST_PEOPLE" = some (some (.int 40 t_MOST_PEOPLE)))
    (a_is_number : PySem.W.nsIn K mainGlobals "is_number" = some (some (.ref f_is_number)))
    (l_is_number : K.lookup f_is_number = some ⟨oc_is_number, od_is_number, .func (PySem.W.fnOf "is_number" "is_number" (defArgs s_is_number) (defBody s_is_number) (defScope s_is_number) .none kV_is_number dc_is_number pm_is_number an_is_number cd_is_number ct_is_number), sl_is_number⟩)
    (cc_is_number : PySem.W.codeIn K cd_is_number "is_number" = true)
    (k_is_number : PySem.W.keepIn K (.ref f_is_number) = true)
    (a_is_person : PySem.W.nsIn K mainGlobals "is_person" = some (some (.ref f_is_person)))
    (l_is_person : K.lookup f_is_person = some ⟨oc_is_person, od_is_person, .func (PySem.W.fnOf "is_person" "is_person" (defArgs s_is_person) (defBody s_is_person) (defScope s_is_person) .none kV_is_person dc_is_person pm_is_person an_is_person cd_is_person ct_is_person), sl_is_person⟩)
    (cc_is_person : PySem.W.codeIn K cd_is_person "is_person" = true)
    (k_is_person : PySem.W.keepIn K (.ref f_is_person) = true)
    (a_is_ups : PySem.W.nsIn K mainGlobals "is_ups" = some (some (.ref f_is_ups)))
    (l_is_ups : K.lookup f_is_ups = some ⟨oc_is_ups, od_is_ups, .func (PySem.W.fnOf "is_ups" "is_ups" (defArgs s_is_ups) (defBody s_is_ups) (defScope s_is_ups) .none kV_is_ups dc_is_ups pm_is_ups an_is_ups cd_is_ups ct_is_ups), sl_is_ups⟩)
    (cc_is_ups : PySem.W.codeIn K cd_is_ups "is_ups" = true)
    (k_is_ups : PySem.W.keepIn K (.ref f_is_ups) = true)
    (a_copied : PySem.W.nsIn K mainGlobals "copied" = some (some (.ref f_copied)))
    (l_copied : K.lookup f_copied = some ⟨oc_copied, od_copied, .func (PySem.W.fnOf "copied" "copied" (defArgs s_copied) (defBody s_copied) (defScope s_copied) .none kV_copied dc_copied pm_copied an_copied cd_copied ct_copied), sl_copied⟩)
    (cc_copied : PySem.W.codeIn K cd_copied "copied" = true)
    (k_copied : PySem.W.keepIn K (.ref f_copied) = true)
    (a_take_ups : PySem.W.nsIn K mainGlobals "take_ups" = some (some (.ref f_take_ups)))
    (l_take_ups : K.lookup f_take_ups = some ⟨oc_take_ups, od_take_ups, .func (PySem.W.fnOf "take_ups" "take_ups" (defArgs s_take_ups) (defBody s_take_ups) (defScope s_take_ups) .none kV_take_ups dc_take_ups pm_take_ups an_take_ups cd_take_ups ct_take_ups), sl_take_ups⟩)
    (cc_take_ups : PySem.W.codeIn K cd_take_ups "take_ups" = true)
    (k_take_ups : PySem.W.keepIn K (.ref f_take_ups) = true)
    (a_rows_of : PySem.W.nsIn K mainGlobals "rows_of" = some (some (.ref f_rows_of)))
    (l_rows_of : K.lookup f_rows_of = some ⟨oc_rows_of, od_rows_of, .func (PySem.W.fnOf "rows_of" "rows_of" (defArgs s_rows_of) (defBody s_rows_of) (defScope s_rows_of) .none kV_rows_of dc_rows_of pm_rows_of an_rows_of cd_rows_of ct_rows_of), sl_rows_of⟩)
    (cc_rows_of : PySem.W.codeIn K cd_rows_of "rows_of" = true)
    (k_rows_of : PySem.W.keepIn K (.ref f_rows_of) = true)
    (a_longest_first : PySem.W.nsIn K mainGlobals "longest_first" = some (some (.ref f_longest_first)))
    (l_longest_first : K.lookup f_longest_first = some ⟨oc_longest_first, od_longest_first, .func (PySem.W.fnOf "longest_first" "longest_first" (defArgs s_longest_first) (defBody s_longest_first) (defScope s_longest_first) .none kV_longest_first dc_longest_first pm_longest_first an_longest_first (.ref c_longest_first) ct_longest_first), sl_longest_first⟩)
    (cc_longest_first : PySem.W.codeIn K (.ref c_longest_first) "longest_first" = true)
    (k_longest_first : PySem.W.keepIn K (.ref f_longest_first) = true)
    (a_rounds_needed : PySem.W.nsIn K mainGlobals "rounds_needed" = some (some (.ref f_rounds_needed)))
    (l_rounds_needed : K.lookup f_rounds_needed = some ⟨oc_rounds_needed, od_rounds_needed, .func (PySem.W.fnOf "rounds_needed" "rounds_needed" (defArgs s_rounds_needed) (defBody s_rounds_needed) (defScope s_rounds_needed) .none kV_rounds_needed dc_rounds_needed pm_rounds_needed an_rounds_needed cd_rounds_needed ct_rounds_needed), sl_rounds_needed⟩)
    (cc_rounds_needed : PySem.W.codeIn K cd_rounds_needed "rounds_needed" = true)
    (k_rounds_needed : PySem.W.keepIn K (.ref f_rounds_needed) = true)
    (a_best_orders : PySem.W.nsIn K mainGlobals "best_orders" = some (some (.ref f_best_orders)))
    (l_best_orders : K.lookup f_best_orders = some ⟨oc_best_orders, od_best_orders, .func (PySem.W.fnOf "best_orders" "best_orders" (defArgs s_best_orders) (defBody s_best_orders) (defScope s_best_orders) .none kV_best_orders dc_best_orders pm_best_orders an_best_orders cd_best_orders ct_best_orders), sl_best_orders⟩)
    (cc_best_orders : PySem.W.codeIn K cd_best_orders "best_orders" = true)
    (k_best_orders : PySem.W.keepIn K (.ref f_best_orders) = true)
    (a_fewest : PySem.W.nsIn K mainGlobals "fewest" = some (some (.ref f_fewest)))
    (l_fewest : K.lookup f_fewest = some ⟨oc_fewest, od_fewest, .func (PySem.W.fnOf "fewest" "fewest" (defArgs s_fewest) (defBody s_fewest) (defScope s_fewest) .none kV_fewest dc_fewest pm_fewest an_fewest cd_fewest ct_fewest), sl_fewest⟩)
    (cc_fewest : PySem.W.codeIn K cd_fewest "fewest" = true)
    (k_fewest : PySem.W.keepIn K (.ref f_fewest) = true)
    (a_law_number : PySem.W.nsIn K mainGlobals "_law_number" = some (some (.ref f_law_number)))
    (l_law_number : K.lookup f_law_number = some ⟨oc_law_number, od_law_number, .func (PySem.W.fnOf "_law_number" "_law_number" (defArgs s_law_number) (defBody s_law_number) (defScope s_law_number) .none kV_law_number dc_law_number pm_law_number an_law_number cd_law_number ct_law_number), sl_law_number⟩)
    (cc_law_number : PySem.W.codeIn K cd_law_number "_law_number" = true)
    (k_law_number : PySem.W.keepIn K (.ref f_law_number) = true)
    (a_law_ups : PySem.W.nsIn K mainGlobals "_law_ups" = some (some (.ref f_law_ups)))
    (l_law_ups : K.lookup f_law_ups = some ⟨oc_law_ups, od_law_ups, .func (PySem.W.fnOf "_law_ups" "_law_ups" (defArgs s_law_ups) (defBody s_law_ups) (defScope s_law_ups) .none kV_law_ups dc_law_ups pm_law_ups an_law_ups cd_law_ups ct_law_ups), sl_law_ups⟩)
    (cc_law_ups : PySem.W.codeIn K cd_law_ups "_law_ups" = true)
    (k_law_ups : PySem.W.keepIn K (.ref f_law_ups) = true)
    (a_law_called : PySem.W.nsIn K mainGlobals "_law_called" = some (some (.ref f_law_called)))
    (l_law_called : K.lookup f_law_called = some ⟨oc_law_called, od_law_called, .func (PySem.W.fnOf "_law_called" "_law_called" (defArgs s_law_called) (defBody s_law_called) (defScope s_law_called) .none kV_law_called dc_law_called pm_law_called an_law_called cd_law_called ct_law_called), sl_law_called⟩)
    (cc_law_called : PySem.W.codeIn K cd_law_called "_law_called" = true)
    (k_law_called : PySem.W.keepIn K (.ref f_law_called) = true)
    (a_law_last : PySem.W.nsIn K mainGlobals "_law_last" = some (some (.ref f_law_last)))
    (l_law_last : K.lookup f_law_last = some ⟨oc_law_last, od_law_last, .func (PySem.W.fnOf "_law_last" "_law_last" (defArgs s_law_last) (defBody s_law_last) (defScope s_law_last) .none kV_law_last dc_law_last pm_law_last an_law_last cd_law_last ct_law_last), sl_law_last⟩)
    (cc_law_last : PySem.W.codeIn K cd_law_last "_law_last" = true)
    (k_law_last : PySem.W.keepIn K (.ref f_law_last) = true)
    (a_law_turns : PySem.W.nsIn K mainGlobals "_law_turns" = some (some (.ref f_law_turns)))
    (l_law_turns : K.lookup f_law_turns = some ⟨oc_law_turns, od_law_turns, .func (PySem.W.fnOf "_law_turns" "_law_turns" (defArgs s_law_turns) (defBody s_law_turns) (defScope s_law_turns) .none kV_law_turns dc_law_turns pm_law_turns an_law_turns cd_law_turns ct_law_turns), sl_law_turns⟩)
    (cc_law_turns : PySem.W.codeIn K cd_law_turns "_law_turns" = true)
    (k_law_turns : PySem.W.keepIn K (.ref f_law_turns) = true)
    (a_law : PySem.W.nsIn K mainGlobals "law" = some (some (.ref f_law)))
    (l_law : K.lookup f_law = some ⟨oc_law, od_law, .func (PySem.W.fnOf "law" "law" (defArgs s_law) (defBody s_law) (defScope s_law) .none kV_law dc_law pm_law an_law cd_law ct_law), sl_law⟩)
    (cc_law : PySem.W.codeIn K cd_law "law" = true)
    (k_law : PySem.W.keepIn K (.ref f_law) = true)
    (aC_Fewest : PySem.W.nsIn K mainGlobals "Fewest" = some (some (.ref C_Fewest)))
    (a_Fewest_init : PySem.W.findIn K (.ref C_Fewest) "__init__" = some (some (.ref f_Fewest_init)))
    (i_Fewest_init : PySem.W.isFn K (.ref f_Fewest_init) = true)
    (l_Fewest_init : K.lookup f_Fewest_init = some ⟨oc_Fewest_init, od_Fewest_init, .func (PySem.W.fnOf "__init__" "Fewest.__init__" (defArgs s_Fewest_init) (defBody s_Fewest_init) (defScope s_Fewest_init) .none kV_Fewest_init dc_Fewest_init pm_Fewest_init an_Fewest_init cd_Fewest_init ct_Fewest_init), sl_Fewest_init⟩)
    (cc_Fewest_init : PySem.W.codeIn K cd_Fewest_init "Fewest.__init__" = true)
    (k_Fewest_init : PySem.W.keepIn K (.ref f_Fewest_init) = true)
    (pg_Fewest : PySem.W.plainGet K C_Fewest Str.empty = true)
    (hd_Fewest : PySem.W.hasDictIn K C_Fewest = true)
    (po_Fewest : PySem.W.plainOver K C_Fewest = true)
    (sa_Fewest : PySem.W.findIn K (.ref C_Fewest) "__setattr__" = some (some (.builtin "object.__setattr__")))
    (mk_Fewest : PySem.W.makesIn K C_Fewest = true)
    (kc_Fewest : PySem.W.keepIn K (.ref C_Fewest) = true)
    (na_Fewest_orders : PySem.W.findIn K (.ref C_Fewest) "orders" = some none)
    (na_Fewest_marks : PySem.W.findIn K (.ref C_Fewest) "marks" = some none)
    (lc_longest_first : K.lookup c_longest_first = some ⟨.type "code", dd_longest_first, .fields vs_longest_first, sd_longest_first⟩)
    (vp_longest_first : vs_longest_first[11]? = some (.ref P_longest_first))
    (tb_longest_first : PySem.W.tabIn K "longest_first" = some (c_longest_first, P_longest_first))
    (ch_longest_first : PySem.W.codeHdIn K c_longest_first P_longest_first = true)
    (nt_longest_first : K.lookup P_longest_first = none)
    : ∃ (fd : FuncData) (c P : Addr), PySem.W.tabIn K "longest_first" = some (c, P) ∧ K.lookup P = none ∧ (∀ (s : Shared) (u : Value), BindsTo s fd ⟨[u], []⟩ [("_law_script", u)]) ∧ ∀ base : Heap, K.In base → base.Ns mainGlobals mg → BmOk mg base → FnOk l.prog w K mg base CX0 8 fa fd ["_law_script"] (spLaw K P) := by
  have e := hfa.symm.trans (PySem.W.mg_of X G a_law)
  cases e
  have F_is_number := fun_mk (st := s_is_number) l_is_number cc_is_number k_is_number
  have B_is_number := F_is_number.binds (ps := ["thing"]) fun _ _ _ _ _ _ us hl => match us, hl with | [_], _ => rfl
  have F_is_person := fun_mk (st := s_is_person) l_is_person cc_is_person k_is_person
  have B_is_person := F_is_person.binds (ps := ["thing", "people"]) fun _ _ _ _ _ _ us hl => match us, hl with | [_, _], _ => rfl
  have F_is_ups := fun_mk (st := s_is_ups) l_is_ups cc_is_ups k_is_ups
  have B_is_ups := F_is_ups.binds (ps := ["ups"]) fun _ _ _ _ _ _ us hl => match us, hl with | [_], _ => rfl
  have F_copied := fun_mk (st := s_copied) l_copied cc_copied k_copied
  have B_copied := F_copied.binds (ps := ["thing"]) fun _ _ _ _ _ _ us hl => match us, hl with | [_], _ => rfl
  have F_take_ups := fun_mk (st := s_take_ups) l_take_ups cc_take_ups k_take_ups
  have B_take_ups := F_take_ups.binds (ps := ["ups"]) fun _ _ _ _ _ _ us hl => match us, hl with | [_], _ => rfl
  have F_rows_of := fun_mk (st := s_rows_of) l_rows_of cc_rows_of k_rows_of
  have B_rows_of := F_rows_of.binds (ps := ["ups"]) fun _ _ _ _ _ _ us hl => match us, hl with | [_], _ => rfl
  have F_longest_first := fun_mk (st := s_longest_first) l_longest_first cc_longest_first k_longest_first
  have B_longest_first := F_longest_first.binds (ps := ["row", "marks"]) fun _ _ _ _ _ _ us hl => match us, hl with | [_, _], _ => rfl
  have F_rounds_needed := fun_mk (st := s_rounds_needed) l_rounds_needed cc_rounds_needed k_rounds_needed
  have B_rounds_needed := F_rounds_needed.binds (ps := ["row", "marks"]) fun _ _ _ _ _ _ us hl => match us, hl with | [_, _], _ => rfl
  have F_best_orders := fun_mk (st := s_best_orders) l_best_orders cc_best_orders k_best_orders
  have B_best_orders := F_best_orders.binds (ps := ["ups"]) fun _ _ _ _ _ _ us hl => match us, hl with | [_], _ => rfl
  have F_fewest := fun_mk (st := s_fewest) l_fewest cc_fewest k_fewest
  have B_fewest := F_fewest.binds (ps := ["ups"]) fun _ _ _ _ _ _ us hl => match us, hl with | [_], _ => rfl
  have F_law_number := fun_mk (st := s_law_number) l_law_number cc_law_number k_law_number
  have B_law_number := F_law_number.binds (ps := ["_law_cell", "_law_at", "_law_whole"]) fun _ _ _ _ _ _ us hl => match us, hl with | [_, _, _], _ => rfl
  have F_law_ups := fun_mk (st := s_law_ups) l_law_ups cc_law_ups k_law_ups
  have B_law_ups := F_law_ups.binds (ps := ["_law_script", "_law_by", "_law_most"]) fun _ _ _ _ _ _ us hl => match us, hl with | [_, _, _], _ => rfl
  have F_law_called := fun_mk (st := s_law_called) l_law_called cc_law_called k_law_called
  have B_law_called := F_law_called.binds (ps := ["_law_ups_here"]) fun _ _ _ _ _ _ us hl => match us, hl with | [_], _ => rfl
  have F_law_last := fun_mk (st := s_law_last) l_law_last cc_law_last k_law_last
  have B_law_last := F_law_last.binds (ps := ["_law_orders"]) fun _ _ _ _ _ _ us hl => match us, hl with | [_], _ => rfl
  have F_law_turns := fun_mk (st := s_law_turns) l_law_turns cc_law_turns k_law_turns
  have B_law_turns := F_law_turns.binds (ps := ["_law_row"]) fun _ _ _ _ _ _ us hl => match us, hl with | [_], _ => rfl
  have F_law := fun_mk (st := s_law) l_law cc_law k_law
  have B_law := F_law.binds (ps := ["_law_script"]) fun _ _ _ _ _ _ us hl => match us, hl with | [_], _ => rfl
  have F_Fewest_init := fun_mk (st := s_Fewest_init) l_Fewest_init cc_Fewest_init k_Fewest_init
  have B_Fewest_init := F_Fewest_init.binds (ps := ["self", "orders", "marks"]) fun _ _ _ _ _ _ us hl => match us, hl with | [_, _, _], _ => rfl
  have T : Txt K mg ⟨f_is_number, (PySem.W.fnOf "is_number" "is_number" (defArgs s_is_number) (defBody s_is_number) (defScope s_is_number) .none kV_is_number dc_is_number pm_is_number an_is_number cd_is_number ct_is_number), f_is_person, (PySem.W.fnOf "is_person" "is_person" (defArgs s_is_person) (defBody s_is_person) (defScope s_is_person) .none kV_is_person dc_is_person pm_is_person an_is_person cd_is_person ct_is_person), f_is_ups, (PySem.W.fnOf "is_ups" "is_ups" (defArgs s_is_ups) (defBody s_is_ups) (defScope s_is_ups) .none kV_is_ups dc_is_ups pm_is_ups an_is_ups cd_is_ups ct_is_ups), f_copied, (PySem.W.fnOf "copied" "copied" (defArgs s_copied) (defBody s_copied) (defScope s_copied) .none kV_copied dc_copied pm_copied an_copied cd_copied ct_copied), f_take_ups, (PySem.W.fnOf "take_ups" "take_ups" (defArgs s_take_ups) (defBody s_take_ups) (defScope s_take_ups) .none kV_take_ups dc_take_ups pm_take_ups an_take_ups cd_take_ups ct_take_ups), f_rows_of, (PySem.W.fnOf "rows_of" "rows_of" (defArgs s_rows_of) (defBody s_rows_of) (defScope s_rows_of) .none kV_rows_of dc_rows_of pm_rows_of an_rows_of cd_rows_of ct_rows_of), f_longest_first, (PySem.W.fnOf "longest_first" "longest_first" (defArgs s_longest_first) (defBody s_longest_first) (defScope s_longest_first) .none kV_longest_first dc_longest_first pm_longest_first an_longest_first (.ref c_longest_first) ct_longest_first), f_rounds_needed, (PySem.W.fnOf "rounds_needed" "rounds_needed" (defArgs s_rounds_needed) (defBody s_rounds_needed) (defScope s_rounds_needed) .none kV_rounds_needed dc_rounds_needed pm_rounds_needed an_rounds_needed cd_rounds_needed ct_rounds_needed), f_best_orders, (PySem.W.fnOf "best_orders" "best_orders" (defArgs s_best_orders) (defBody s_best_orders) (defScope s_best_orders) .none kV_best_orders dc_best_orders pm_best_orders an_best_orders cd_best_orders ct_best_orders), f_fewest, (PySem.W.fnOf "fewest" "fewest" (defArgs s_fewest) (defBody s_fewest) (defScope s_fewest) .none kV_fewest dc_fewest pm_fewest an_fewest cd_fewest ct_fewest), f_law_number, (PySem.W.fnOf "_law_number" "_law_number" (defArgs s_law_number) (defBody s_law_number) (defScope s_law_number) .none kV_law_number dc_law_number pm_law_number an_law_number cd_law_number ct_law_number), f_law_ups, (PySem.W.fnOf "_law_ups" "_law_ups" (defArgs s_law_ups) (defBody s_law_ups) (defScope s_law_ups) .none kV_law_ups dc_law_ups pm_law_ups an_law_ups cd_law_ups ct_law_ups), f_law_called, (PySem.W.fnOf "_law_called" "_law_called" (defArgs s_law_called) (defBody s_law_called) (defScope s_law_called) .none kV_law_called dc_law_called pm_law_called an_law_called cd_law_called ct_law_called), f_law_last, (PySem.W.fnOf "_law_last" "_law_last" (defArgs s_law_last) (defBody s_law_last) (defScope s_law_last) .none kV_law_last dc_law_last pm_law_last an_law_last cd_law_last ct_law_last), f_law_turns, (PySem.W.fnOf "_law_turns" "_law_turns" (defArgs s_law_turns) (defBody s_law_turns) (defScope s_law_turns) .none kV_law_turns dc_law_turns pm_law_turns an_law_turns cd_law_turns ct_law_turns), fa, (PySem.W.fnOf "law" "law" (defArgs s_law) (defBody s_law) (defScope s_law) .none kV_law dc_law pm_law an_law cd_law ct_law), f_Fewest_init, (PySem.W.fnOf "__init__" "Fewest.__init__" (defArgs s_Fewest_init) (defBody s_Fewest_init) (defScope s_Fewest_init) .none kV_Fewest_init dc_Fewest_init pm_Fewest_init an_Fewest_init cd_Fewest_init ct_Fewest_init), C_Fewest, C_Fewest, C_Fewest, C_Fewest, c_longest_first, P_longest_first, t_MOST_PEOPLE⟩ := {
    n_bool := PySem.W.mg_none_of X G z_bool
    n_enumerate := PySem.W.mg_none_of X G z_enumerate
    n_int := PySem.W.mg_none_of X G z_int
    n_isinstance := PySem.W.mg_none_of X G z_isinstance
    n_len := PySem.W.mg_none_of X G z_len
    n_list := PySem.W.mg_none_of X G z_list
    n_max := PySem.W.mg_none_of X G z_max
    n_min := PySem.W.mg_none_of X G z_min
    n_range := PySem.W.mg_none_of X G z_range
    n_reversed := PySem.W.mg_none_of X G z_reversed
    n_sorted := PySem.W.mg_none_of X G z_sorted
    n_sum := PySem.W.mg_none_of X G z_sum
    g_MOST_PEOPLE := PySem.W.mg_of X G g_MOST_PEOPLE
    f_is_number := F_is_number
    b_is_number := B_is_number
    m_is_number := PySem.W.mg_of X G a_is_number
    k_is_number := k_is_number
    f_is_person := F_is_person
    b_is_person := B_is_person
    m_is_person := PySem.W.mg_of X G a_is_person
    k_is_person := k_is_person
    f_is_ups := F_is_ups
    b_is_ups := B_is_ups
    m_is_ups := PySem.W.mg_of X G a_is_ups
    k_is_ups := k_is_ups
    f_copied := F_copied
    b_copied := B_copied
    m_copied := PySem.W.mg_of X G a_copied
    k_copied := k_copied
    f_take_ups := F_take_ups
    b_take_ups := B_take_ups
    m_take_ups := PySem.W.mg_of X G a_take_ups
    k_take_ups := k_take_ups
    f_rows_of := F_rows_of
    b_rows_of := B_rows_of
    m_rows_of := PySem.W.mg_of X G a_rows_of
    k_rows_of := k_rows_of
    f_longest_first := F_longest_first
    b_longest_first := B_longest_first
    m_longest_first := PySem.W.mg_of X G a_longest_first
    k_longest_first := k_longest_first
    f_rounds_needed := F_rounds_needed
    b_rounds_needed := B_rounds_needed
    m_rounds_needed := PySem.W.mg_of X G a_rounds_needed
    k_rounds_needed := k_rounds_needed
    f_best_orders := F_best_orders
    b_best_orders := B_best_orders
    m_best_orders := PySem.W.mg_of X G a_best_orders
    k_best_orders := k_best_orders
    f_fewest := F_fewest
    b_fewest := B_fewest
    m_fewest := PySem.W.mg_of X G a_fewest
    k_fewest := k_fewest
    f_law_number := F_law_number
    b_law_number := B_law_number
    m_law_number := PySem.W.mg_of X G a_law_number
    k_law_number := k_law_number
    f_law_ups := F_law_ups
    b_law_ups := B_law_ups
    m_law_ups := PySem.W.mg_of X G a_law_ups
    k_law_ups := k_law_ups
    f_law_called := F_law_called
    b_law_called := B_law_called
    m_law_called := PySem.W.mg_of X G a_law_called
    k_law_called := k_law_called
    f_law_last := F_law_last
    b_law_last := B_law_last
    m_law_last := PySem.W.mg_of X G a_law_last
    k_law_last := k_law_last
    f_law_turns := F_law_turns
    b_law_turns := B_law_turns
    m_law_turns := PySem.W.mg_of X G a_law_turns
    k_law_turns := k_law_turns
    f_law := F_law
    b_law := B_law
    m_law := PySem.W.mg_of X G a_law
    k_law := k_law
    f_Fewest_init := F_Fewest_init
    b_Fewest_init := B_Fewest_init
    cl_Fewest := ⟨pg_Fewest, hd_Fewest, po_Fewest, sa_Fewest⟩
    k_Fewest := ⟨mk_Fewest, a_Fewest_init, i_Fewest_init, kc_Fewest⟩
    c_Fewest := PySem.W.mg_of X G aC_Fewest
    na_Fewest_orders := na_Fewest_orders
    na_Fewest_marks := na_Fewest_marks
    cd_longest_first := rfl
    hd_longest_first := ch_longest_first
    nt_longest_first := nt_longest_first }
  exact ⟨_, c_longest_first, P_longest_first, tb_longest_first, nt_longest_first, fun s u => .of_eq rfl, fun base kb nb B => ok_law T kb B⟩
theorem walk {l : PySem.W.OpenLaw} {q : Program} {loose : List Str} {XP : (Str → Option Value) → Heap → Prop} {YP : World → Heap → Prop} {d : DefRec} {K : Params → PySem.W.Frag} (hn : l.most = some 63) (hdf : d.params.defaults = [])
    (hfd : ((recsOf q).find? fun e => e.name == ("longest_first" : Str)).isSome = true)
    (hY : ∀ (w : World) (h : Heap), YP w h → (K w.params).In h)
    (F : ∀ (w : World) (mg : Str → Option Value) (fa : Addr) (h : Heap), (K w.params).In h → h.Ns mainGlobals mg → mg d.name = some (.ref fa) →
      ∃ (fd : FuncData) (c P : Addr), PySem.W.tabIn (K w.params) "longest_first" = some (c, P) ∧ (K w.params).lookup P = none ∧ (∀ (s : Shared) (u : Value), BindsTo s fd ⟨[u], []⟩ [("_law_script", u)]) ∧
        ∀ base : Heap, (K w.params).In base → base.Ns mainGlobals mg → BmOk mg base → FnOk l.prog w (K w.params) mg base CX0 8 fa fd ["_law_script"] (spLaw (K w.params) P)) :
    PySem.W.WalkO q loose XP YP l.row.toRowW d [] (fun f vs => PySem.call f vs) :=
  L2.walk_ofT (n := 63) (k := 8) (x := "_law_script") (y := "longest_first") (CX := CX0) (sp := spLaw) hn (by decide) hdf ⟨rfl, by decide, by decide⟩ hfd hY F (fun _ P H a ns hl hO hS => ⟨a, ns, rfl, hS, hl, ⟨[], hO.at' P (List.mem_singleton.mpr rfl), fun t ht => nomatch ht⟩, fun _ => rfl⟩) fun _ _ _ _ z => z
end Toy
open PySem PySem.W PyProof.Rows
set_option maxRecDepth 100000 in
set_option maxHeartbeats 0 in
theorem PySem.Challenge.cw_callchain_k03_fewest_by_all_holds : PySem.Challenge.rw_callchain_k03_fewest_by_all.Holds := by
  w_on; o_law; k_head; (case hw => w_witness2)
  k_fill
  refine Toy.walk (l := PySem.Challenge.rw_callchain_k03_fewest_by_all) rfl rfl (by kernel_rfl) (fun w h Y => PySem.W.km_in_of Y) ?F
  case F =>
    intro w mg fa h KX G hmg
    refine' Toy.all_mk KX G hmg ?z_bool ?z_enumerate ?z_int ?z_isinstance ?z_len ?z_list ?z_max ?z_min ?z_range ?z_reversed ?z_sorted ?z_sum ?g_MOST_PEOPLE ?a_is_number ?l_is_number ?cc_is_number ?k_is_number ?a_is_person ?l_is_person ?cc_is_person ?k_is_person ?a_is_ups ?l_is_ups ?cc_is_ups ?k_is_ups ?a_copied ?l_copied ?cc_copied ?k_copied ?a_take_ups ?l_take_ups ?cc_take_ups ?k_take_ups ?a_rows_of ?l_rows_of ?cc_rows_of ?k_rows_of ?a_longest_first ?l_longest_first ?cc_longest_first ?k_longest_first ?a_rounds_needed ?l_rounds_needed ?cc_rounds_needed ?k_rounds_needed ?a_best_orders ?l_best_orders ?cc_best_orders ?k_best_orders ?a_fewest ?l_fewest ?cc_fewest ?k_fewest ?a_law_number ?l_law_number ?cc_law_number ?k_law_number ?a_law_ups ?l_law_ups ?cc_law_ups ?k_law_ups ?a_law_called ?l_law_called ?cc_law_called ?k_law_called ?a_law_last ?l_law_last ?cc_law_last ?k_law_last ?a_law_turns ?l_law_turns ?cc_law_turns ?k_law_turns ?a_law ?l_law ?cc_law ?k_law ?aC_Fewest ?a_Fewest_init ?i_Fewest_init ?l_Fewest_init ?cc_Fewest_init ?k_Fewest_init ?pg_Fewest ?hd_Fewest ?po_Fewest ?sa_Fewest ?mk_Fewest ?kc_Fewest ?na_Fewest_orders ?na_Fewest_marks ?lc_longest_first ?vp_longest_first ?tb_longest_first ?ch_longest_first ?nt_longest_first
    (case z_bool => k_is)
    (case z_enumerate => k_is)
    (case z_int => k_is)
    (case z_isinstance => k_is)
    (case z_len => k_is)
    (case z_list => k_is)
    (case z_max => k_is)
    (case z_min => k_is)
    (case z_range => k_is)
    (case z_reversed => k_is)
    (case z_sorted => k_is)
    (case z_sum => k_is)
    (case g_MOST_PEOPLE => k_is)
    (case a_is_number => k_is)
    (case l_is_number => k_is)
    (case cc_is_number => k_is)
    (case k_is_number => k_is)
    (case a_is_person => k_is)
    (case l_is_person => k_is)
    (case cc_is_person => k_is)
    (case k_is_person => k_is)
    (case a_is_ups => k_is)
    (case l_is_ups => k_is)
    (case cc_is_ups => k_is)
    (case k_is_ups => k_is)
    (case a_copied => k_is)
    (case l_copied => k_is)
    (case cc_copied => k_is)
    (case k_copied => k_is)
    (case a_take_ups => k_is)
    (case l_take_ups => k_is)
    (case cc_take_ups => k_is)
    (case k_take_ups => k_is)
    (case a_rows_of => k_is)
    (case l_rows_of => k_is)
    (case cc_rows_of => k_is)
    (case k_rows_of => k_is)
    (case a_longest_first => k_is)
    (case l_longest_first => k_is)
    (case cc_longest_first => k_is)
    (case k_longest_first => k_is)
    (case a_rounds_needed => k_is)
    (case l_rounds_needed => k_is)
    (case cc_rounds_needed => k_is)
    (case k_rounds_needed => k_is)
    (case a_best_orders => k_is)
    (case l_best_orders => k_is)
    (case cc_best_orders => k_is)
    (case k_best_orders => k_is)
    (case a_fewest => k_is)
    (case l_fewest => k_is)
    (case cc_fewest => k_is)
    (case k_fewest => k_is)
    (case a_law_number => k_is)
    (case l_law_number => k_is)
    (case cc_law_number => k_is)
    (case k_law_number => k_is)
    (case a_law_ups => k_is)
    (case l_law_ups => k_is)
    (case cc_law_ups => k_is)
    (case k_law_ups => k_is)
    (case a_law_called => k_is)
    (case l_law_called => k_is)
    (case cc_law_called => k_is)
    (case k_law_called => k_is)
    (case a_law_last => k_is)
    (case l_law_last => k_is)
    (case cc_law_last => k_is)
    (case k_law_last => k_is)
    (case a_law_turns => k_is)
    (case l_law_turns => k_is)
    (case cc_law_turns => k_is)
    (case k_law_turns => k_is)
    (case a_law => k_is)
    (case l_law => k_is)
    (case cc_law => k_is)
    (case k_law => k_is)
    (case aC_Fewest => k_is)
    (case a_Fewest_init => k_is)
    (case i_Fewest_init => k_is)
    (case l_Fewest_init => k_is)
    (case cc_Fewest_init => k_is)
    (case k_Fewest_init => k_is)
    (case pg_Fewest => k_is)
    (case hd_Fewest => k_is)
    (case po_Fewest => k_is)
    (case sa_Fewest => k_is)
    (case mk_Fewest => k_is)
    (case kc_Fewest => k_is)
    (case na_Fewest_orders => k_is)
    (case na_Fewest_marks => k_is)
    (case lc_longest_first => k_is)
    (case vp_longest_first => rfl)
    (case tb_longest_first => kernel_rfl)
    (case ch_longest_first => kernel_rfl)
    (case nt_longest_first => kernel_rfl)
